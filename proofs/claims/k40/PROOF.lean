import PyProof.Rows.All
import Wide.All
import OpenK.AllK
import Wide.FinOn
import KE.KStateDown
import Lean
import HandS.ForMost
import HandS.Defaults
import HandS.Codes
import HandS.Wide
import HandS.Flow
import HandS.Style
import HandS.Conv
import HandS.Zip
import HandS.Strs
import HandS.TupAny
import HandS.NoneIn
import HandS.IsInst
import HandS.Small
import HandS.Star
import HandS.Head0
import HandS.Head1
import HandS.Head2
import HandS.HeadEnd
import HandS.HeadHook1
import HandS.HeadHook2
import HandS.HeadHook4
import HandS.ExcInit
import HandS.ExcField
import HandS.ExcIs
import HandS.SetFor
import HandS.ExcOwn
import HandS.Ends
import KE.GoesEnumKw
import HandS.SetKeys
import HandS.More
import PyProof.NeKinds
import KE.GoesEnum
import HandS.RevTup
import HandS.Rev
import HandS.TryMany
import HandS.Nested
import PyProof.SeqIndex
import HandS.DictComp
import KE.SortData
import KE.DataMinMax
import KE.KRevSl
import HandS.Remove
import PyProof.Rows.StrInSeq3
import KE.GoesNew
import HandS.CallLocal
import KE.KUnpackStar
import KE.LtData
import HandS.Lambda
import HandS.Deep
import HandS.DictSub
import HandS.HeadHook3
import PySem.Challenge.RW_turndoors_k40_whole_who_can_meet
set_option Elab.async false
set_option linter.all false
set_option maxRecDepth 100000
set_option maxHeartbeats 4000000
namespace Td
open PySem PySem.Spec PyProof.Rows L2
/-! ### a def of the text, its call -/
abbrev FnP (K : PySem.W.Frag) (x : Str) (st : Stmt) (f : Addr) (fd : FuncData) : Prop := FunD K x x (defArgs st) (defBody st) (defScope st) [] [] f fd
abbrev Cal (P : Program) (w : World) (K : PySem.W.Frag) (mg : Str → Option Value) (base : Heap) (k : Nat) (x : Str) (sp : Sp) : Prop := C8.Cal P w K mg base k x sp []
theorem cal_of {P : Program} {w : World} {K : PySem.W.Frag} {mg : Str → Option Value} {base : Heap} {k : Nat} {x : Str} {sp : Sp} {f : Addr} {fd : FuncData} {ps : List Str}
    (F : FnOk P w K mg base C8.CX0 k f fd ps sp) (hm : mg x = some (.ref f)) (kp : PySem.W.keepIn K (.ref f) = true) (b : Binds K fd ps []) : Cal P w K mg base k x sp := ⟨f, fd, ps, [], F, hm, kp, b, .nil⟩
/-! ### heaps: all but b stays -/
def Ch (b : Addr) (H H' : Hp) : Prop := ∀ a o, a ≠ b → H a = some o → H' a = some o
theorem Ch.refl (b : Addr) (H : Hp) : Ch b H H := fun _ _ _ h => h
theorem Ch.trans {b : Addr} {H H1 H2 : Hp} (x : Ch b H H1) (y : Ch b H1 H2) : Ch b H H2 := fun a o n h => y a o n (x a o n h)
theorem Ch.of {b : Addr} {H H1 : Hp} (x : Same H H1) : Ch b H H1 := fun a o _ h => x a o h
theorem same_new {H : Hp} {p : Addr} (h : H p = none) (o : HO) : Same H (upd H p o) := fun b u q => by rw [upd_ne (ne_of_none q h)]; exact q
theorem Ch.new {b p : Addr} {H H1 : Hp} (x : Ch b H H1) (h : H1 p = none) (o : HO) : Ch b H (upd H1 p o) := x.trans (Ch.of (same_new h o))
theorem Ch.upd {b : Addr} {H H1 : Hp} (x : Ch b H H1) (o : HO) : Ch b H (upd H1 b o) := fun a u n h => by rw [upd_ne n]; exact x a u n h
theorem Ch.none {b p : Addr} {H H1 : Hp} (x : Ch b H H1) (hb : p ≠ b) (h : H1 p = none) : H p = none := by
  cases q : H p with
  | none => rfl
  | some o => rw [x p o hb q] at h; cases h
/-- the box of the law's drawing -/
def Box (H : Hp) (b : Addr) : Prop := ∃ c s n : Int, H b = some (.lst [.int c, .int s, .int n]) ∧ 0 ≤ c
theorem Box.new {H : Hp} {b p : Addr} (B : Box H b) (h : H p = none) (o : HO) : Box (upd H p o) b := by
  obtain ⟨c, s, n, e, z⟩ := B
  exact ⟨c, s, n, by rw [upd_ne (ne_of_none e h)]; exact e, z⟩
theorem Box.ne {H : Hp} {b p : Addr} (B : Box H b) (h : H p = none) : p ≠ b := by
  obtain ⟨c, s, n, e, z⟩ := B
  exact fun q => by rw [q, e] at h; cases h
theorem Box.neT {H : Hp} {b p : Addr} {xs : List V} (B : Box H b) (h : H p = some (.tup xs)) : p ≠ b := by
  obtain ⟨c, s, n, e, z⟩ := B
  exact fun q => by rw [q, e] at h; cases h
/-! ### promises of the law's drawing -/
def spBox (K : PySem.W.Frag) : Sp := fun vs H Q _ => ∃ (a : Addr) (ns : List Int) (k : Int), vs = [.ref a, .int k] ∧ SqL K H a (ns.map V.int) ∧ ns.length ≤ 63 ∧ 0 ≤ k ∧ ∀ p H', Same H H' → H p = none → Box H' p → Q (.ref p) H'
def spTake : Sp := fun vs H Q _ => ∃ (b : Addr) (m : Int), vs = [.ref b, .int m] ∧ Box H b ∧ 0 < m ∧ m < 1073741824 ∧ ∀ r H', 0 ≤ r → r < m → Box H' b → Ch b H H' → Q (.int r) H'
/-- a name: one to six small letters -/
def Nm (x : Str) : Prop := 1 ≤ x.length ∧ x.length ≤ 6 ∧ ∀ c ∈ x.cps.toList, 97 ≤ c ∧ c ≤ 122
def spNames : Sp := fun vs H Q _ => ∃ (b : Addr) (m : Int), vs = [.ref b, .int m] ∧ Box H b ∧ 1 ≤ m ∧ m ≤ 26 ∧
  ∀ (p : Addr) (ss : List Str) H', H p = none → H' p = some (.lst (ss.map V.str)) → ss.length = m.toNat → ss.Nodup → (∀ x ∈ ss, Nm x) → Box H' b → Ch b H H' → Q (.ref p) H'
/-! ### the drawn names -/
abbrev letters : Str := "abcdefghijklmnopqrstuvwxyz"
theorem letter_nat : ∀ n : Fin 26, letters.cps.toList[n.val]? = some (97 + n.val) := by decide +kernel
theorem letter {i : Int} (h0 : 0 ≤ i) (h1 : i < 26) : atI letters.cps.toList i = some (97 + i.toNat) := by
  obtain ⟨n, rfl⟩ : ∃ n : Nat, i = (n : Int) := ⟨i.toNat, by omega⟩
  have e := letter_nat ⟨n, by omega⟩
  rw [atI_nat e]
  rfl
def low (l : List Nat) : Prop := ∀ c ∈ l, 97 ≤ c ∧ c ≤ 122
def nk (st : List Nat) (a : Nat) (fi se : Int) (k : Nat) : List Nat := st.take a ++ ([97 + ((fi + se * (k : Int)) % 26).toNat] ++ st.drop a)
theorem nk_low {st : List Nat} {a : Nat} {fi se : Int} {k : Nat} (h : low st) : low (nk st a fi se k) := fun c hc => by
  unfold nk at hc
  rcases List.mem_append.mp hc with hc | hc
  · exact h c (List.mem_of_mem_take hc)
  · rcases List.mem_append.mp hc with hc | hc
    · have e := List.mem_singleton.mp hc
      have z := Int.emod_lt_of_pos (fi + se * (k : Int)) (show (0 : Int) < 26 by decide)
      have y := Int.emod_nonneg (fi + se * (k : Int)) (show (26 : Int) ≠ 0 by decide)
      omega
    · exact h c (List.mem_of_mem_drop hc)
theorem nk_len {st : List Nat} {a : Nat} {fi se : Int} {k : Nat} : (nk st a fi se k).length = st.length + 1 := by
  unfold nk
  rw [List.length_append, List.length_append, List.length_take, List.length_drop, List.length_singleton]
  omega
def okStep (se : Int) : Prop := se = 7 ∨ se = 1 ∨ se = 11 ∨ se = 25
theorem nk_inj {st : List Nat} {a : Nat} {fi se : Int} {i j : Nat} (hs : okStep se) (hi : i < 26) (hj : j < 26) (e : nk st a fi se i = nk st a fi se j) : i = j := by
  unfold nk at e
  have e1 := List.append_cancel_left e
  have e2 := List.append_cancel_right e1
  have e3 : 97 + ((fi + se * (i : Int)) % 26).toNat = 97 + ((fi + se * (j : Int)) % 26).toNat := by
    injection e2
  have z := Int.emod_nonneg (fi + se * (i : Int)) (show (26 : Int) ≠ 0 by decide)
  have y := Int.emod_nonneg (fi + se * (j : Int)) (show (26 : Int) ≠ 0 by decide)
  have e4 : (fi + se * (i : Int)) % 26 = (fi + se * (j : Int)) % 26 := by omega
  rcases hs with rfl | rfl | rfl | rfl <;> omega
theorem nm_S {l : List Nat} (h : low l) (h1 : 1 ≤ l.length) (h2 : l.length ≤ 6) : Nm (SX.S l) := ⟨by rw [SX.S_len]; exact h1, by rw [SX.S_len]; exact h2, h⟩
def nks (st : List Nat) (a : Nat) (fi se : Int) (n : Nat) : List Str := (List.range n).map fun k => SX.S (nk st a fi se k)
theorem nks_succ {st : List Nat} {a : Nat} {fi se : Int} {n : Nat} : nks st a fi se (n + 1) = nks st a fi se n ++ [SX.S (nk st a fi se n)] := by
  unfold nks
  rw [List.range_succ, List.map_append]
  rfl
theorem nks_len {st : List Nat} {a : Nat} {fi se : Int} {n : Nat} : (nks st a fi se n).length = n := by
  unfold nks
  rw [List.length_map, List.length_range]
theorem nks_nm {st : List Nat} {a : Nat} {fi se : Int} {n : Nat} (h : low st) (h5 : st.length ≤ 5) : ∀ x ∈ nks st a fi se n, Nm x := fun x hx => by
  unfold nks at hx
  obtain ⟨k, _, rfl⟩ := List.mem_map.mp hx
  exact nm_S (nk_low h) (by rw [nk_len]; omega) (by rw [nk_len]; omega)
theorem nks_nd {st : List Nat} {a : Nat} {fi se : Int} (hs : okStep se) : ∀ {n : Nat}, n ≤ 26 → (nks st a fi se n).Nodup
  | 0, _ => List.nodup_nil
  | n + 1, h => by
    rw [nks_succ]
    refine List.nodup_append.mpr ⟨nks_nd hs (by omega), List.nodup_cons.mpr ⟨by simp, List.nodup_nil⟩, fun x hx y hy e => ?_⟩
    rw [List.mem_singleton.mp hy] at e
    unfold nks at hx
    obtain ⟨k, hk, rfl⟩ := List.mem_map.mp hx
    have hk2 : k < n := List.mem_range.mp hk
    have e2 := nk_inj hs (by omega) (by omega) (SX.S_inj e)
    omega
theorem set_nd {l : List Str} {i : Nat} {x : Str} (h : l.Nodup) (hx : x ∉ l) : (l.set i x).Nodup := by
  induction l generalizing i with
  | nil => exact List.nodup_nil
  | cons y l ih =>
    obtain ⟨h1, h2⟩ := List.nodup_cons.mp h
    cases i with
    | zero => exact List.nodup_cons.mpr ⟨fun z => hx (List.mem_cons_of_mem _ z), h2⟩
    | succ i =>
      refine List.nodup_cons.mpr ⟨fun z => ?_, ih h2 fun z => hx (List.mem_cons_of_mem _ z)⟩
      rcases List.mem_or_eq_of_mem_set z with z | z
      · exact h1 z
      · exact hx (by rw [← z]; exact List.mem_cons_self ..)
theorem join_nil : ∀ cs : List Nat, TL.joinL [] (cs.map fun c => [c]) = cs
  | [] => rfl
  | [c] => rfl
  | c :: d :: r => by
    have e := join_nil (d :: r)
    show [c] ++ ([] ++ TL.joinL [] ([d] :: r.map fun c => [c])) = c :: d :: r
    have e2 : TL.joinL [] ([d] :: r.map fun c => [c]) = d :: r := e
    rw [e2]
    rfl
theorem inV_str {x : Str} {xs : List Str} : inV (.str x) (xs.map V.str) = decide (x ∈ xs) := by
  induction xs with
  | nil => rfl
  | cons y ys ih =>
    show (eqV (.str y) (.str x) || inV (.str x) (ys.map V.str)) = decide (x ∈ y :: ys)
    have e : eqV (.str y) (.str x) = (y == x) := rfl
    rw [ih, e]
    by_cases h : y = x
    · subst h
      simp
    · have h2 : ¬ x = y := fun z => h z.symm
      simp [h, h2]
theorem flat_strs (xs : List Str) : (xs.map V.str).all flatV = true := by
  induction xs with
  | nil => rfl
  | cons y ys ih => exact ih
theorem yes_ {σ : L2.St} {H : Hp} {Q : Bool → Hp → Prop} (h : Q true H) : tYes σ H Q := h
theorem lcY {σ : L2.St} {H : Hp} {A B : Hp → Prop} (h : A H) : tYes σ H (fun b H3 => if b = true then A H3 else B H3) := by
  show (if true = true then A H else B H)
  rw [if_pos rfl]
  exact h
/-! ### halls, states: a tuple of texts, a tuple of tuples of texts -/
def RowsAt (H : Hp) (as : List Addr) (rows : List (List Str)) : Prop := as.length = rows.length ∧ ∀ (i : Nat) (a : Addr) (r : List Str), as[i]? = some a → rows[i]? = some r → H a = some (.tup (r.map V.str))
def Rows (H : Hp) (d : Addr) (rows : List (List Str)) : Prop := ∃ as : List Addr, H d = some (.tup (as.map V.ref)) ∧ RowsAt H as rows
def HS (H : Hp) (h : Addr) (ss : List Str) (rows : List (List Str)) : Prop := ∃ r d : Addr, H h = some (.tup [.ref r, .ref d]) ∧ H r = some (.tup (ss.map V.str)) ∧ Rows H d rows
/-- tuples stay -/
def Tu (H H' : Hp) : Prop := ∀ a xs, H a = some (.tup xs) → H' a = some (.tup xs)
theorem Tu.refl (H : Hp) : Tu H H := fun _ _ h => h
theorem Tu.trans {H H1 H2 : Hp} (x : Tu H H1) (y : Tu H1 H2) : Tu H H2 := fun a xs h => y a xs (x a xs h)
theorem Tu.of {b : Addr} {H H' : Hp} (x : Ch b H H') (B : Box H b) : Tu H H' := fun a _ h => x a _ (B.neT h) h
theorem Tu.same {H H' : Hp} (x : Same H H') : Tu H H' := fun a _ h => x a _ h
theorem Tu.new {H : Hp} {p : Addr} (h : H p = none) (o : HO) : Tu H (upd H p o) := Tu.same (same_new h o)
theorem RowsAt.tu {H H' : Hp} {as : List Addr} {rows : List (List Str)} (x : Tu H H') (h : RowsAt H as rows) : RowsAt H' as rows := ⟨h.1, fun i a r e1 e2 => x _ _ (h.2 i a r e1 e2)⟩
theorem Rows.tu {H H' : Hp} {d : Addr} {rows : List (List Str)} (x : Tu H H') (h : Rows H d rows) : Rows H' d rows := by
  obtain ⟨as, h1, h2⟩ := h
  exact ⟨as, x _ _ h1, h2.tu x⟩
theorem HS.tu {H H' : Hp} {h : Addr} {ss : List Str} {rows : List (List Str)} (x : Tu H H') (y : HS H h ss rows) : HS H' h ss rows := by
  obtain ⟨r, d, h1, h2, h3⟩ := y
  exact ⟨r, d, x _ _ h1, x _ _ h2, h3.tu x⟩
theorem RowsAt.nil {H : Hp} : RowsAt H [] [] := ⟨rfl, fun i a r e => by cases e⟩
theorem RowsAt.snoc {H : Hp} {as : List Addr} {rows : List (List Str)} {a : Addr} {r : List Str} (h : RowsAt H as rows) (ha : H a = some (.tup (r.map V.str))) : RowsAt H (as ++ [a]) (rows ++ [r]) := by
  refine ⟨by rw [List.length_append, List.length_append, h.1]; rfl, fun i b s e1 e2 => ?_⟩
  by_cases hi : i < as.length
  · rw [List.getElem?_append_left hi] at e1
    rw [List.getElem?_append_left (by rw [← h.1]; exact hi)] at e2
    exact h.2 i b s e1 e2
  · have hl := h.1
    rw [List.getElem?_append_right (by omega)] at e1 e2
    have hi2 : i = as.length := by
      have z := (List.getElem?_eq_some_iff.mp e1).1
      rw [List.length_singleton] at z
      omega
    subst hi2
    rw [Nat.sub_self] at e1
    rw [hl, Nat.sub_self] at e2
    cases e1
    cases e2
    exact ha
structure HallV (rooms : List Str) (rows : List (List Str)) : Prop where
  r1 : 1 ≤ rooms.length
  r8 : rooms.length ≤ 8
  nd : rooms.Nodup
  nm : ∀ x ∈ rooms, Nm x
  d12 : rows.length ≤ 12
  row : ∀ r ∈ rows, ∃ n a b : Str, r = [n, a, b] ∧ Nm n ∧ a ∈ rooms ∧ b ∈ rooms ∧ a ≠ b
  dn : (rows.map fun r => r.headD "").Nodup
def spHall : Sp := fun vs H Q _ => ∃ (b : Addr) (m1 m2 : Int), vs = [.ref b, .int m1, .int m2] ∧ Box H b ∧ 1 ≤ m1 ∧ m1 ≤ 8 ∧ 0 ≤ m2 ∧ m2 ≤ 12 ∧
  ∀ p rooms rows H', HS H' p rooms rows → HallV rooms rows → (rooms.length : Int) ≤ m1 → (rows.length : Int) ≤ m2 → Box H' b → Ch b H H' → Q (.ref p) H'
theorem nodup_sub : ∀ {l m : List Str}, l.Nodup → (∀ x ∈ l, x ∈ m) → l.length ≤ m.length
  | [], _, _, _ => Nat.zero_le _
  | x :: l, m, h, s => by
    obtain ⟨h1, h2⟩ := List.nodup_cons.mp h
    have hx := s x (List.mem_cons_self ..)
    have e := nodup_sub (m := m.erase x) h2 fun y hy => (List.mem_erase_of_ne (fun z => h1 (by rw [← z]; exact hy))).mpr (s y (List.mem_cons_of_mem _ hy))
    have e2 := List.length_erase_of_mem hx
    have e3 : 0 < m.length := List.length_pos_of_mem hx
    rw [List.length_cons]
    omega
theorem titles_nd {ns ts : List Str} (hn : ns.Nodup) (ht : ts.Nodup) : (ns ++ ts.filter fun t => !decide (t ∈ ns)).Nodup := by
  refine List.nodup_append.mpr ⟨hn, ht.filter _, fun x hx y hy e => ?_⟩
  have z := (List.mem_filter.mp hy).2
  rw [← e, decide_eq_true hx] at z
  cases z
theorem filter_two (p : Str → Bool) : ∀ l : List Str, (l.filter p).length + (l.filter fun t => !p t).length = l.length
  | [] => rfl
  | x :: l => by
    have e := filter_two p l
    rw [List.filter_cons, List.filter_cons]
    cases h : p x
    · simp only [Bool.not_false, if_true, Bool.false_eq_true, if_false, List.length_cons]
      omega
    · simp only [Bool.not_true, if_true, Bool.false_eq_true, if_false, List.length_cons]
      omega
theorem titles_len {ns ts : List Str} (ht : ts.Nodup) : ts.length ≤ (ns ++ ts.filter fun t => !decide (t ∈ ns)).length := by
  have e := filter_two (fun t => decide (t ∈ ns)) ts
  have e2 : (ts.filter fun t => decide (t ∈ ns)).length ≤ ns.length := nodup_sub (ht.filter _) fun x hx => of_decide_eq_true (List.mem_filter.mp hx).2
  rw [List.length_append]
  omega
theorem titles_nm {ns ts : List Str} (hn : ∀ x ∈ ns, Nm x) (ht : ∀ x ∈ ts, Nm x) : ∀ x ∈ (ns ++ ts.filter fun t => !decide (t ∈ ns)), Nm x := fun x hx => by
  rcases List.mem_append.mp hx with h | h
  · exact hn x h
  · exact ht x (List.mem_filter.mp h).1
theorem atS {ss : List Str} {j : Int} (h0 : 0 ≤ j) (h1 : j < (ss.length : Int)) : ∃ x, ss[j.toNat]? = some x ∧ atI (ss.map V.str) j = some (.str x) := by
  obtain ⟨m, rfl⟩ : ∃ m : Nat, j = (m : Int) := ⟨j.toNat, by omega⟩
  have hj : m < ss.length := by omega
  exact ⟨ss[m], List.getElem?_eq_getElem hj, atI_nat (by rw [List.getElem?_map, List.getElem?_eq_getElem hj]; rfl)⟩
theorem Box.upd {H : Hp} {b p : Addr} (B : Box H b) (h : p ≠ b) (o : HO) : Box (upd H p o) b := by
  obtain ⟨c, s, n, e, z⟩ := B
  exact ⟨c, s, n, by rw [upd_ne h.symm]; exact e, z⟩
/-- a store to what H0 does not know -/
theorem Ch.mut {b p : Addr} {H0 H : Hp} (x : Ch b H0 H) (h : H0 p = Option.none) (o : HO) : Ch b H0 (L2.upd H p o) := fun a u na ha => by
  rw [upd_ne (ne_of_none ha h)]
  exact x a u na ha
/-! ### names in ascending order -/
def Up : Str → List Str → Prop
  | _, [] => True
  | p, x :: r => p.cps.toList < x.cps.toList ∧ Up x r
theorem lt_of_not {a b : Str} (h : PySem.Spec.ltCps b.cps.toList a.cps.toList = false) (hn : a ≠ b) : a.cps.toList < b.cps.toList := by
  rw [PyProof.Rows.ltCps_eq] at h
  have h1 : ¬ b.cps.toList < a.cps.toList := of_decide_eq_false h
  by_cases h2 : a.cps.toList < b.cps.toList
  · exact h2
  · exact absurd (TL.ext_tl (List.le_antisymm (show a.cps.toList ≤ b.cps.toList from h1) (show b.cps.toList ≤ a.cps.toList from h2))) hn
theorem up_rising : ∀ {r : List Str} {p : Str}, risingS p r = true → (p :: r).Nodup → Up p r
  | [], _, _, _ => True.intro
  | x :: r, p, h, hn => by
    have h1 : (!PySem.Spec.ltCps x.cps.toList p.cps.toList && risingS x r) = true := h
    rw [Bool.and_eq_true, Bool.not_eq_true'] at h1
    obtain ⟨n1, n2⟩ := List.nodup_cons.mp hn
    exact ⟨lt_of_not h1.1 fun e => n1 (by rw [e]; exact List.mem_cons_self ..), up_rising h1.2 n2⟩
theorem nil_lt {x : Str} (h : 1 ≤ x.length) : ("" : Str).cps.toList < x.cps.toList := by
  have e : ("" : Str).cps.toList = [] := by decide
  rw [e]
  have h2 : 1 ≤ x.cps.toList.length := by
    rw [Array.length_toList]
    exact h
  generalize x.cps.toList = l at h2
  cases l with
  | nil => cases h2
  | cons c l => exact List.Lex.nil
theorem up_sorted {ys : List Str} (h : sortedS ys = true) (hn : ys.Nodup) (h1 : ∀ y ∈ ys, Nm y) : Up "" ys := by
  cases ys with
  | nil => exact True.intro
  | cons x r => exact ⟨nil_lt (h1 x (List.mem_cons_self ..)).1, up_rising h hn⟩
structure StV (rooms : List Str) (rows : List (List Str)) (faces : List Str) (places : List (List Str)) : Prop where
  fl : faces.length = rows.length
  fc : ∀ (i : Nat) (f : Str) (r : List Str), faces[i]? = some f → rows[i]? = some r → ∃ n a b : Str, r = [n, a, b] ∧ (f = a ∨ f = b)
  p5 : places.length ≤ 5
  pl : ∀ p ∈ places, ∃ w r : Str, p = [w, r] ∧ Nm w ∧ r ∈ rooms
  up : Up "" (places.map fun p => p.headD "")
def spState : Sp := fun vs H Q _ => ∃ (b h : Addr) (m : Int) (rooms : List Str) (rows : List (List Str)), vs = [.ref b, .ref h, .int m] ∧ Box H b ∧ HS H h rooms rows ∧ HallV rooms rows ∧ 0 ≤ m ∧ m ≤ 5 ∧
  ∀ p faces places H', HS H' p faces places → StV rooms rows faces places → (places.length : Int) ≤ m → Box H' b → Ch b H H' → Q (.ref p) H'
theorem cut_to {xs : List V} {m : Int} (h : 0 ≤ m) : cutV xs none (some m) = xs.take m.toNat := by
  obtain ⟨k, rfl⟩ : ∃ k : Nat, m = (k : Int) := ⟨m.toNat, by omega⟩
  unfold cutV
  rw [HT.sIx_none, HT.sIx_nat, List.drop_zero, Nat.sub_zero, Int.toNat_natCast]
  by_cases g : k ≤ xs.length
  · rw [Nat.min_eq_left g]
  · rw [Nat.min_eq_right (by omega), List.take_of_length_le (Nat.le_refl _), List.take_of_length_le (by omega)]
theorem RowsAt.row {H : Hp} {as : List Addr} {rows : List (List Str)} (h : RowsAt H as rows) {i : Nat} {x : V} (hx : (as.map V.ref)[i]? = some x) : ∃ a r, x = .ref a ∧ rows[i]? = some r ∧ H a = some (.tup (r.map V.str)) := by
  rw [List.getElem?_map] at hx
  cases z : as[i]? with
  | none => rw [z] at hx; cases hx
  | some a =>
    rw [z] at hx
    have hi : i < rows.length := by
      rw [← h.1]
      exact (List.getElem?_eq_some_iff.mp z).1
    exact ⟨a, rows[i], (Option.some.inj hx).symm, List.getElem?_eq_getElem hi, h.2 i a _ z (List.getElem?_eq_getElem hi)⟩
theorem str_at {ss : List Str} {i : Nat} {x : V} (hx : (ss.map V.str)[i]? = some x) : ∃ t, ss[i]? = some t ∧ x = .str t := by
  rw [List.getElem?_map] at hx
  cases z : ss[i]? with
  | none => rw [z] at hx; cases hx
  | some t => rw [z] at hx; exact ⟨t, rfl, (Option.some.inj hx).symm⟩
theorem take_snoc {α : Type} {l : List α} {i : Nat} {x : α} (h : l[i]? = some x) : l.take (i + 1) = l.take i ++ [x] := by
  rw [List.take_succ, h]
  rfl
theorem sz100 {n : Nat} (h : n ≤ 1000) : n < sizeLine := small1000 h
/-! ### what some calls ask, by K alone -/
abbrev rLn (K : PySem.W.Frag) : List V → Hp → VK → Prop := fun xs H Q => ∃ p ys, xs = [.ref p] ∧ (SqL K H p ys ∨ SqT K H p ys) ∧ Q (.int ys.length) H
abbrev rTpOf (K : PySem.W.Frag) : List V → Hp → VK → Prop := fun xs H Q => ∃ p ys, xs = [.ref p] ∧ ((SqL K H p ys ∧ ∀ l, H l = none → Q (.ref l) (L2.upd H l (.tup ys))) ∨ (SqT K H p ys ∧ Q (.ref p) H))
abbrev rLsOf (K : PySem.W.Frag) : List V → Hp → VK → Prop := fun xs H Q => ∃ p ys, xs = [.ref p] ∧ (SqL K H p ys ∨ SqT K H p ys) ∧ ∀ l, H l = none → Q (.ref l) (L2.upd H l (.lst ys))
abbrev rJn (K : PySem.W.Frag) : V → List V → Hp → VK → Prop := fun x xs H Q => ∃ a p, ∃ ys : List Str, x = .str a ∧ xs = [.ref p] ∧ (SqL K H p (ys.map V.str) ∨ SqT K H p (ys.map V.str)) ∧ (ys.map (·.length)).sum + ys.length * a.length ≤ 16777216 ∧ Q (.str (Txt.join a ys)) H
/-! ### any walk in a comprehension, in a for -/
theorem lc_gen {J : It} {n : Nat} {g : TG} {tt : TT} {te : TE} {vs : List Nat} {σ : L2.St} {H1 : Hp} {D : Addr} {Qd : Hp → Prop} (Pv : Nat → Hp → Prop) (h0 : Pv 0 (L2.upd H1 D (.lst [])))
    (hs : ∀ i H, i < n → Pv i H → J.go i H ∧ ∀ x H', J.yld i H x H' → g x (wipe σ vs) H' fun σ2 H2 => wipe σ2 vs = wipe σ vs ∧ tt σ2 H2 fun b H3 =>
      if b = true then te σ2 H3 fun y H4 => ∃ acc, H4 D = some (.lst acc) ∧ acc.length < sizeLine ∧ Pv (i + 1) (L2.upd H4 D (.lst (acc ++ [y]))) else Pv (i + 1) H3) (hd : ∀ H, Pv n H → J.stop n H ∧ Qd H) :
    ∃ W : Nat → Nat → Hp → Prop, (∃ m, W 0 m (L2.upd H1 D (.lst []))) ∧ ∀ i m H, W i m H →
      (J.stop i H ∧ Qd H) ∨ (J.go i H ∧ ∃ Nx : Hp → Prop, (∀ H', Nx H' → ∃ m', m' < m ∧ W (i + 1) m' H') ∧ ∀ x H', J.yld i H x H' → g x (wipe σ vs) H' fun σ2 H2 => wipe σ2 vs = wipe σ vs ∧ tt σ2 H2 fun b H3 =>
        if b = true then te σ2 H3 fun y H4 => ∃ acc, H4 D = some (.lst acc) ∧ acc.length < sizeLine ∧ Nx (L2.upd H4 D (.lst (acc ++ [y]))) else Nx H3) := by
  refine ⟨fun i m H => m = n - i ∧ i ≤ n ∧ Pv i H, ⟨n, by simp, Nat.zero_le _, h0⟩, ?_⟩
  rintro i m H ⟨rfl, hi, p⟩
  by_cases hlt : i < n
  · obtain ⟨g1, g2⟩ := hs i H hlt p
    exact .inr ⟨g1, Pv (i + 1), fun H' p' => ⟨n - (i + 1), by omega, rfl, hlt, p'⟩, g2⟩
  · have e : i = n := by omega
    subst e
    exact .inl (hd H p)
theorem for_gen {J : It} {n : Nat} {g : TG} {tb : TS} {D : Ends} {σ : L2.St} {H : Hp} (Pv : Nat → L2.St → Hp → Prop) (h0 : Pv 0 σ H)
    (hs : ∀ i σ H, i < n → Pv i σ H → J.go i H ∧ ∀ x H', J.yld i H x H' → g x σ H' fun σ2 H2 => tb { D with nx := Pv (i + 1), ct := Pv (i + 1), bk := D.nx } σ2 H2) (hd : ∀ σ H, Pv n σ H → J.stop n H ∧ D.nx σ H) :
    ∃ W : Nat → Nat → L2.St → Hp → Prop, (∃ m, W 0 m σ H) ∧ ∀ i m σ H, W i m σ H →
      (J.stop i H ∧ D.nx σ H) ∨ (J.go i H ∧ ∃ N : L2.St → Hp → Prop, (∀ σ' H', N σ' H' → ∃ m', m' < m ∧ W (i + 1) m' σ' H') ∧ ∀ x H', J.yld i H x H' → g x σ H' fun σ2 H2 => tb { D with nx := N, ct := N, bk := D.nx } σ2 H2) := by
  refine ⟨fun i m σ H => m = n - i ∧ i ≤ n ∧ Pv i σ H, ⟨n, by simp, Nat.zero_le _, h0⟩, ?_⟩
  rintro i m σ H ⟨rfl, hi, p⟩
  by_cases hlt : i < n
  · obtain ⟨g1, g2⟩ := hs i σ H hlt p
    exact .inr ⟨g1, Pv (i + 1), fun σ' H' p' => ⟨n - (i + 1), by omega, rfl, hlt, p'⟩, g2⟩
  · have e : i = n := by omega
    subst e
    exact .inl (hd σ H p)
/-! ### data: texts, numbers, truth values, None, tuples of these -/
def Sc (x : V) (d : PyData) : Prop := (∃ s, x = .str s ∧ d = .str s) ∨ (∃ b, x = .bl b ∧ d = .bool b) ∨ (∃ i, x = .int i ∧ d = .int i) ∨ (x = .non ∧ d = .none)
def DR (H : Hp) : Nat → V → PyData → Prop
  | 0, _, _ => False
  | n + 1, x, d => Sc x d ∨ ∃ (a : Addr) (xs : List V) (ds : List PyData), x = .ref a ∧ d = .tuple ds ∧ H a = some (.tup xs) ∧ (xs.length = ds.length ∧ ds.length ≤ 1000) ∧ ∀ (i : Nat) (v : V) (e : PyData), xs[i]? = some v → ds[i]? = some e → DR H n v e
theorem DR.tu {H H' : Hp} (t : Tu H H') : ∀ {n : Nat} {x : V} {d : PyData}, DR H n x d → DR H' n x d
  | 0, _, _, h => h
  | n + 1, x, d, h => by
    rcases h with h | ⟨a, xs, ds, e1, e2, h1, h2, h3⟩
    · exact .inl h
    · exact .inr ⟨a, xs, ds, e1, e2, t _ _ h1, h2, fun i v e a1 a2 => DR.tu t (h3 i v e a1 a2)⟩
theorem Sc.eq {x y : V} {d : PyData} (h1 : Sc x d) (h2 : Sc y d) : x = y := by
  rcases h1 with ⟨s, rfl, rfl⟩ | ⟨s, rfl, rfl⟩ | ⟨s, rfl, rfl⟩ | ⟨rfl, rfl⟩ <;> rcases h2 with ⟨t, rfl, e⟩ | ⟨t, rfl, e⟩ | ⟨t, rfl, e⟩ | ⟨rfl, e⟩ <;> first | rfl | (injection e with e; subst e; rfl) | (cases e)
theorem Sc.not_tup {x : V} {ds : List PyData} (h : Sc x (.tuple ds)) : False := by
  rcases h with ⟨s, _, e⟩ | ⟨s, _, e⟩ | ⟨s, _, e⟩ | ⟨_, e⟩ <;> cases e
theorem Sc.ty {K : PySem.W.Frag} {x : V} {d : PyData} (h : Sc x d) : ∃ t : String, (∀ H : Hp, TyX K H x (.type t)) ∧ scal x x = true ∧ (∃ b, PySem.W.kitOne K (.type t) (.type "bool") = some b) ∧ (∃ b, PySem.W.kitOne K (.type t) (.type "str") = some b) ∧
    PySem.W.kitOne K (.type t) (.type "tuple") = some false ∧ PySem.W.kitOne K (.type t) (.type "list") = some false ∧ PySem.W.kitOne K (.type t) (.type "dict") = some false := by
  rcases h with ⟨s, rfl, rfl⟩ | ⟨s, rfl, rfl⟩ | ⟨s, rfl, rfl⟩ | ⟨rfl, rfl⟩
  · exact ⟨"str", fun _ => .base (.str _), rfl, ⟨false, kit_ty (by decide +kernel)⟩, ⟨true, kit_ty (by decide +kernel)⟩, kit_ty (by decide +kernel), kit_ty (by decide +kernel), kit_ty (by decide +kernel)⟩
  · exact ⟨"bool", fun _ => .base (.bl _), rfl, ⟨true, kit_ty (by decide +kernel)⟩, ⟨false, kit_ty (by decide +kernel)⟩, kit_ty (by decide +kernel), kit_ty (by decide +kernel), kit_ty (by decide +kernel)⟩
  · exact ⟨"int", fun _ => .base (.int _), rfl, ⟨false, kit_ty (by decide +kernel)⟩, ⟨false, kit_ty (by decide +kernel)⟩, kit_ty (by decide +kernel), kit_ty (by decide +kernel), kit_ty (by decide +kernel)⟩
  · exact ⟨"NoneType", fun _ => .base .non, rfl, ⟨false, kit_ty (by decide +kernel)⟩, ⟨false, kit_ty (by decide +kernel)⟩, kit_ty (by decide +kernel), kit_ty (by decide +kernel), kit_ty (by decide +kernel)⟩
theorem kit_tl {K : PySem.W.Frag} : PySem.W.kitOne K (.type "tuple") (.type "tuple") = some true ∧ PySem.W.kitOne K (.type "tuple") (.type "list") = some false := ⟨kit_ty (by decide +kernel), kit_ty (by decide +kernel)⟩
theorem kit_false {K : PySem.W.Frag} {t : Value} : ∀ {cs : List Value}, (∀ c ∈ cs, PySem.W.kitOne K t c = some false) → PySem.W.kitAny K t cs = some false
  | [], _ => rfl
  | c :: cs, h => by
    unfold PySem.W.kitAny
    rw [h c (List.mem_cons_self ..)]
    exact kit_false fun z hz => h z (List.mem_cons_of_mem _ hz)
theorem kit_true {K : PySem.W.Frag} {t c : Value} {cs : List Value} (h : PySem.W.kitOne K t c = some true) : PySem.W.kitAny K t (c :: cs) = some true := by
  unfold PySem.W.kitAny
  rw [h]
/-- the promise of _law_alike for equal data: n - 1 the depth -/
def spAlike (n : Nat) : Sp := fun vs H Q _ => ∃ (x y : V) (d : PyData), vs = [x, y] ∧ DR H n x d ∧ DR H n y d ∧ ∀ H', Same H H' → Q (.bl true) H'
theorem all_rep : ∀ n : Nat, (List.replicate n true).all id = true
  | 0 => rfl
  | n + 1 => by
    rw [List.replicate_succ, List.all_cons, all_rep n]
    rfl
/-- a store to a list that H0 does not know -/
theorem same_mut {H0 H : Hp} {p : Addr} (x : Same H0 H) (h : H0 p = none) (o : HO) : Same H0 (upd H p o) := fun a u e => by
  rw [upd_ne (ne_of_none e h)]
  exact x a u e
end Td
set_option maxHeartbeats 4000000
namespace Td
open PySem PySem.Spec PyProof.Rows L2
def top (i : Nat) : Stmt := PySem.Challenge.pw_turndoors_k40_whole_who_can_meet.main.body.getD i (.Pass ⟨0, 0, 0, 0⟩)
section
variable {P : Program} {w : World} {K : PySem.W.Frag} {mg : Str → Option Value} {base : Heap} {f : Addr} {fd : FuncData}
abbrev s_law_take : Stmt := top 45
abbrev n_law_take : List Str := ["box", "many", "digit", "one"]
theorem sc_law_take : FnScope n_law_take ["box", "many"] (defScope s_law_take) := ⟨rfl, rfl, rfl, by decide +kernel, rfl, by decide +kernel, by decide +kernel⟩
theorem ok_law_take (F : FnP K "_law_take" s_law_take f fd) (hm : mg "_law_take" = some (.ref f)) :
    Cal P w K mg base 1 "_law_take" spTake := by
  refine cal_of (F.ok sc_law_take (fun vs H Q E h => ?_) (fun cdv A outer s H vs Q E hr h => ?_)) hm F.kp (F.bindsN (ps := ["box", "many"]) fun _ _ _ _ _ _ us hl => match us, hl with | [_, _], _ => rfl)
  · obtain ⟨b, m, rfl, ⟨c, sd, n, hb, hc⟩, h0, h1, q⟩ := h
    rfl
  obtain ⟨b, m, rfl, ⟨c, sd, n, hb, hc⟩, h0, h1, q⟩ := h
  have nd := sc_law_take.nd
  refine ⟨_, PSs.nox (pss_cons (ps_if (pt_cmpR op_gt (pe_ix (r := rIxL K) ix_list (pv 0) pe_int (fun _ _ => rfl)) pe_int (nomark _)) (pss_cons (ps_set (i := 2) nd rfl (Or.inl rfl) (pe_op op_mod (pe_ix (r := rIxL K) ix_list (pv 0) pe_int (fun _ _ => rfl)) (pv 1)))
    (pss_cons (ps_asg (pe_op op_fdivW (pe_ix (r := rIxL K) ix_list (pv 0) pe_int (fun _ _ => rfl)) (pv 1)) (pg_sub (pv 0) pe_int set_list))
    (pss_one (ps_ret (pv 2))))) pss_nil)
    (pss_cons (ps_asg (pe_op op_add (pe_ix (r := rIxL K) ix_list (pv 0) pe_int (fun _ _ => rfl)) pe_int) (pg_sub (pv 0) pe_int set_list))
    (pss_cons (ps_set (i := 3) nd rfl (Or.inl rfl) (pe_op op_mod (pe_op op_mul (pe_op op_add (pe_ix (r := rIxL K) ix_list (pv 0) pe_int (fun _ _ => rfl)) (pe_op op_mul pe_int (pe_ix (r := rIxL K) ix_list (pv 0) pe_int (fun _ _ => rfl)))) pe_int) pe_int))
    (pss_cons (ps_asg (pe_op op_add (pe_op op_mod (pe_op op_add (pe_op op_mul (pv 3) pe_int) pe_int) pe_int) pe_int) (pg_sub (pv 0) pe_int set_list))
    (pss_one (ps_ret (pe_op op_mod (pe_op op_fdiv (pe_op op_add (pe_op op_mul (pv 3) pe_int) (pe_ix (r := rIxL K) ix_list (pv 0) pe_int (fun _ _ => rfl))) pe_int) (pv 1)))))))), ?_⟩
  have a0 : ∀ (x y z : Int), atI ([.int x, .int y, .int z] : List V) 0 = some (.int x) := fun _ _ _ => atI_nat (j := 0) rfl
  have a1 : ∀ (x y z : Int), atI ([.int x, .int y, .int z] : List V) 1 = some (.int y) := fun _ _ _ => atI_nat (j := 1) rfl
  have a2 : ∀ (x y z : Int), atI ([.int x, .int y, .int z] : List V) 2 = some (.int z) := fun _ _ _ => atI_nat (j := 2) rfl
  refine ⟨_, rfl, b, _, _, _, rfl, rfl, SqL.of hb, a0 _ _ _, _, _, rfl, rfl, _, rfl, ?_⟩
  refine ite2 (fun g => ?_) (fun g => ?_)
  · have g' : 0 < c := of_decide_eq_true g
    refine ⟨_, rfl, b, _, _, _, rfl, rfl, SqL.of hb, a0 _ _ _, _, rfl, _, _, rfl, rfl, h0, ?_⟩
    refine ⟨_, rfl, b, _, _, _, rfl, rfl, SqL.of hb, a0 _ _ _, _, rfl, _, _, rfl, rfl, wide_div h0 (b := 30) (by omega) (by decide) (by decide), _, rfl, b, _, 0, 0, rfl, rfl, hb, rfl, ?_⟩
    refine ⟨_, rfl, ?_⟩
    exact q _ _ (Int.emod_nonneg _ (by omega)) (Int.emod_lt_of_pos _ h0) ⟨_, _, _, upd_same, Int.ediv_nonneg hc (by omega)⟩ ((Ch.refl b H).upd _)
  · refine ⟨_, rfl, b, _, _, _, rfl, rfl, SqL.of hb, a2 _ _ _, _, _, rfl, rfl, _, rfl, b, _, 2, 2, rfl, rfl, hb, rfl, ?_⟩
    refine ⟨_, rfl, b, _, _, _, rfl, rfl, SqL.of upd_same, a1 _ _ _, _, rfl, b, _, _, _, rfl, rfl, SqL.of upd_same, a2 _ _ _, _, _, rfl, rfl, .inl ⟨by decide, by decide⟩, _, _, rfl, rfl, _, _, rfl, rfl, .inr ⟨by decide, by decide⟩, _, _, rfl, rfl, (by show (0 : Int) < _; decide), ?_⟩
    refine ⟨_, rfl, _, _, rfl, rfl, .inr ⟨by decide, by decide⟩, _, _, rfl, rfl, _, _, rfl, rfl, (by show (0 : Int) < _; decide), _, _, rfl, rfl, _, rfl, b, _, 1, 1, rfl, rfl, upd_same, rfl, ?_⟩
    refine ⟨_, rfl, _, _, rfl, rfl, .inr ⟨by decide, by decide⟩, _, rfl, b, _, _, _, rfl, rfl, SqL.of upd_same, a1 _ _ _, _, _, rfl, rfl, _, _, rfl, rfl, ⟨by decide, by decide⟩, _, rfl, _, _, rfl, rfl, h0, ?_⟩
    exact q _ _ (Int.emod_nonneg _ (by omega)) (Int.emod_lt_of_pos _ h0) ⟨_, _, _, upd_same, hc⟩ (((Ch.refl b H).upd _).upd _)
abbrev s_law_box : Stmt := top 44
abbrev n_law_box : List Str := ["script", "k", "cell", "seed"]
theorem sc_law_box : FnScope n_law_box ["script", "k"] (defScope s_law_box) := ⟨rfl, rfl, rfl, by decide +kernel, rfl, by decide +kernel, by decide +kernel⟩
theorem ok_law_box (F : FnP K "_law_box" s_law_box f fd) (hm : mg "_law_box" = some (.ref f)) (m_int : mg "int" = none) (m_len : mg "len" = none) :
    Cal P w K mg base 1 "_law_box" (spBox K) := by
  refine cal_of (F.ok sc_law_box (fun vs H Q E h => ?_) (fun cdv A outer s H vs Q E hr h => ?_)) hm F.kp (F.bindsN (ps := ["script", "k"]) fun _ _ _ _ _ _ us hl => match us, hl with | [_, _], _ => rfl)
  · obtain ⟨a, ns, k, rfl, hS, h63, hk, q⟩ := h
    rfl
  obtain ⟨a, ns, k, rfl, hS, h63, hk, q⟩ := h
  have nd := sc_law_box.nd
  refine ⟨_, PSs.nox (pss_cons (ps_set (i := 2) nd rfl (Or.inl rfl) (pe_op op_add (pe_op op_mul pe_int (pv 1)) pe_int))
    (C8.pss_cut (ps_if (pt_cmpR op_lt (pv 1) (pe_callB (r := rLn K) call_len_seq (by rfl) m_len PySem.boot_len (pa_cons (pv 0) pa_nil)) (nomark _)) (pss_one (ps_set (i := 2) nd rfl (Or.inl rfl) (pe_ix (r := rIxL K) ix_list (pv 0) (pv 1) (fun _ _ => rfl)))) (pss_one (ps_if (pt_cmpR op_gt (pe_callB (r := rLn K) call_len_seq (by rfl) m_len PySem.boot_len (pa_cons (pv 0) pa_nil)) pe_int (nomark _)) (pss_one (ps_set (i := 2) nd rfl (Or.inl rfl) (pe_op op_add (pv 2) (pe_op op_mul (pe_op op_mod (pe_ix (r := rIxL K) ix_list (pv 0) (pe_op op_mod (pv 1) (pe_callB (r := rLn K) call_len_seq (by rfl) m_len PySem.boot_len (pa_cons (pv 0) pa_nil))) (fun _ _ => rfl)) pe_int) pe_int)))) pss_nil)))
    (pss_cons (ps_set (i := 3) nd rfl (Or.inl rfl) (pe_op op_add (pe_op op_mod (pe_op op_add (pe_op op_mul (pe_op op_mod (pv 2) pe_int) pe_int) (pe_op op_mul pe_int (pv 1))) pe_int) pe_int))
    (pss_one (ps_ret (pe_lst (pa_cons (pe_ix (r := rIxL K) ix_list (pe_lst (pa_cons pe_int (pa_cons (pv 2) pa_nil))) (pe_callTy call_int1 (by rfl) m_int (by decide +kernel) (pa_cons (pe_cmpR op_ge (pv 2) (pe_op op_pow pe_int pe_int) (nomark _)) pa_nil)) (fun _ _ => rfl)) (pa_cons (pv 3) (pa_cons pe_int pa_nil))))))))), ?_⟩
  have hl : (ns.map V.int).length = ns.length := List.length_map _
  have get : ∀ j : Int, 0 ≤ j → j < (ns.length : Int) → ∃ v : Int, atI (ns.map V.int) j = some (.int v) := fun j j0 j1 => by
    obtain ⟨m, rfl⟩ : ∃ m : Nat, j = (m : Int) := ⟨j.toNat, by omega⟩
    have hj : m < ns.length := by omega
    exact ⟨ns[m], atI_nat (by rw [List.getElem?_map, List.getElem?_eq_getElem hj]; rfl)⟩
  refine ⟨_, rfl, _, _, rfl, rfl, .inl ⟨by decide, by decide⟩, _, _, rfl, rfl, ?_⟩
  refine ⟨fun σ' H' => H' = H ∧ ∃ c : Int, σ' = [some (.ref a), some (.int k), some (.int c), none], ?_, ?_⟩
  · refine ⟨_, rfl, _, rfl, a, _, rfl, .inl hS, _, _, rfl, rfl, _, rfl, ?_⟩
    rw [hl]
    refine ite2 (fun g => ?_) (fun g => ?_)
    · have g' : k < (ns.length : Int) := of_decide_eq_true g
      obtain ⟨v, hv⟩ := get k hk g'
      exact ⟨_, rfl, _, rfl, a, _, _, _, rfl, rfl, hS, hv, rfl, v, rfl⟩
    · refine ⟨_, rfl, a, _, rfl, .inl hS, _, _, rfl, rfl, _, rfl, ?_⟩
      rw [hl]
      refine ite2 (fun g2 => ?_) (fun g2 => ?_)
      · have g2' : 0 < (ns.length : Int) := of_decide_eq_true g2
        obtain ⟨v, hv⟩ := get (k % (ns.length : Int)) (Int.emod_nonneg _ (by omega)) (Int.emod_lt_of_pos _ g2')
        refine ⟨_, rfl, _, rfl, _, rfl, _, rfl, a, _, rfl, .inl hS, _, _, rfl, rfl, (by rw [hl]; exact g2'), a, _, _, _, rfl, rfl, hS, (by rw [hl]; exact hv), _, _, rfl, rfl, (by show (0 : Int) < _; decide), _, _, rfl, rfl, .inr ⟨by decide, by decide⟩, _, _, rfl, rfl, rfl, _, rfl⟩
      · exact ⟨rfl, _, rfl⟩
  · rintro σ' H' ⟨rfl, c, rfl⟩
    refine ⟨_, rfl, _, _, rfl, rfl, (by show (0 : Int) < _; decide), _, _, rfl, rfl, .inr ⟨by decide, by decide⟩, _, rfl, _, _, rfl, rfl, .inl ⟨by decide, by decide⟩, _, _, rfl, rfl, _, _, rfl, rfl, (by show (0 : Int) < _; decide), _, _, rfl, rfl, ?_⟩
    refine ⟨_, rfl, (by show 2 ≤ sizeLine; decide), fun p hp => ?_⟩
    refine ⟨_, rfl, _, _, rfl, rfl, (by show (0 : Int) ≤ _ ∧ _ ≤ _ ∧ _ < _; decide), _, _, rfl, rfl, .inr ⟨_, rfl, ?_⟩⟩
    refine ⟨p, _, _, (if c ≥ 10 ^ (18 : Int).toNat then .int c else .int 0), rfl, rfl, SqL.of upd_same, ?_, ?_⟩
    · by_cases g : c ≥ 10 ^ (18 : Int).toNat
      · rw [if_pos g, decide_eq_true g]
        exact atI_nat (j := 1) rfl
      · rw [if_neg g, decide_eq_false g]
        exact atI_nat (j := 0) rfl
    refine ⟨_, rfl, (by show 3 ≤ sizeLine; decide), fun p2 hp2 => ?_⟩
    refine q _ _ ((same_new hp _).trans (same_new hp2 _)) ((same_new hp _).free hp2) ?_
    by_cases g : c ≥ 10 ^ (18 : Int).toNat
    · rw [if_pos g]
      exact ⟨_, _, _, upd_same, Int.le_trans (by decide) g⟩
    · rw [if_neg g]
      exact ⟨_, _, _, upd_same, Int.le_refl 0⟩
end
end Td
set_option maxHeartbeats 4000000
namespace Td
open PySem PySem.Spec PyProof.Rows L2
section
variable {P : Program} {w : World} {K : PySem.W.Frag} {mg : Str → Option Value} {base : Heap} {f : Addr} {fd : FuncData}
abbrev s_law_names : Stmt := top 46
abbrev n_law_names : List Str := ["box", "many", "letters", "words", "k", "stem", "at", "first", "step", "names", "sign", "spot", "word"]
theorem sc_law_names : FnScope n_law_names ["box", "many"] (defScope s_law_names) := ⟨rfl, rfl, rfl, by decide +kernel, rfl, by decide +kernel, by decide +kernel⟩
theorem ok_law_names (F : FnP K "_law_names" s_law_names f fd) (hm : mg "_law_names" = some (.ref f)) (c_law_take : Cal P w K mg base 1 "_law_take" spTake) (m_int : mg "int" = none) (m_len : mg "len" = none) (m_range : mg "range" = none) :
    Cal P w K mg base 2 "_law_names" spNames := by
  refine cal_of (F.ok sc_law_names (fun vs H Q E h => ?_) (fun cdv A outer s H vs Q E hr h => ?_)) hm F.kp (F.bindsN (ps := ["box", "many"]) fun _ _ _ _ _ _ us hl => match us, hl with | [_, _], _ => rfl)
  · obtain ⟨b, m, rfl, hB, hm1, hm2, q⟩ := h
    rfl
  obtain ⟨b, m, rfl, hB, hm1, hm2, q⟩ := h
  have nd := sc_law_names.nd
  refine ⟨_, PSs.nox (pss_cons (ps_asg (pe_tup (pa_cons pe_str (pa_cons (pe_lst (pa_cons pe_str (pa_cons pe_str (pa_cons pe_str (pa_cons pe_str (pa_cons pe_str (pa_cons pe_str (pa_cons pe_str (pa_cons pe_str pa_nil))))))))) pa_nil))) (pg_tup (by rfl) (pgs_cons (pg_name (i := 2) nd rfl (Or.inr rfl)) (pgs_cons (pg_name (i := 3) nd rfl (Or.inl rfl)) pgs_nil))))
    (pss_cons (ps_set (i := 5) nd rfl (Or.inl rfl) (show PE _ _ (tM1 (rJn K) _ _) from pe_join pe_str (pe_lc (own := [("k", 4)]) (g := (gName 4)) (by rfl) nd (pi_range1 (by rfl) m_range (pa_cons (C8.pe_c c_law_take hr (by omega) (by rfl) (pa_cons (pv 0) (pa_cons pe_int pa_nil))) pa_nil)) (blkOk_by (own := [("k", 4)]) (N := n_law_names) (sc := defScope s_law_names) (by decide +kernel)) (fun _ _ _ _ _ => (pg_name (i := 4) nd rfl (Or.inl rfl))) (fun _ _ _ _ _ => pts_nil) (fun _ _ _ _ _ => (pe_ix ix_str (pv 2) (C8.pe_c c_law_take hr (by omega) (by rfl) (pa_cons (pv 0) (pa_cons pe_int pa_nil))) (fun _ _ => rfl))))))
    (pss_cons (ps_set (i := 5) nd rfl (Or.inl rfl) (pe_ix (r := rIxL K) ix_list (pe_lst (pa_cons (pv 5) (pa_cons pe_str pa_nil))) (pe_callTy call_int1 (by rfl) m_int (by decide +kernel) (pa_cons (pe_cmpR op_eq (C8.pe_c c_law_take hr (by omega) (by rfl) (pa_cons (pv 0) (pa_cons pe_int pa_nil))) pe_int (nomark _)) pa_nil)) (fun _ _ => rfl)))
    (pss_cons (ps_par3 (i := 6) (j := 7) (l := 8) (by rfl) nd rfl rfl rfl (by decide) (by decide) (by decide) rfl rfl rfl (pa_cons (C8.pe_c c_law_take hr (by omega) (by rfl) (pa_cons (pv 0) (pa_cons (pe_op op_add (pe_callB call_len_str (by rfl) m_len PySem.boot_len (pa_cons (pv 5) pa_nil)) pe_int) pa_nil))) (pa_cons (C8.pe_c c_law_take hr (by omega) (by rfl) (pa_cons (pv 0) (pa_cons pe_int pa_nil))) (pa_cons (pe_ix (r := rIxL K) ix_list (pe_lst (pa_cons pe_int (pa_cons pe_int (pa_cons pe_int (pa_cons pe_int pa_nil))))) (C8.pe_c c_law_take hr (by omega) (by rfl) (pa_cons (pv 0) (pa_cons pe_int pa_nil))) (fun _ _ => rfl)) pa_nil))) (by rfl))
    (pss_cons (ps_set (i := 9) nd rfl (Or.inl rfl) (pe_lst pa_nil))
    (pss_cons (ps_for PassesOwn.never rfl (pi_range1 (by rfl) m_range (pa_cons (pv 1) pa_nil)) (pg_name (i := 4) nd rfl (Or.inl rfl)) (pss_cons (ps_set (i := 10) nd rfl (Or.inl rfl) (pe_ix ix_str (pv 2) (pe_op op_mod (pe_op op_add (pv 7) (pe_op op_mul (pv 8) (pv 4))) pe_int) (fun _ _ => rfl)))
    (pss_one (ps_expr (show PE _ _ (tBM K _ _ _ _) from pe_bm PySem.F.plainAttrs_list PySem.F.slot_list_append PySem.F.type_list_append mt_append (pv 9) (pa_cons (pe_op op_add_str (pe_op op_add_str (pe_slice C8.sl_txt (pv 5) po_none (po_some (pv 6))) (pv 10)) (pe_slice C8.sl_txt (pv 5) (po_some (pv 6)) po_none)) pa_nil))))))
    (pss_cons (ps_par (i := 11) (j := 12) (by rfl) nd rfl rfl (by decide) rfl rfl (pa_cons (C8.pe_c c_law_take hr (by omega) (by rfl) (pa_cons (pv 0) (pa_cons (pv 1) pa_nil))) (pa_cons (pe_ix (r := rIxL K) ix_list (pv 3) (C8.pe_c c_law_take hr (by omega) (by rfl) (pa_cons (pv 0) (pa_cons pe_int pa_nil))) (fun _ _ => rfl)) pa_nil)) (by rfl))
    (pss_cons (ps_if (PW.pt (pw_and (pt_cmpR op_eq (C8.pe_c c_law_take hr (by omega) (by rfl) (pa_cons (pv 0) (pa_cons pe_int pa_nil))) pe_int (nomark _)) (pw_and1 (pt_cmpR (r := rIn K true) op_notIn_seq (pv 12) (pv 9) (by rfl))))) (pss_one (ps_asg (pv 12) (pg_sub (pv 9) (pv 11) set_list))) pss_nil)
    (pss_one (ps_ret (pv 9))))))))))), ?_⟩
  obtain ⟨n, rfl⟩ : ∃ n : Nat, m = (n : Int) := ⟨m.toNat, by omega⟩
  -- letters, words
  refine ⟨(by show 8 ≤ sizeLine; decide), fun wp hwp => ⟨(by show 2 ≤ sizeLine; decide), fun tp htp => ⟨tp, _, rfl, SqT.of upd_same, rfl, _, _, rfl, _, _, rfl, rfl, ?_⟩⟩⟩
  have c0 : Ch b H (upd (upd H wp (.lst [.str "rooms", .str "door", .str "faces", .str "walker", .str "pass", .str "hall", .str "back", .str "none"])) tp (.tup [.str letters, .ref wp])) := ((Ch.refl b H).new hwp _).new htp _
  have B0 := (hB.new hwp (.lst [.str "rooms", .str "door", .str "faces", .str "walker", .str "pass", .str "hall", .str "back", .str "none"])).new htp (.tup [.str letters, .ref wp])
  have hw0 : (upd (upd H wp (.lst [.str "rooms", .str "door", .str "faces", .str "walker", .str "pass", .str "hall", .str "back", .str "none"])) tp (.tup [.str letters, .ref wp])) wp = some (.lst [.str "rooms", .str "door", .str "faces", .str "walker", .str "pass", .str "hall", .str "back", .str "none"]) := by
    rw [upd_ne (ne_of_none upd_same htp)]; exact upd_same
  have nwb : wp ≠ b := hB.ne hwp
  generalize (upd (upd H wp (.lst [.str "rooms", .str "door", .str "faces", .str "walker", .str "pass", .str "hall", .str "back", .str "none"])) tp (.tup [.str letters, .ref wp])) = H0 at c0 B0 hw0 ⊢
  -- stem
  refine ⟨⟨_, rfl⟩, _, rfl, b, 5, rfl, B0, by decide, by decide, fun r1 H1 r10 r11 B1 c1 => ⟨_, rfl, by omega, by omega, fun D hD => ?_⟩⟩
  have nDb : D ≠ b := B1.ne hD
  refine lc_range (lo := 0) (n := r1.toNat) (fun i H2 => Box H2 b ∧ Ch b H1 H2 ∧ ∃ cs : List Nat, H2 D = some (.lst (cs.map fun c => V.str (SX.S [c]))) ∧ cs.length = i ∧ low cs) ⟨B1.new hD _, (Ch.refl b H1).new hD _, [], upd_same, rfl, fun c hc => by cases hc⟩ (fun i H2 hi ⟨B2, c2, cs, hcs, hl, hlow⟩ => ?_) (fun H2 ⟨B2, c2, cs, hcs, hl, hlow⟩ => ?_)
  · refine ⟨rfl, lcY ?_⟩
    refine ⟨_, rfl, _, rfl, b, 26, rfl, B2, by decide, by decide, fun r2 H3 r20 r21 B3 c3 => ⟨_, _, _, rfl, rfl, (by decide), letter r20 r21, _, c3 D _ nDb hcs, ?_, ?_⟩⟩
    · rw [List.length_map, hl]; exact Nat.lt_of_lt_of_le (show i < 100 by omega) (by decide)
    · have nob : ∀ {z o}, (upd H3 D z) b = some o → H3 b = some o := fun {z o} e => by rw [upd_ne nDb.symm] at e; exact e
      refine ⟨?_, ?_, cs ++ [97 + r2.toNat], ?_, by rw [List.length_append, hl]; rfl, ?_⟩
      · obtain ⟨x, y, z, e, e2⟩ := B3
        exact ⟨x, y, z, by rw [upd_ne nDb.symm]; exact e, e2⟩
      · intro a o na ha
        have hda : a ≠ D := ne_of_none ha hD
        rw [upd_ne hda]
        exact c3 a o na (c2 a o na ha)
      · rw [upd_same, List.map_append]
        rfl
      · intro c hc
        rcases List.mem_append.mp hc with hc | hc
        · exact hlow c hc
        · have e := List.mem_singleton.mp hc
          omega
  -- stem = ''.join
  have e0 : cs.map (fun c => V.str (SX.S [c])) = ((cs.map fun c => [c]).map SX.S).map V.str := by rw [List.map_map, List.map_map]; rfl
  refine ⟨_, D, (cs.map fun c => [c]).map SX.S, rfl, rfl, .inl (SqL.of (by rw [← e0]; exact hcs)), ?_, ?_⟩
  · have e1 : (((cs.map fun c => [c]).map SX.S).map (·.length)) = cs.map fun _ => 1 := by
      rw [List.map_map, List.map_map]
      exact List.map_congr_left fun c _ => SX.S_len [c]
    rw [e1]
    have e2 : (cs.map fun _ => 1).sum = cs.length := by
      clear e1 e0 hcs hlow hl
      induction cs with
      | nil => rfl
      | cons c cs ih => simp [ih]; omega
    rw [e2, hl, show (("" : Str)).length = 0 by decide, Nat.mul_zero]
    omega
  have ej : Txt.join ("" : Str) ((cs.map fun c => [c]).map SX.S) = SX.S cs := by
    have e := SX.join_S [] (cs.map fun c => [c])
    rw [join_nil] at e
    exact e
  rw [ej]
  have c02 : Ch b H H2 := (c0.trans c1).trans c2
  have hw2 := c2 _ _ nwb (c1 _ _ nwb hw0)
  clear ej e0
  -- stem = [stem, 'floor'][..]
  refine ⟨_, rfl, (by show 2 ≤ sizeLine; decide), fun sp hsp => ?_⟩
  refine ⟨_, rfl, b, 4, rfl, B2.new hsp _, by decide, by decide, fun r3 H3 r30 r31 B3 c3 => ?_⟩
  have nsb : sp ≠ b := B2.ne hsp
  refine ⟨rfl, .inr ⟨_, rfl, ?_⟩⟩
  obtain ⟨st, hst, hstl, hstlow⟩ : ∃ st : List Nat, atI ([.str (SX.S cs), .str "floor"] : List V) (if decide (V.int r3 = V.int 0) = true then 1 else 0) = some (.str (SX.S st)) ∧ st.length ≤ 5 ∧ low st := by
    by_cases g : V.int r3 = V.int 0
    · refine ⟨("floor" : Str).cps.toList, ?_, by decide, by unfold low; decide⟩
      rw [decide_eq_true g]
      exact atI_nat (j := 1) rfl
    · refine ⟨cs, ?_, by omega, hlow⟩
      rw [decide_eq_false g]
      exact atI_nat (j := 0) rfl
  refine ⟨sp, _, _, _, rfl, rfl, SqL.of (c3 _ _ nsb upd_same), hst, ?_⟩
  have c03 : Ch b H H3 := (c02.new hsp _).trans c3
  have hw3 := c3 _ _ nwb (same_new hsp (.lst [.str (SX.S cs), .str "floor"]) _ _ hw2)
  -- at, first, step
  refine ⟨_, rfl, _, rfl, SX.S st, rfl, (by rw [SX.S_len]; exact Nat.le_trans hstl (by decide)), _, _, rfl, rfl, b, _, rfl, B3, (by rw [SX.S_len]; omega), (by rw [SX.S_len]; omega), fun r4 H4 r40 r41 B4 c4 => ?_⟩
  refine ⟨_, rfl, b, 26, rfl, B4, by decide, by decide, fun r5 H5 r50 r51 B5 c5 => ?_⟩
  refine ⟨(by show 4 ≤ sizeLine; decide), fun qp hqp => ⟨_, rfl, b, 4, rfl, B5.new hqp _, by decide, by decide, fun r6 H6 r60 r61 B6 c6 => ?_⟩⟩
  have nqb : qp ≠ b := B5.ne hqp
  obtain ⟨se, hse, hok⟩ : ∃ se : Int, atI ([.int 7, .int 1, .int 11, .int 25] : List V) r6 = some (.int se) ∧ okStep se := by
    have z : r6 = 0 ∨ r6 = 1 ∨ r6 = 2 ∨ r6 = 3 := by omega
    rcases z with rfl | rfl | rfl | rfl
    · exact ⟨7, atI_nat (j := 0) rfl, .inl rfl⟩
    · exact ⟨1, atI_nat (j := 1) rfl, .inr (.inl rfl)⟩
    · exact ⟨11, atI_nat (j := 2) rfl, .inr (.inr (.inl rfl))⟩
    · exact ⟨25, atI_nat (j := 3) rfl, .inr (.inr (.inr rfl))⟩
  refine ⟨qp, _, _, _, rfl, rfl, SqL.of (c6 _ _ nqb upd_same), hse, _, _, _, rfl, ?_⟩
  have c06 : Ch b H H6 := (((c03.trans c4).trans c5).new hqp _).trans c6
  have hw6 := c6 _ _ nwb (same_new hqp (.lst [.int 7, .int 1, .int 11, .int 25]) _ _ (c5 _ _ nwb (c4 _ _ nwb hw3)))
  rw [SX.S_len] at r41
  -- names = []
  refine ⟨(by show 0 ≤ sizeLine; decide), fun np hnp => ?_⟩
  have nnb : np ≠ b := B6.ne hnp
  have nwn : wp ≠ np := ne_of_none hw6 hnp
  have hnpH : H np = none := c06.none nnb hnp
  have B7 := B6.new hnp (.lst [])
  have c07 := c06.new hnp (.lst [])
  have hw7 := same_new hnp (.lst []) _ _ hw6
  have hn7 : upd H6 np (.lst []) np = some (.lst []) := upd_same
  generalize upd H6 np (.lst []) = H7 at B7 c07 hw7 hn7 ⊢
  obtain ⟨x7, y7, z7, hb7, hx7⟩ := B7
  refine ⟨_, rfl, _, rfl, by omega, by omega, ?_⟩
  refine for_range (lo := 0) (n := ((n : Int)).toNat) (fun i σ' H' => H' = upd H7 np (.lst ((nks st r4.toNat r5 se i).map V.str)) ∧ ∃ vk vs : Option V, σ' = [some (.ref b), some (.int n), some (.str letters), some (.ref wp), vk, some (.str (SX.S st)), some (.int r4), some (.int r5), some (.int se), some (.ref np), vs, none, none]) ⟨?_, _, _, rfl⟩ (fun i σ' H' hi ⟨e1, vk, vs, e2⟩ => ?_) (fun σ' H' ⟨e1, vk, vs, e2⟩ => ?_)
  · funext a
    by_cases h : a = np
    · rw [h, upd_same, hn7]; rfl
    · rw [upd_ne h]
  · subst e1 e2
    have hl0 : 0 ≤ (r5 + se * (0 + (i : Int))) % 26 := Int.emod_nonneg _ (by decide)
    have hl1 : (r5 + se * (0 + (i : Int))) % 26 < 26 := Int.emod_lt_of_pos _ (by decide)
    refine ⟨_, rfl, _, rfl, _, rfl, _, rfl, _, _, rfl, rfl, ?_, _, _, rfl, rfl, _, _, rfl, rfl, (by show (0 : Int) < _; decide), _, _, _, rfl, rfl, (by decide), letter hl0 hl1, ?_⟩
    · left
      rcases hok with e | e | e | e <;> (rw [e]; decide)
    refine ⟨_, rfl, .inl ⟨rfl, _, SqL.of upd_same⟩, _, rfl, _, rfl, _, rfl, _, rfl, (by rw [SX.S_len]; exact Nat.le_trans hstl (by decide)), _, rfl, _, _, rfl, rfl, ?_, _, rfl, _, rfl, _, rfl, _, rfl, (by rw [SX.S_len]; exact Nat.le_trans hstl (by decide)), _, _, rfl, rfl, ?_, np, _, _, rfl, rfl, upd_same, ?_, ?_⟩
    · rw [SX.slice_to r40, SX.S_len]
      have z : (st.take r4.toNat).length ≤ 5 := Nat.le_trans (by rw [List.length_take]; omega) hstl
      exact Nat.le_trans (Nat.add_le_add z (Nat.le_refl 1)) (by decide)
    · rw [SX.slice_to r40, SX.slice_from r40]
      have z : (st.take r4.toNat).length ≤ 5 := Nat.le_trans (by rw [List.length_take]; omega) hstl
      have y : (st.drop r4.toNat).length ≤ 5 := Nat.le_trans (by rw [List.length_drop]; omega) hstl
      have e : SX.S (st.take r4.toNat) ++ ({ cps := #[97 + ((r5 + se * (0 + (i : Int))) % 26).toNat] } : Str) = SX.S (st.take r4.toNat ++ [97 + ((r5 + se * (0 + (i : Int))) % 26).toNat]) := SX.S_cat _ [97 + ((r5 + se * (0 + (i : Int))) % 26).toNat]
      rw [e, SX.S_len, SX.S_len, List.length_append]
      exact Nat.le_trans (Nat.add_le_add (Nat.add_le_add z (Nat.le_refl 1)) y) (by decide)
    · rw [List.length_map, nks_len]
      exact Nat.lt_of_lt_of_le (show i < 100 by omega) (by decide)
    · refine ⟨?_, _, _, rfl⟩
      rw [upd_upd, nks_succ, SX.slice_to r40, SX.slice_from r40]
      have e : SX.S (st.take r4.toNat) ++ ({ cps := #[97 + ((r5 + se * (0 + (i : Int))) % 26).toNat] } : Str) ++ SX.S (st.drop r4.toNat) = SX.S (nk st r4.toNat r5 se i) := by
        have e1 : SX.S (st.take r4.toNat) ++ ({ cps := #[97 + ((r5 + se * (0 + (i : Int))) % 26).toNat] } : Str) = SX.S (st.take r4.toNat ++ [97 + ((r5 + se * (0 + (i : Int))) % 26).toNat]) := SX.S_cat _ [97 + ((r5 + se * (0 + (i : Int))) % 26).toNat]
        rw [e1, SX.S_cat]
        unfold nk
        rw [Int.zero_add, List.append_assoc]
      rw [e, List.map_append]
      rfl
  · subst e1 e2
    have hs : (nks st r4.toNat r5 se (n : Int).toNat).length = n := by rw [nks_len]; omega
    have hnd : (nks st r4.toNat r5 se (n : Int).toNat).Nodup := nks_nd hok (by omega)
    have hnm : ∀ x ∈ nks st r4.toNat r5 se (n : Int).toNat, Nm x := nks_nm hstlow hstl
    generalize nks st r4.toNat r5 se (n : Int).toNat = ss at hs hnd hnm
    have B8 : Box (upd H7 np (.lst (ss.map V.str))) b := ⟨x7, y7, z7, by rw [upd_ne nnb.symm]; exact hb7, hx7⟩
    have c08 : ∀ a o, a ≠ b → H a = some o → (upd H7 np (.lst (ss.map V.str))) a = some o := fun a o na ha => by
      rw [upd_ne (ne_of_none ha hnpH)]
      exact c07 a o na ha
    have hw8 := hw7
    rw [← upd_ne (H := H7) (o := .lst (ss.map V.str)) nwn] at hw8
    have hn8 : upd H7 np (.lst (ss.map V.str)) np = some (.lst (ss.map V.str)) := upd_same
    generalize upd H7 np (.lst (ss.map V.str)) = H8 at B8 c08 hw8 hn8 ⊢
    -- spot, word
    refine ⟨_, rfl, _, rfl, b, _, rfl, B8, (by omega), (by omega), fun r7 H9 r70 r71 B9 c9 => ?_⟩
    refine ⟨_, rfl, _, rfl, b, 8, rfl, B9, (by decide), (by decide), fun r8 Ha r80 r81 Ba ca => ?_⟩
    obtain ⟨wd, hwd, hwn⟩ : ∃ wd : Str, atI ([.str "rooms", .str "door", .str "faces", .str "walker", .str "pass", .str "hall", .str "back", .str "none"] : List V) r8 = some (.str wd) ∧ Nm wd := by
      have z : r8 = 0 ∨ r8 = 1 ∨ r8 = 2 ∨ r8 = 3 ∨ r8 = 4 ∨ r8 = 5 ∨ r8 = 6 ∨ r8 = 7 := by omega
      have ok : ∀ x : Str, (decide (1 ≤ x.length) && (decide (x.length ≤ 6) && x.cps.toList.all fun c => decide (97 ≤ c) && decide (c ≤ 122))) = true → Nm x := fun x h => by
        simp only [Bool.and_eq_true, decide_eq_true_eq, List.all_eq_true] at h
        exact ⟨h.1, h.2.1, h.2.2⟩
      rcases z with rfl | rfl | rfl | rfl | rfl | rfl | rfl | rfl
      · exact ⟨_, atI_nat (j := 0) rfl, ok _ (by decide +kernel)⟩
      · exact ⟨_, atI_nat (j := 1) rfl, ok _ (by decide +kernel)⟩
      · exact ⟨_, atI_nat (j := 2) rfl, ok _ (by decide +kernel)⟩
      · exact ⟨_, atI_nat (j := 3) rfl, ok _ (by decide +kernel)⟩
      · exact ⟨_, atI_nat (j := 4) rfl, ok _ (by decide +kernel)⟩
      · exact ⟨_, atI_nat (j := 5) rfl, ok _ (by decide +kernel)⟩
      · exact ⟨_, atI_nat (j := 6) rfl, ok _ (by decide +kernel)⟩
      · exact ⟨_, atI_nat (j := 7) rfl, ok _ (by decide +kernel)⟩
    refine ⟨wp, _, _, _, rfl, rfl, SqL.of (ca _ _ nwb (c9 _ _ nwb hw8)), hwd, _, _, rfl, ?_⟩
    -- if .. and word not in names
    refine ⟨_, rfl, b, 4, rfl, Ba, (by decide), (by decide), fun r9 Hb r90 r91 Bb cb => ?_⟩
    have hnb := cb _ _ nnb (ca _ _ nnb (c9 _ _ nnb hn8))
    have cend : Ch b H Hb := fun a o na ha => cb _ _ na (ca _ _ na (c9 _ _ na (c08 a o na ha)))
    have fin : ∀ (ts : List Str) (H' : Hp), H' np = some (.lst (ts.map V.str)) → ts.length = n → ts.Nodup → (∀ x ∈ ts, Nm x) → Box H' b → Ch b H H' → Q (.ref np) H' := fun ts H' h1 h2 h3 h4 h5 h6 => q np ts H' hnpH h1 (by rw [h2]; omega) h3 h4 h5 h6
    refine ⟨rfl, _, rfl, ?_⟩
    refine ite2 (fun g => ?_) (fun g => ?_)
    · refine ⟨_, rfl, _, rfl, np, _, rfl, .inl (SqL.of hnb), rfl, flat_strs _, _, rfl, ?_⟩
      rw [inV_str]
      by_cases hin : wd ∈ ss
      · rw [decide_eq_true hin]
        refine iteF ?_
        exact ⟨_, rfl, fin ss Hb hnb hs hnd hnm Bb cend⟩
      · rw [decide_eq_false hin]
        refine iteT ?_
        have hr7 : r7.toNat < ss.length := by omega
        refine ⟨_, rfl, _, rfl, _, rfl, np, _, r7, r7.toNat, rfl, rfl, hnb, ?_, ?_⟩
        · unfold ixN
          rw [List.length_map, if_pos r70, if_pos (by omega)]
        · refine ⟨_, rfl, fin (ss.set r7.toNat wd) _ (by rw [upd_same, List.map_set]) (by rw [List.length_set]; exact hs) (set_nd hnd hin) (fun x hx => ?_) ?_ ?_⟩
          · rcases List.mem_or_eq_of_mem_set hx with z | z
            · exact hnm x z
            · rw [z]; exact hwn
          · obtain ⟨x, y, z, e, e2⟩ := Bb
            exact ⟨x, y, z, by rw [upd_ne nnb.symm]; exact e, e2⟩
          · intro a o na ha
            rw [upd_ne (ne_of_none ha hnpH)]
            exact cend a o na ha
    · exact ⟨_, rfl, fin ss Hb hnb hs hnd hnm Bb cend⟩
end
end Td
set_option maxHeartbeats 4000000
namespace Td
open PySem PySem.Spec PyProof.Rows L2
section
variable {P : Program} {w : World} {K : PySem.W.Frag} {mg : Str → Option Value} {base : Heap} {f : Addr} {fd : FuncData}
abbrev s_law_hall : Stmt := top 47
abbrev n_law_hall : List Str := ["box", "wide", "many", "names", "known", "size", "titles", "last", "k", "one", "at", "other", "title"]
theorem sc_law_hall : FnScope n_law_hall ["box", "wide", "many"] (defScope s_law_hall) := ⟨rfl, rfl, rfl, by decide +kernel, rfl, by decide +kernel, by decide +kernel⟩
theorem ok_law_hall (F : FnP K "_law_hall" s_law_hall f fd) (hm : mg "_law_hall" = some (.ref f)) (c_law_names : Cal P w K mg base 2 "_law_names" spNames) (c_law_take : Cal P w K mg base 1 "_law_take" spTake) (m_int : mg "int" = none) (m_len : mg "len" = none) (m_max : mg "max" = none) (m_range : mg "range" = none) (m_tuple : mg "tuple" = none) :
    Cal P w K mg base 3 "_law_hall" spHall := by
  refine cal_of (F.ok sc_law_hall (fun vs H Q E h => ?_) (fun cdv A outer s H vs Q E hr h => ?_)) hm F.kp (F.bindsN (ps := ["box", "wide", "many"]) fun _ _ _ _ _ _ us hl => match us, hl with | [_, _, _], _ => rfl)
  · obtain ⟨b, m1, m2, rfl, hB, h11, h12, h21, h22, q⟩ := h
    rfl
  obtain ⟨b, m1, m2, rfl, hB, h11, h12, h21, h22, q⟩ := h
  have nd := sc_law_hall.nd
  refine ⟨_, PSs.nox (pss_cons (ps_asg (pe_tup (pa_cons (C8.pe_c c_law_names hr (by omega) (by rfl) (pa_cons (pv 0) (pa_cons (pe_op op_add pe_int (C8.pe_c c_law_take hr (by omega) (by rfl) (pa_cons (pv 0) (pa_cons (pv 1) pa_nil)))) pa_nil))) (pa_cons (pe_lst pa_nil) pa_nil))) (pg_tup (by rfl) (pgs_cons (pg_name (i := 3) nd rfl (Or.inr rfl)) (pgs_cons (pg_name (i := 4) nd rfl (Or.inl rfl)) pgs_nil))))
    (pss_cons (ps_set (i := 5) nd rfl (Or.inl rfl) (pe_op op_mul (C8.pe_c c_law_take hr (by omega) (by rfl) (pa_cons (pv 0) (pa_cons (pe_op op_add (pv 2) pe_int) pa_nil))) (pe_callTy call_int1 (by rfl) m_int (by decide +kernel) (pa_cons (pe_cmpR op_gt (pe_callB (r := rLn K) call_len_seq (by rfl) m_len PySem.boot_len (pa_cons (pv 3) pa_nil)) pe_int (nomark _)) pa_nil))))
    (pss_cons (ps_par (i := 6) (j := 7) (by rfl) nd rfl rfl (by decide) rfl rfl (pa_cons (C8.pe_c c_law_names hr (by omega) (by rfl) (pa_cons (pv 0) (pa_cons (pe_callB (call_max2 rfl) (by rfl) m_max (by decide +kernel) (pa_cons pe_int (pa_cons (pv 5) pa_nil))) pa_nil))) (pa_cons (pe_ix (r := rIxL K) ix_list (pv 3) pe_int (fun _ _ => rfl)) pa_nil)) (by rfl))
    (C8.pss_cut (ps_if (pt_cmpR op_eq (C8.pe_c c_law_take hr (by omega) (by rfl) (pa_cons (pv 0) (pa_cons pe_int pa_nil))) pe_int (nomark _)) (pss_one (ps_set (i := 6) nd rfl (Or.inl rfl) (pe_op op_cat (pv 3) (pe_lc (own := [("title", 12)]) (g := (gName 12)) (by rfl) nd (pi_list (pv 6)) (blkOk_by (own := [("title", 12)]) (N := n_law_hall) (sc := defScope s_law_hall) (by decide +kernel)) (fun _ _ _ _ _ => (pg_name (i := 12) nd rfl (Or.inl rfl))) (fun _ _ _ _ _ => (pts_one (pt_cmpR (r := rIn K true) op_notIn_seq (pv 12) (pv 3) (by rfl)))) (fun _ _ _ _ _ => (pv 12)))))) pss_nil)
    (pss_cons (ps_for PassesOwn.never rfl (pi_range1 (by rfl) m_range (pa_cons (pv 5) pa_nil)) (pg_name (i := 8) nd rfl (Or.inl rfl)) (pss_cons (ps_set (i := 9) nd rfl (Or.inl rfl) (pe_ix (r := rIxL K) ix_list (pe_lst (pa_cons (pv 7) (pa_cons (pe_ix (r := rIxL K) ix_list (pv 3) (C8.pe_c c_law_take hr (by omega) (by rfl) (pa_cons (pv 0) (pa_cons (pe_callB (r := rLn K) call_len_seq (by rfl) m_len PySem.boot_len (pa_cons (pv 3) pa_nil)) pa_nil))) (fun _ _ => rfl)) pa_nil))) (C8.pe_c c_law_take hr (by omega) (by rfl) (pa_cons (pv 0) (pa_cons pe_int pa_nil))) (fun _ _ => rfl)))
    (pss_cons (ps_set (i := 10) nd rfl (Or.inl rfl) (show PE _ _ (tBM K _ _ _ _) from pe_bm PySem.F.plainAttrs_list PySem.F.slot_list_index PySem.F.type_list_index (r := rIndex K) mt_index (pv 3) (pa_cons (pv 9) pa_nil)))
    (pss_cons (ps_set (i := 11) nd rfl (Or.inl rfl) (pe_ix (r := rIxL K) ix_list (pv 3) (pe_op op_mod (pe_op op_add (pe_op op_add (pv 10) pe_int) (C8.pe_c c_law_take hr (by omega) (by rfl) (pa_cons (pv 0) (pa_cons (pe_op op_sub (pe_callB (r := rLn K) call_len_seq (by rfl) m_len PySem.boot_len (pa_cons (pv 3) pa_nil)) pe_int) pa_nil)))) (pe_callB (r := rLn K) call_len_seq (by rfl) m_len PySem.boot_len (pa_cons (pv 3) pa_nil))) (fun _ _ => rfl)))
    (pss_cons (ps_expr (show PE _ _ (tBM K _ _ _ _) from pe_bm PySem.F.plainAttrs_list PySem.F.slot_list_append PySem.F.type_list_append mt_append (pv 4) (pa_cons (pe_tup (pa_cons (pe_ix (r := rIxL K) ix_list (pv 6) (pv 8) (fun _ _ => rfl)) (pa_cons (pv 9) (pa_cons (pv 11) pa_nil)))) pa_nil)))
    (pss_one (ps_set (i := 7) nd rfl (Or.inl rfl) (pv 11))))))))
    (pss_one (ps_ret (pe_tup (pa_cons (pe_callTy (r := rTpOf K) call_tuple_of (by rfl) m_tuple (by decide +kernel) (pa_cons (pv 3) pa_nil)) (pa_cons (pe_callTy (r := rTpOf K) call_tuple_of (by rfl) m_tuple (by decide +kernel) (pa_cons (pv 4) pa_nil)) pa_nil)))))))))), ?_⟩
  have nofree : ∀ {p : Addr} {H1 : Hp}, Ch b H H1 → Box H1 b → H1 p = none → H p = none := fun c B h => c.none (B.ne h) h
  -- names, known
  refine ⟨_, rfl, _, rfl, _, rfl, b, m1, rfl, hB, by omega, by omega, fun r0 H0 r00 r01 B0 c0 => ⟨_, _, rfl, rfl, b, _, rfl, B0, by omega, by omega, fun np ns H1 hnn hnp hnl hnd hnm B1 c1 => ⟨(by show 0 ≤ sizeLine; decide), fun kp hkp => ⟨(by show 2 ≤ sizeLine; decide), fun tp htp => ⟨tp, _, rfl, SqT.of upd_same, rfl, _, _, rfl, _, _, rfl, rfl, ?_⟩⟩⟩⟩⟩
  have nnb : np ≠ b := B0.ne hnn
  have nkb : kp ≠ b := B1.ne hkp
  have nnk : np ≠ kp := ne_of_none hnp hkp
  have c01 : Ch b H H1 := c0.trans c1
  have kfree : H kp = none := nofree c01 B1 hkp
  have c02 : Ch b H (upd (upd H1 kp (.lst [])) tp (.tup [.ref np, .ref kp])) := (c01.new hkp _).new htp _
  have B2 : Box (upd (upd H1 kp (.lst [])) tp (.tup [.ref np, .ref kp])) b := (B1.new hkp _).new htp _
  have hn2 : (upd (upd H1 kp (.lst [])) tp (.tup [.ref np, .ref kp])) np = some (.lst (ns.map V.str)) := same_new htp _ _ _ (same_new hkp _ _ _ hnp)
  have hk2 : (upd (upd H1 kp (.lst [])) tp (.tup [.ref np, .ref kp])) kp = some (.lst []) := same_new htp _ _ _ upd_same
  generalize (upd (upd H1 kp (.lst [])) tp (.tup [.ref np, .ref kp])) = H2 at c02 B2 hn2 hk2 ⊢
  have hnl8 : (ns.length : Int) = 1 + r0 := by omega
  have hml : (ns.map V.str).length = ns.length := List.length_map _
  -- size
  refine ⟨_, rfl, _, rfl, _, _, rfl, rfl, b, _, rfl, B2, by omega, by omega, fun r1 H3 r10 r11 B3 c3 => ⟨_, rfl, np, _, rfl, .inl (SqL.of (c3 _ _ nnb hn2)), _, _, rfl, rfl, .inr ⟨_, rfl, _, _, rfl, rfl, .inl ⟨by omega, by omega⟩, ?_⟩⟩⟩
  rw [hml]
  obtain ⟨n, en, hn1, hn2'⟩ : ∃ n : Nat, r1 * (if decide (1 < ((ns.length : Nat) : Int)) = true then 1 else 0) = (n : Int) ∧ (n : Int) ≤ m2 ∧ (0 < n → 2 ≤ ns.length) := by
    by_cases g : 1 < ((ns.length : Nat) : Int)
    · refine ⟨r1.toNat, ?_, by omega, fun _ => by omega⟩
      rw [decide_eq_true g, if_pos rfl]
      omega
    · refine ⟨0, ?_, by omega, fun z => by omega⟩
      rw [decide_eq_false g, if_neg (by decide)]
      omega
  have en' : V.int (r1 * (if decide (1 < ((ns.length : Nat) : Int)) = true then 1 else 0)) = V.int (n : Int) := congrArg V.int en
  show gName 5 (V.int (r1 * (if decide (1 < ((ns.length : Nat) : Int)) = true then 1 else 0))) _ _ _
  rw [en']
  clear en' en
  have hn3 := c3 _ _ nnb hn2
  have hk3 := c3 _ _ nkb hk2
  have c03 := c02.trans c3
  -- titles, last
  obtain ⟨l0, hl0, al0⟩ := atS (ss := ns) (j := 0) (by omega) (by omega)
  refine ⟨_, rfl, _, rfl, _, _, rfl, b, _, rfl, B3, ?_, ?_, fun tq ts H4 htn htq htl htnd htnm B4 c4 => ⟨_, rfl, np, _, _, _, rfl, rfl, SqL.of (c4 _ _ nnb hn3), al0, _, _, rfl, ?_⟩⟩
  · split <;> omega
  · split <;> omega
  have htl2 : n ≤ ts.length := by
    rw [htl]
    split <;> omega
  have ntb : tq ≠ b := B3.ne htn
  have hn4 := c4 _ _ nnb hn3
  have hk4 := c4 _ _ nkb hk3
  have c04 := c03.trans c4
  have ml0 : l0 ∈ ns := List.mem_of_getElem? hl0
  -- if ..: titles = ..
  refine ⟨fun σ' H' => ∃ (tq : Addr) (ts : List Str), σ' = [some (.ref b), some (.int m1), some (.int m2), some (.ref np), some (.ref kp), some (.int n), some (.ref tq), some (.str l0), none, none, none, none, none] ∧ H' tq = some (.lst (ts.map V.str)) ∧ tq ≠ kp ∧ tq ≠ b ∧ ts.Nodup ∧ (∀ x ∈ ts, Nm x) ∧ n ≤ ts.length ∧ H' np = some (.lst (ns.map V.str)) ∧ H' kp = some (.lst []) ∧ Box H' b ∧ Ch b H H', ?_, ?_⟩
  · refine ⟨_, rfl, b, 6, rfl, B4, by decide, by decide, fun r2 H5 r20 r21 B5 c5 => ⟨rfl, _, rfl, ?_⟩⟩
    have hn5 := c5 _ _ nnb hn4
    have hk5 := c5 _ _ nkb hk4
    have ht5 := c5 _ _ ntb htq
    have ntk : tq ≠ kp := (ne_of_none hk3 htn).symm
    refine ite2 (fun g => ?_) (fun g => ?_)
    · refine ⟨_, rfl, _, rfl, tq, rfl, ⟨_, SqL.of ht5⟩, fun D hD => ?_⟩
      have nDn : np ≠ D := ne_of_none hn5 hD
      have nDt : tq ≠ D := ne_of_none ht5 hD
      refine lc_list (K := K) (a := tq) (xs := ts.map V.str) (fun i Hx => Hx = upd H5 D (.lst (((ts.take i).filter fun t => !decide (t ∈ ns)).map V.str))) rfl (fun i Hx _ e => by subst e; exact SqL.of (by rw [upd_ne nDt]; exact ht5)) (fun i x Hx hx e => ?_) (fun Hx e => ?_)
      · subst e
        rw [List.getElem?_map] at hx
        obtain ⟨t, ht, rfl⟩ : ∃ t, ts[i]? = some t ∧ V.str t = x := by
          cases z : ts[i]? with
          | none => rw [z] at hx; cases hx
          | some t => rw [z] at hx; exact ⟨t, rfl, Option.some.inj hx⟩
        have et : ts.take (i + 1) = ts.take i ++ [t] := by rw [List.take_succ, ht]; rfl
        refine ⟨rfl, _, rfl, _, rfl, np, _, rfl, .inl (SqL.of (by rw [upd_ne nDn]; exact hn5)), rfl, flat_strs _, _, rfl, ?_⟩
        rw [inV_str, et, List.filter_append, List.map_append]
        by_cases hin : t ∈ ns
        · have ef : ([t].filter fun t => !decide (t ∈ ns)) = [] := by simp [hin]
          rw [decide_eq_true hin, ef]
          refine iteF ?_
          rw [List.map_nil, List.append_nil]
        · have ef : ([t].filter fun t => !decide (t ∈ ns)) = [t] := by simp [hin]
          rw [decide_eq_false hin, ef]
          refine iteT ⟨_, rfl, _, upd_same, ?_, ?_⟩
          · rw [List.length_map]
            refine Nat.lt_of_le_of_lt (List.length_filter_le _ _) (Nat.lt_of_le_of_lt (by rw [List.length_take]; exact Nat.min_le_right _ _) ?_)
            refine Nat.lt_of_lt_of_le (show ts.length < 100 from ?_) (by decide)
            rw [htl]
            split <;> omega
          · rw [upd_upd]
            rfl
      · subst e
        rw [List.length_map, List.take_length]
        refine ⟨np, D, _, _, rfl, rfl, (by rw [upd_ne nDn]; exact hn5), upd_same, ?_, fun p hp => ?_⟩
        · rw [List.length_map, List.length_map]
          have z := List.length_filter_le (fun t => !decide (t ∈ ns)) ts
          have y : ts.length ≤ 100 := by
            rw [htl]
            split <;> omega
          exact Nat.le_trans (show _ ≤ 200 by omega) (by decide)
        · have hnf : ∀ {a o}, H5 a = some o → (upd (upd H5 D (.lst ((ts.filter fun t => !decide (t ∈ ns)).map V.str))) p (.lst (ns.map V.str ++ (ts.filter fun t => !decide (t ∈ ns)).map V.str))) a = some o := fun h => same_new hp _ _ _ (same_new hD _ _ _ h)
          refine ⟨p, ns ++ ts.filter fun t => !decide (t ∈ ns), rfl, by rw [upd_same, List.map_append], fun z => ?_, fun z => ?_, titles_nd hnd htnd, titles_nm hnm htnm, Nat.le_trans htl2 (titles_len htnd), hnf hn5, hnf hk5, (B5.new hD _).new hp _, ((c04.trans c5).new hD _).new hp _⟩
          · have y := same_new hD (.lst ((ts.filter fun t => !decide (t ∈ ns)).map V.str)) _ _ hk5
            rw [z, y] at hp
            cases hp
          · exact (B5.new hD _).ne hp z
    · exact ⟨tq, ts, rfl, ht5, ntk, ntb, htnd, htnm, htl2, hn5, hk5, B5, c04.trans c5⟩
  rintro σ' H' ⟨tq, ts, rfl, ht6, ntk, ntb, htnd, htnm, htl2, hn6, hk6, B6, c06⟩
  refine ⟨_, rfl, _, rfl, by omega, by omega, ?_⟩
  refine for_range (lo := 0) (n := ((n : Int)).toNat) (fun i σ' H' => ∃ (as : List Addr) (rows : List (List Str)) (lv : Str) (vk v9 v10 v11 : Option V), σ' = [some (.ref b), some (.int m1), some (.int m2), some (.ref np), some (.ref kp), some (.int n), some (.ref tq), some (.str lv), vk, v9, v10, v11, none] ∧
    H' kp = some (.lst (as.map V.ref)) ∧ RowsAt H' as rows ∧ rows.length = i ∧ (rows.map fun r => r.headD "") = ts.take i ∧ (∀ r ∈ rows, ∃ n a b : Str, r = [n, a, b] ∧ n ∈ ts ∧ a ∈ ns ∧ b ∈ ns ∧ a ≠ b) ∧ lv ∈ ns ∧ H' np = some (.lst (ns.map V.str)) ∧ H' tq = some (.lst (ts.map V.str)) ∧ Box H' b ∧ Ch b H H')
    ⟨[], [], l0, none, none, none, none, rfl, hk6, RowsAt.nil, rfl, rfl, (fun r hr => by cases hr), ml0, hn6, ht6, B6, c06⟩ (fun i σ' H' hi hP => ?_) (fun σ' H' hP => ?_)
  · obtain ⟨as, rows, lv, vk, v9, v10, v11, rfl, hk7, hR7, hl7, hh7, hv7, mlv, hn7, ht7, B7, c07⟩ := hP
    have h2n : 2 ≤ ns.length := hn2' (by omega)
    -- one
    refine ⟨_, rfl, _, rfl, _, rfl, _, rfl, np, _, rfl, .inl (SqL.of hn7), b, _, rfl, B7, by omega, by omega, fun r2 Ha r20 r21 Ba ca => ?_⟩
    rw [hml] at r21
    obtain ⟨o1, ho1, ao1⟩ := atS (ss := ns) (j := r2) r20 r21
    refine ⟨np, _, _, _, rfl, rfl, SqL.of (ca _ _ nnb hn7), ao1, (by show 2 ≤ sizeLine; decide), fun lp hlp => ?_⟩
    have nlb : lp ≠ b := Ba.ne hlp
    refine ⟨_, rfl, b, 2, rfl, Ba.new hlp _, by decide, by decide, fun r3 Hb r30 r31 Bb cb => ?_⟩
    obtain ⟨ov, aov, mov⟩ : ∃ ov : Str, atI ([.str lv, .str o1] : List V) r3 = some (.str ov) ∧ ov ∈ ns := by
      have z : r3 = 0 ∨ r3 = 1 := by omega
      rcases z with rfl | rfl
      · exact ⟨lv, atI_nat (j := 0) rfl, mlv⟩
      · exact ⟨o1, atI_nat (j := 1) rfl, List.mem_of_getElem? ho1⟩
    refine ⟨lp, _, _, _, rfl, rfl, SqL.of (cb _ _ nlb upd_same), aov, ?_⟩
    have step : ∀ {a o}, a ≠ b → H' a = some o → Hb a = some o := fun na h => cb _ _ na (same_new hlp _ _ _ (ca _ _ na h))
    have hnb := step nnb hn7
    have htb := step ntb ht7
    have hkb := step nkb hk7
    have cHb : Ch b H Hb := ((c07.trans ca).new hlp _).trans cb
    have tub : Tu H' Hb := ((Tu.of ca B7).trans (Tu.new hlp _)).trans (Tu.of cb (Ba.new hlp _))
    -- at
    obtain ⟨j, hj⟩ := List.getElem?_of_mem mov
    have hjl : j < ns.length := (List.getElem?_eq_some_iff.mp hj).1
    refine ⟨_, rfl, .inl ⟨rfl, _, SqL.of hnb⟩, _, rfl, np, ns.map V.str, .str ov, j, .str ov, rfl, rfl, SqL.of hnb, rfl, flat_strs _, by rw [List.getElem?_map, hj]; rfl, by show (ov == ov) = true; exact beq_self_eq_true _, fun m z' hm hz => ?_, ?_⟩
    · rw [List.getElem?_map] at hz
      cases y : ns[m]? with
      | none => rw [y] at hz; cases hz
      | some x =>
        rw [y] at hz
        cases hz
        show (x == ov) = false
        refine beq_eq_false_iff_ne.mpr fun e => ?_
        subst e
        have := nd_ix hnd y hj
        omega
    -- other
    refine ⟨_, rfl, _, rfl, _, _, rfl, rfl, _, rfl, _, rfl, np, _, rfl, .inl (SqL.of hnb), _, _, rfl, rfl, b, _, rfl, Bb, (by rw [hml]; omega), (by rw [hml]; omega), fun r4 Hc r40 r41 Bc cc => ?_⟩
    rw [hml] at r41
    have hpos : (0 : Int) < (ns.length : Int) := by omega
    obtain ⟨ot, hot, aot⟩ := atS (ss := ns) (j := ((j : Int) + 1 + r4) % (ns.length : Int)) (Int.emod_nonneg _ (by omega)) (Int.emod_lt_of_pos _ hpos)
    refine ⟨_, _, rfl, rfl, _, rfl, np, _, rfl, .inl (SqL.of (cc _ _ nnb hnb)), _, _, rfl, rfl, (by rw [hml]; exact hpos), np, _, _, _, rfl, rfl, SqL.of (cc _ _ nnb hnb), (by rw [hml]; exact aot), ?_⟩
    have nother : ov ≠ ot := fun e => by
      subst e
      have z := nd_ix hnd hj hot
      have lt : (j : Int) < (ns.length : Int) := by omega
      by_cases g : (j : Int) + 1 + r4 < (ns.length : Int)
      · rw [Int.emod_eq_of_lt (by omega) g] at z
        omega
      · have y : ((j : Int) + 1 + r4) % (ns.length : Int) = (j : Int) + 1 + r4 - (ns.length : Int) := by
          rw [← Int.sub_emod_right]
          exact Int.emod_eq_of_lt (by omega) (by omega)
        rw [y] at z
        omega
    have htc := cc _ _ ntb htb
    have hkc := cc _ _ nkb hkb
    -- known.append(..)
    have hik : i < ts.length := by omega
    have ait : atI (ts.map V.str) (0 + (i : Int)) = some (.str ts[i]) := by
      rw [Int.zero_add]
      exact atI_nat (by rw [List.getElem?_map, List.getElem?_eq_getElem hik]; rfl)
    refine ⟨_, rfl, .inl ⟨rfl, _, SqL.of hkc⟩, _, rfl, _, rfl, tq, _, _, _, rfl, rfl, SqL.of htc, ait, _, rfl, _, rfl, (by show 3 ≤ sizeLine; decide), fun p hp => ?_⟩
    have npk : kp ≠ p := ne_of_none hkc hp
    have npb : p ≠ b := Bc.ne hp
    refine ⟨kp, _, _, rfl, rfl, same_new hp _ _ _ hkc, ?_, ?_⟩
    · rw [List.length_map, hR7.1, hl7]
      exact Nat.lt_of_lt_of_le (show i < 100 by omega) (by decide)
    have ntk' : ∀ {a xs}, (upd Hc p (.tup [.str ts[i], .str ov, .str ot])) a = some (.tup xs) → a ≠ kp := fun h z => by
      rw [z, same_new hp _ _ _ hkc] at h
      cases h
    have tuc : Tu H' (upd (upd Hc p (.tup [.str ts[i], .str ov, .str ot])) kp (.lst (as.map V.ref ++ [.ref p]))) := fun a xs h => by
      have z := same_new hp (.tup [.str ts[i], .str ov, .str ot]) _ _ ((tub.trans (Tu.of cc Bb)) a xs h)
      rw [upd_ne (ntk' z)]
      exact z
    refine ⟨_, rfl, as ++ [p], rows ++ [[ts[i], ov, ot]], ot, _, _, _, _, rfl, ?_, (hR7.tu tuc).snoc ?_, by rw [List.length_append, hl7]; rfl, ?_, ?_, List.mem_of_getElem? hot, ?_, ?_, ?_, ?_⟩
    · rw [upd_same, List.map_append]
      rfl
    · rw [upd_ne npk.symm]
      exact upd_same
    · rw [List.map_append, hh7, List.take_succ, List.getElem?_eq_getElem hik]
      rfl
    · intro r hr
      rcases List.mem_append.mp hr with hr | hr
      · exact hv7 r hr
      · have e := List.mem_singleton.mp hr
        exact ⟨_, _, _, e, List.getElem_mem hik, mov, List.mem_of_getElem? hot, nother⟩
    · rw [upd_ne nnk]
      exact same_new hp _ _ _ (cc _ _ nnb hnb)
    · rw [upd_ne ntk]
      exact same_new hp _ _ _ htc
    · exact (Bc.new hp _).upd nkb _
    · exact ((cHb.trans cc).new hp _).mut kfree _
  · obtain ⟨as, rows, lv, vk, v9, v10, v11, rfl, hk7, hR7, hl7, hh7, hv7, mlv, hn7, ht7, B7, c07⟩ := hP
    refine ⟨_, rfl, np, _, rfl, .inl ⟨SqL.of hn7, fun t1 h1 => ⟨_, rfl, kp, _, rfl, .inl ⟨SqL.of (same_new h1 _ _ _ hk7), fun t2 h2 => ⟨(by show 2 ≤ sizeLine; decide), fun t3 h3 => ?_⟩⟩⟩⟩⟩
    have tu : Tu H' (upd (upd (upd H' t1 (.tup (ns.map V.str))) t2 (.tup (as.map V.ref))) t3 (.tup [.ref t1, .ref t2])) := ((Tu.new h1 _).trans (Tu.new h2 _)).trans (Tu.new h3 _)
    refine q t3 ns rows _ ⟨t1, t2, upd_same, (Tu.new h3 _) _ _ ((Tu.new h2 _) _ _ upd_same), as, (Tu.new h3 _) _ _ upd_same, hR7.tu tu⟩ ⟨by omega, by omega, hnd, hnm, by omega, fun r hr => ?_, ?_⟩ (by omega) (by omega) (((B7.new h1 _).new h2 _).new h3 _) (((c07.new h1 _).new h2 _).new h3 _)
    · obtain ⟨x, y, z, e, e1, e2, e3, e4⟩ := hv7 r hr
      exact ⟨x, y, z, e, htnm x e1, e2, e3, e4⟩
    · rw [hh7]
      exact htnd.sublist (List.take_sublist _ _)
end
end Td
set_option maxHeartbeats 4000000
namespace Td
open PySem PySem.Spec PyProof.Rows L2
open PySem.HandSPX (excO)
open Builtin Builtin.ObjectAttr
/-! ### an own class over KeyError with its own __init__ (its maker is LookupError's) -/
abbrev keTail : List Value := [.type "KeyError", .type "LookupError", .type "Exception", .type "BaseException", .type "object"]
abbrev keObj (nm q : Str) (C N : Addr) (bs : List Value) (sn : List Str) (sub : List Value) (ab : Bool) (col : Option Bool) (dd : Option Addr) (k0 k1 k2 k3 k5 : Option Value) : Obj := excClassObj nm q C N bs keTail true sn sub ab col dd k0 k1 k2 k3 k5 "LookupError.__new__"
theorem ke_has (C : Addr) : (Value.ref C :: keTail).contains (.type "LookupError") = true := by rw [List.contains_cons, show keTail.contains (Value.type "LookupError") = true from by decide +kernel, Bool.or_true]
theorem ke_noA (C : Addr) : (Value.ref C :: keTail).contains (.type "AttributeError") = false := by rw [List.contains_cons, show keTail.contains (Value.type "AttributeError") = false from by decide +kernel]; rfl
theorem ke_noN (C : Addr) : (Value.ref C :: keTail).contains (.type "NameError") = false := by rw [List.contains_cons, show keTail.contains (Value.type "NameError") = false from by decide +kernel]; rfl
theorem ke_ob (C : Addr) : (Value.ref C :: keTail).contains (.type "object") = true := by rw [List.contains_cons, show keTail.contains (Value.type "object") = true from by decide +kernel, Bool.or_true]
theorem ke_pass (self : Value) : refuseLoop self "__setattr__" keTail = pure () := by kernel_rfl
theorem ke_pass_own (self : Value) (C : Addr) : refuseLoop self "__setattr__" (.ref C :: keTail) = pure () := by rw [refuseLoop_ref]; exact ke_pass self
section
variable {M : Model} {A : Around} {E : Value → Shared → Prop} {h : Heap} {g : Array GenState} {d : Drawn} {t : Nat} {os : OsState}
variable {nm q : Str} {C N : Addr} {bs : List Value} {sn : List Str} {sub : List Value} {ab : Bool} {col : Option Bool} {dd : Option Addr} {k0 k1 k2 k3 k5 : Option Value}
theorem ke_check {more : List Value} {Q : Unit → Shared → Prop} (at_ : h.get? C = some (keObj nm q C N bs sn sub ab col dd k0 k1 k2 k3 k5)) (hq : Q () ⟨h, g, d, t, os⟩) :
    wpAny M A (checkBuiltinCall "LookupError.__new__" ⟨.ref C :: more, []⟩) Q E ⟨h, g, d, t, os⟩ := by
  have c1 := ke_has C
  have c2 := PySem.F.excBase_LookupError.noStar
  simp only [checkBuiltinCall, PySem.F.excBase_LookupError.newKind, PySem.F.excBase_LookupError.newSplit, PySem.F.excBase_LookupError.newRow]
  repeat (first | refine wpAny_loadPart_at at_ ?_ | (refine wpAny_isSubtype_exc at_ ?_; rw [c1]) | refine wpAny_staticBase_exc at_ ?_ | refine wpAny_madeBy_exc at_ ?_ | simp only [bne_self_eq_false, Bool.false_eq_true, if_false] | wp_step)
  exact hq
end
section
variable {prog : Program} {w : World} {A : Around} {E : Value → Shared → Prop} {R : Result → Shared → Prop} {h : Heap} {g : Array GenState} {d : Drawn} {t : Nat} {os : OsState}
variable {nm q : Str} {C N : Addr} {bs : List Value} {sn : List Str} {sub : List Value} {ab : Bool} {col : Option Bool} {dd : Option Addr} {k0 k1 k2 k3 k5 : Option Value}
theorem ke_new {more : List Value} (at_ : h.get? C = some (keObj nm q C N bs sn sub ab col dd k0 k1 k2 k3 k5)) (few : more.length ≤ sizeLine)
    (hq : R (.ok (.ret (.ref (h.objs.size + 1)))) ⟨(h.push (PySem.W.kdv_tup more)).push (excO C h.objs.size), g, d, t, os⟩) : codeAny (model prog w) A (.builtin "LookupError.__new__" ⟨.ref C :: more, []⟩) R ⟨h, g, d, t, os⟩ := by
  have ends_ := PySem.F.excBase_LookupError.ends
  have c1 := ke_has C; have c2 := ke_noA C; have c3 := ke_noN C
  refine codeAny_builtinAt PySem.F.excBase_LookupError.entry ?_
  unfold Builtin.«BaseException.__new__»
  refine PySem.wpAt_bind ?_
  show PySem.wpAt _ _ _ (stack >>= _) _ _ _
  refine PySem.wpAt_bind (PySem.wpAt_stack fun p below => PySem.wpAt_of_wpAny ?_)
  wp_walk
  refine PySem.wpAt_of_wpAny ?_
  rw [PySem.F.excBase_LookupError.owner]
  repeat (first | with_reducible refine wpAny_madeHere_exc PySem.F.excBase_LookupError.canon at_ ?_ | with_reducible refine wpAny_loadPart_at at_ ?_ | (with_reducible refine wpAny_isSubtype_exc at_ ?_; first | rw [c1] | rw [c2] | rw [c3]) | wp_step)
  show R _ _
  rw [Heap.size_push]
  exact hq
theorem ke_type_call {more : List Value} {fI : Addr} {Q : Fin → Shared → Prop} (at_ : h.get? C = some (keObj nm q C N bs sn sub ab col dd k0 k1 k2 k3 k5))
    (li : PySem.W.Looks (model prog w) h (typeLookup (.ref C) "__init__") (some (.ref fI))) (lb : ∀ self, PySem.W.Looks (model prog w) h (bindSpecial (.ref fI) self) (.ref fI, [self])) (few : more.length ≤ sizeLine)
    (hq : codeAny (model prog w) A (.call (.ref fI) ⟨.ref (h.objs.size + 1) :: more, []⟩) (fun r s' => match r with | .ok (.ret v) => v = .none ∧ Q (.done (.ret (.ref (h.objs.size + 1)))) s' | .ok _ => False | .error e => E e s')
      ⟨(h.push (PySem.W.kdv_tup more)).push (excO C h.objs.size), g, d, t, os⟩) : wpAny (model prog w) A (Builtin.«type.__call__» ⟨.ref C :: more, []⟩) Q E ⟨h, g, d, t, os⟩ := by
  repeat (first | with_reducible refine wpAny_loadPart_at at_ ?_ | with_reducible refine wpAny_madeBy_exc at_ ?_ | wp_step)
  refine codeAny_call_builtin_code (Code.quiet_builtin _ PySem.F.excBase_LookupError.quiet) (ke_check at_ (ke_new at_ few ?_))
  show wpAny _ _ _ _ _ _
  have k : ∀ b o, h.get? b = some o → ((h.push (PySem.W.kdv_tup more)).push (excO C h.objs.size)).get? b = some o := fun b o e => Heap.get?_push_of_some _ (Heap.get?_push_of_some _ e)
  have at1 := k _ _ at_
  have at2 : ((h.push (PySem.W.kdv_tup more)).push (excO C h.objs.size)).get? (h.objs.size + 1) = some (excO C h.objs.size) := by heap_get
  have c0 : (Value.ref C :: keTail).contains (.ref C) = true := by simp
  have i1 := li.keeps k; have b1 := (lb (.ref (h.objs.size + 1))).keeps k
  unfold isInstance
  repeat (first | with_reducible refine wpAny_loadPart_at at2 ?_ | (with_reducible refine wpAny_isSubtype_exc at1 ?_; rw [c0]) | wp_step)
  show wpAny _ _ (typeLookup (.ref C) _) _ _ _
  refine i1.at (wpAny_holding (wpAny_bind (b1.at (wpAny_bind (wpAny_call (codeAny_mono hq fun r s' z => ?_))))))
  rcases r with e | (v | _ | _ | _) <;> first | exact z | exact z.elim | skip
  obtain ⟨rfl, z⟩ := z
  first | exact wpAny_pure (wpAny_pure z) | (wp_walk; exact z)
theorem ke_call {more : List Value} {fI : Addr} (at_ : h.get? C = some (keObj nm q C N bs sn sub ab col dd k0 k1 k2 k3 k5))
    (li : PySem.W.Looks (model prog w) h (typeLookup (.ref C) "__init__") (some (.ref fI))) (lb : ∀ self, PySem.W.Looks (model prog w) h (bindSpecial (.ref fI) self) (.ref fI, [self])) (few : more.length ≤ sizeLine)
    (hq : codeAny (model prog w) (A.under (.builtin "type.__call__" ⟨.ref C :: more, []⟩)) (.call (.ref fI) ⟨.ref (h.objs.size + 1) :: more, []⟩) (PySem.W.InitBack (h.objs.size + 1) R) ⟨(h.push (PySem.W.kdv_tup more)).push (excO C h.objs.size), g, d, t, os⟩) :
    codeAny (model prog w) A (.call (.ref C) ⟨more, []⟩) R ⟨h, g, d, t, os⟩ := by
  have f1 := tc_lookup; have f2 := tc_bind (.ref C)
  have ty : (⟨h, g, d, t, os⟩ : Shared).TypeIs (.ref C) "type" := ⟨_, at_, rfl⟩
  refine codeAny_of_tree ?_; show wpAny _ _ (callAny (.ref C) _) _ _ _
  repeat (any_goals (first | assumption | with_reducible refine wpAny_loadPart_at at_ ?_ | wp_step))
  refine ⟨rfl, codeAny_call_builtin_at (Code.quiet_builtin _ (by decide +kernel)) entry_typeCall (wpAny_check_type_call_sub at_ (ke_type_call at_ li lb few (codeAny_mono hq fun r s' z => ?_)))⟩
  rcases r with e | (v | _ | _ | _) <;> exact z
end
section
variable {prog : Program} {w : World} {A : Around} {E : Value → Shared → Prop} {R : Result → Shared → Prop} {hp : Heap} {g : Array GenState} {d : Drawn} {t : Nat} {os : OsState}
/-- self.name = v on a new one -/
theorem ke_store {K : PySem.W.Frag} {name : Str} {tk : Tok} {v : Value} {x C : Addr} {fv : Array Value} {cd : ClassData} (kin : K.In hp) (at_ : hp.get? x = some { cls := .ref C, data := .fields fv }) (hcd : PySem.W.clsIn K C = some cd) (hm : cd.mro = .ref C :: keTail) (hh : cd.hasDict = true)
    (no : PySem.W.findIn K (.ref C) name = some none)
    (hq : ∀ h' tk' dx, (∀ b o, b ≠ x → hp.get? b = some o → h'.get? b = some o) → hp.objs.size ≤ dx → dx ≠ x → h'.get? x = some { cls := .ref C, dict := some dx, data := .fields fv } →
      h'.Ns1 dx (fun y => if y = name then some v else none) → R (.ok (.ret .none)) ⟨h', g, d, tk', os⟩) :
    codeAny (model prog w) A (.call (.builtin "object.__setattr__") ⟨[.ref x, .str name tk, v], []⟩) R ⟨hp, g, d, t, os⟩ := by
  have inst : PySem.W.InstAt hp x { cls := .ref C, data := .fields fv } C none := ⟨at_, rfl, rfl, trivial⟩
  have sf := PySem.F.store_object
  have nx : x ≠ hp.objs.size := Nat.ne_of_lt (Heap.lt_size at_)
  have isb : PySem.W.Looks (model prog w) hp (isInstance (.ref x) (.type "object")) true := inst.type.andThen (PySem.W.looks_mroIn kin (by unfold PySem.W.mroIn; rw [hcd, Option.bind_some, hm, if_neg (fun q => nomatch q), ke_ob]))
  refine codeAny_call_builtin sf.slot.plain sf.entry (@PySem.W.check_slot (model prog w) _ _ ⟨hp, g, d, t, os⟩ "object.__setattr__" "object" "__setattr__" (.ref x) [.str name tk, v] [] _ sf.kind sf.split isb (sf.args (.ref x) (.str name tk) v) ?_)
  have lm : PySem.W.Looks (model prog w) hp (mroOf (.ref C)) cd.mro := (PySem.W.looks_clsIn kin hcd).andThen .now
  have l3 : PySem.W.Looks (model prog w) hp (storeTaker? none) none := .now
  have lc : PySem.W.Looks (model prog w) hp (classData C) cd := PySem.W.looks_clsIn kin hcd
  rw [PySem.W.osa_eq, refuse_eq]
  refine wpAny_bind (wpAny_bind (inst.type.at (wpAny_bind (lm.at ?_)))); rw [hm, ke_pass_own]
  refine wpAny_pure (wpAny_bind (inst.type.at (wpAny_bind ((PySem.W.looks_findIn kin no).at (wpAny_bind (l3.at ?_)))))); show wpAny _ _ (storeInOwnDict (.ref x) (.ref C) (.str name tk) name v false) _ _ _
  obtain ⟨nm, bs, mro, ns, qn, hd, sn, sb, ab, col, del⟩ := cd
  dsimp only at hh; subst hh
  unfold storeInOwnDict ownDictForStores
  repeat (first | with_reducible refine PySem.HandSPX.store_in_new ?_ ?_ | with_reducible refine wpAny_loadPart_at at_ ?_ | with_reducible refine lc.at ?_ | wp_step)
  · exact ⟨_, #[], _, (Heap.get?_update_ne _ _ _ _ nx.symm).trans (Heap.get?_push_at rfl rfl), rfl, fun e he => absurd he (by simp), fun _ => rfl⟩
  · intro h' tk' hn sb2
    have at1 : (hp.push { cls := .type "dict", data := .dict #[] }).get? x = some { cls := .ref C, data := .fields fv } := Heap.get?_push_of_some _ at_
    refine hq h' tk' hp.objs.size (fun b o hb ho => ?_) (Nat.le_refl _) nx.symm ((sb2.2 x nx).trans (Heap.get?_update_self _ at1 rfl)) hn
    exact (sb2.2 b (Nat.ne_of_lt (Heap.lt_size ho))).trans ((Heap.get?_update_ne _ _ _ _ hb).trans (Heap.get?_push_of_some _ ho))
end
end Td
set_option maxHeartbeats 4000000
namespace Td
open PySem PySem.Spec PyProof.Rows L2
/-! ### making and catching such errors, by rules -/
structure KexC (K : PySem.W.Frag) (C : Addr) : Prop where
  cls : ∃ nm q N bs sn sub ab col dd k0 k1 k2 k3 k5, K.lookup C = some (keObj nm q C N bs sn sub ab col dd k0 k1 k2 k3 k5)
  sa : PySem.W.findIn K (.ref C) "__setattr__" = some (some (.builtin "object.__setattr__"))
  exC : PySem.W.subIn K (.ref C) (.type "BaseException") = some true
  tyC : PySem.W.typeIn K (.ref C) = some (.type "type")
  kC : PySem.W.keepIn K (.ref C) = true
section
variable {X : Cx} {pins : List (Addr × Obj)} {σ : L2.St} {H : Hp} {s : Shared} {a C : Addr} {fld : Str} {y : V} {u : Value} {Q : Unit → Shared → Prop} {E : Value → Shared → Prop} {A : Around}
theorem kst_new (T : KexC X.K C) (I : Inv X pins σ H s) (e : H a = some (exo a C none)) (no : PySem.W.findIn X.K (.ref C) fld = some none) (ry : RelV y u)
    (h : ∀ dx s', H dx = none → dx ≠ a → Inv X pins σ (upd (upd H dx (exd dx [(fld, y)])) a (exo a C (some dx))) s' → Q () s') : wpAny (model X.prog X.w) A (setAttr (.ref a) fld u) Q E s := by
  obtain ⟨nm, q, N, bs, sn, sub, ab, col, dd, k0, k1, k2, k3, k5, hC⟩ := T.cls
  have kc : PySem.W.clsIn X.K C = some { name := nm, bases := bs, mro := .ref C :: keTail, ns := N, qualname := q, hasDict := true, slotNames := sn, subclasses := sub, abstract := ab, collection := col, hasDel := false } := by unfold PySem.W.clsIn; rw [hC] <;> rfl
  obtain ⟨t1, ho⟩ := exo_at I.hok e
  obtain ⟨hp, g, d, t, os⟩ := s
  refine PySem.W.set_plain I.kIn (ox := { cls := .ref C, dict := none, data := .fields #[.ref t1, .none, .none, .none, .bool false, .none] }) (od := none) ⟨ho, rfl, rfl, trivial⟩ T.sa ?_
  refine ke_store I.kIn ho kc rfl rfl no fun h' tk' dx k dn dne hx hn => ?_
  have nod : H dx = none := I.hok.fresh dn
  have ned : ∀ {b : Addr} {o : Obj}, hp.get? b = some o → b ≠ dx := fun {b o} q => Nat.ne_of_lt (Nat.lt_of_lt_of_le (Heap.lt_size q) dn)
  have nea : ∀ {b : Addr}, H b = none → b ≠ a := fun {b} n z => by subst z; rw [e] at n; cases n
  have both : ∀ {b : Addr} {o : HO}, H b = some o → b ≠ a → upd (upd H dx (exd dx [(fld, y)])) a (exo a C (some dx)) b = some o := fun {b o} q n => by
    rw [upd_ne n, upd_ne (ne_of_none q nod)]; exact q
  have un : Un X.fs [] H (upd (upd H dx (exd dx [(fld, y)])) a (exo a C (some dx))) hp h' :=
    { keep := fun b o q n _ _ => k b o (nea n) q
      slot := fun b o q n _ _ => ⟨o.slots, k b o (nea n) q⟩
      free := fun b o q n _ => by rw [upd_ne (nea n), upd_ne (ned q)]; exact n
      there := fun b o q _ => by
        by_cases hb : b = a
        · subst hb; exact ⟨_, hx⟩
        · exact ⟨o, k b o hb q⟩
      tups := fun b xs q => both q (at_ne e q exo_tup)
      frzs := fun b o v q => both q (at_ne e q exo_frz)
      tbls := fun b ps q => ⟨#[], by rw [both q (at_ne e q exo_tbl)]; simp⟩ }
  refine h dx _ nod dne (I.un (t' := tk') un fun b o q => ?_)
  by_cases hb : b = a
  · subst hb; rw [upd_same] at q; cases q; exact exo_ok hx
  · rw [upd_ne hb] at q
    by_cases hd : b = dx
    · subst hd; rw [upd_same] at q; cases q; exact exd_ok hn (relO_put (fs := []) ry fun g => True.intro)
    · rw [upd_ne hd] at q
      refine (I.hok b o q).stay (fun c v hc z => k c v ?_ z) (fun c hc => both hc (at_ne e hc exo_own)) (fun c xs hc => both hc (at_ne e hc exo_tup))
      rcases hc with hc | hc
      · rw [hc]; exact hb
      · exact at_ne e hc exo_own
end
def tKst (K : PySem.W.Frag) (fld : Str) (to te : TE) : TS := fun D σ H => te σ H fun y H1 => to σ H1 fun x H2 => ∃ a C : Addr, x = .ref a ∧ KexC K C ∧ PySem.W.findIn K (.ref C) fld = some none ∧ H2 a = some (exo a C none) ∧
  ∀ dx, H2 dx = none → dx ≠ a → D.nx σ (upd (upd H2 dx (exd dx [(fld, y)])) a (exo a C (some dx)))
theorem ps_kst {X : Cx} {o e : Expr} {to te : TE} {fld : Str} {p' pos : Pos} (ho : PE X o to) (he : PE X e te) (hs : swapsWith e (some (.Attribute o fld p')) pos.line X.env = pure false := by rfl) : PS X (.Assign [.Attribute o fld p'] e pos) (tKst X.K fld to te) := by
  refine ⟨fun pins s σ H D I h => plainObj_wpAny_Assign_Attribute (thn (he.run pins s σ H _ I h) fun v s1 ⟨y, H1, I1, r1, q1⟩ => thn (ho.run pins s1 σ H1 _ I1 q1) fun u s2 ⟨x, H2, I2, r2, a, C, ex, T, no, ea, q⟩ => ?_) hs⟩
  subst ex
  obtain rfl : u = Value.ref a := r2
  exact kst_new T I2 ea no r1 fun dx s' n ne J => ⟨σ, _, J, q dx n ne⟩
/-- C(e): its __init__ keeps sp -/
theorem pmk_kex {X : Cx} {CX : CXT} {x : Str} {C fI : Addr} {k : Nat} {fd : FuncData} {ps : List Str} {sp : Sp} {e : Expr} {es : List Expr} {ta : TA} {p pos : Pos} (T : KexC X.K C) (iC : PySem.W.findIn X.K (.ref C) "__init__" = some (some (.ref fI))) (tI : PySem.W.typeIn X.K (.ref fI) = some (.type "function"))
    (F1 : FnOk X.prog X.w X.K X.mg X.base CX k fI fd ps sp) (hr : Room (k + 1) X.A) (hb : Binds X.K fd ps []) (hx : Passes CX X (fun _ _ _ => False)) (hg : Gl X x) (hm : X.mg x = some (.ref C)) (ha : PA X (e :: es) ta)
    (hdb : (x == ("__debug__" : Str)) = false := by decide) (he : starEach (e :: es) X.env = (false, eval e X.env) :: starEach es X.env := by rfl) (hpl : (backTo pos (starEach es X.env)).any (·.1) = false := by rfl) :
    PMk X (.Call (.Name x p) (e :: es) [] pos) (tMkO C sp [] ta) := by
  intro pins s σ H Q I h
  obtain ⟨nm, q, N, bs, sn, sub, ab, col, dd, k0, k1, k2, k3, k5, hC⟩ := T.cls
  refine wpAny_Call_Name_kw (ld_glob I hg hm (PySem.W.callWith_K (h₀ := X.base) I.ok.mod.kin T.kC (thn (ha.run pos pins s σ H _ I h) fun us s1 ⟨vs, H1, I1, r1, hz, q1⟩ => ⟨I1.kIn, ?_⟩) he hpl) hdb)
  show wpAny _ _ (call (.ref C) us) _ _ _
  obtain ⟨hp, g, dr, tk, os⟩ := s1
  have le1 : hp.objs.size ≤ hp.objs.size + 1 := Nat.le_succ _
  have hn : H1 (hp.objs.size + 1) = none := I1.hok.fresh le1
  have hq := q1 (hp.objs.size + 1) hn
  have kk : ∀ b o, hp.get? b = some o → ((hp.push (PySem.W.kdv_tup us)).push (PySem.HandSPX.excO C hp.objs.size)).get? b = some o := fun b o z => Heap.get?_push_of_some _ (Heap.get?_push_of_some _ z)
  have at1 : ((hp.push (PySem.W.kdv_tup us)).push (PySem.HandSPX.excO C hp.objs.size)).get? (hp.objs.size + 1) = some (PySem.HandSPX.excO C hp.objs.size) := by heap_get
  have I2 : Inv X pins σ (upd H1 (hp.objs.size + 1) (exo (hp.objs.size + 1) C none)) ⟨(hp.push (PySem.W.kdv_tup us)).push (PySem.HandSPX.excO C hp.objs.size), g, dr, tk, os⟩ :=
    I1.laid (t' := tk) (a := hp.objs.size + 1) (o := exo (hp.objs.size + 1) C none) (h' := (hp.push (PySem.W.kdv_tup us)).push (PySem.HandSPX.excO C hp.objs.size)) kk le1 (exo_ok at1)
  have r2 : Vals (V.ref (hp.objs.size + 1) :: (vs ++ [])) (Value.ref (hp.objs.size + 1) :: (us ++ [])) := .cons rfl (r1.append .nil)
  have hl : (Value.ref (hp.objs.size + 1) :: us ++ []).length = ps.length := by
    have z := r2.length
    rw [F1.len _ _ _ _ hq] at z
    exact z.symm
  have few : us.length ≤ sizeLine := by
    rw [← Paired.length r1, sizeLine_eq]; omega
  have hb2 := hb _ (Value.ref (hp.objs.size + 1) :: us) I2.kIn hl
  rw [List.cons_append] at hb2
  refine wpAny_call (ke_call (I1.kIn _ _ hC) (PySem.W.looks_findIn I1.kIn iC) (fun self => PySem.W.bind_fn I1.kIn self tI) few (codeAny_mono (F1.run _ X.stack _ _ ⟨Value.ref (hp.objs.size + 1) :: us, []⟩ (Value.ref (hp.objs.size + 1) :: (us ++ [])) _ _ (fun _ _ _ => False)
    (hr.make C us []) (I2.env0.make C us []) hb2 r2 hq) fun r s' z => ?_))
  cases r with
  | error er => exact hx pins σ _ _ er s' I2 z
  | ok fl =>
    cases fl with
    | ret u =>
      obtain ⟨v, H2, os2, bare2, un2, hok2, rv, ev, d, fs, ea, ed, hd1, q2⟩ := z
      subst ev
      obtain ⟨h2, g2, d2, t2, os'⟩ := s'
      exact ⟨rv, mk_end (raises_own T.exC T.tyC) I1 le1 kk un2 hok2 os2 bare2 ea ed hd1 q2⟩
    | next => exact False.elim z
    | brk => exact False.elim z
    | cont => exact False.elim z
end Td
set_option maxHeartbeats 4000000
namespace Td
open PySem PySem.Spec PyProof.Rows L2
/-! ### try: .. except A as n: .. and further clauses behind it: what the body raises is caught by the first -/
/-- behind the suite: the name is gone -/
def Ends_ (D : Ends) (i : Nat) : Ends := { nx := fun σ H => D.nx (σ.set i none) H, rt := D.rt, bk := fun σ H => D.bk (σ.set i none) H, ct := fun σ H => D.ct (σ.set i none) H }
abbrev Cls_ := Value × Nat × (Addr → Value → Option Addr → TS)
/-- one of the clauses catches it -/
def wSeq (K : PySem.W.Frag) (D : Ends) : List Cls_ → WX
  | [] => fun _ _ _ _ => False
  | (c, i, ts) :: r => fun cls d σ H => (PySem.W.exmOne K cls c = some true ∧ ∀ a, H a = none → ts a cls d (Ends_ D i) (σ.set i (some (.ref a))) H) ∨ (PySem.W.exmOne K cls c = some false ∧ wSeq K D r cls d σ H)
/-- clauses with a name; what stands behind them never matters -/
inductive HdsAs (X : Cx) : List ExceptHandler → List Cls_ → Prop
  | any (hds : List ExceptHandler) : HdsAs X hds []
  | cons {x n : Str} {c : Value} {i : Nat} {ts : Addr → Value → Option Addr → TS} {b₀ : Stmt} {suite : List Stmt} {np pos' : Pos} {hds : List ExceptHandler} {l : List Cls_} (nam : Names X x c) (at_ : X.N[i]? = some n) (lcl : X.env.kindOf n = some .local)
      (caught : ∀ (a : Addr) (oe : Obj) (cls : Value) (d : Option Addr) (pn : List (Addr × Obj)), Zc cls d oe → (∃ vs, oe.data = .fields vs) → PSs (X.suite a ((a, oe) :: pn)) (b₀ :: suite) (ts a cls d)) (r : HdsAs X hds l) :
      HdsAs X (.ExceptHandler (some (.Name x np)) (some n) (b₀ :: suite) pos' :: hds) ((c, i, ts) :: l)
theorem ps_try_seq {X : Cx} {body : List Stmt} {h₀ : ExceptHandler} {hds : List ExceptHandler} {l : List Cls_} {pos : Pos} {tb : WX → TS}
    (stk : X.stack = X.env :: X.outer) (frm : X.env.frame = some X.env.locals) (nd : X.N.Nodup)
    (inner : ∀ (W : WX) (pn : List (Addr × Obj)) (xe : Value → Shared → Prop), Takes (X.tr pn xe) W → PassesOwn (model X.prog X.w) X.A X.env xe → PSs (X.tr pn xe) body (tb W))
    (hh : HdsAs X (h₀ :: hds) l) : PS X (.Try body (h₀ :: hds) [] [] pos) (fun D σ H => tb (wSeq X.K D l) D σ H) := by
  refine ⟨fun pins s σ H D I h => ?_⟩
  have okI := I.ok
  have frs_ : X.A.frames = some (X.env :: X.outer) := okI.frames.trans (congrArg some stk)
  refine wpAny_Try_except (wpAny_mono ((inner (wSeq X.K D l) (X.pn ++ pins) (fun e s1 => wpAny (model X.prog X.w) X.A (noteFrame e X.env) (fun _ s2 => wpAny (model X.prog X.w) X.A (setFlight e none) (fun _ s3 =>
    wpAny (model X.prog X.w) X.A (handleBy e X.env (h₀ :: hds)) (SP X pins D) X.xe s3) X.xe s2) X.xe s1) (fun u s2 xx => ?_) PassesOwn.looking).run [] s σ H D (I.toTry _) h) (fun f s1 q => ?_) (fun e s1 z => z))
  · obtain ⟨a, B, s0, pins2, σ2, H2, cls, d, rfl, J0, nb, up, sky, na, os, ag, wish⟩ := xx
    have J : Inv X pins σ2 H2 s0 := J0.ofTry okI
    have sky2 : Sky B (X.env :: X.outer) a (Zc cls d) X.env.locals s2.heap := stk ▸ sky
    show wpAny (model X.prog X.w) X.A (noteFrame (.ref a) X.env) _ _ _
    refine Sky.land Zc.steady frs_ frm sky2 fun g3 fl3 up3 => ?_
    have J3 : Inv X pins σ2 H2 { s2 with heap := g3 } := J.landed nb fl3.1 (up.trans up3) os ag
    obtain ⟨o3, v3, at3, z3, d3⟩ := fl3.there
    have nfr : a ∉ frs (X.env :: X.outer) := fun hm => by
      obtain ⟨_, o, e, nf⟩ := fl3.2.2.1.mem hm
      rw [at3] at e; cases e
      exact nf _ d3
    have nL : a ≠ X.env.locals := fun z => nfr (List.mem_filterMap.mpr ⟨X.env, List.mem_cons_self, by rw [frm, z]⟩)
    have nF : a ∉ X.fs := fun hm => by
      obtain ⟨e, he, q⟩ := List.mem_filterMap.mp hm
      exact nfr (List.mem_filterMap.mpr ⟨e, List.mem_cons_of_mem _ he, q⟩)
    have S3 := J3.suite at3 d3 na nL nF
    have look : PySem.W.Looks (model X.prog X.w) g3 (typeOf (.ref a)) cls := fun A Q E s k q => wpAny_typeOf_ref (k _ _ at3) (by rw [z3.1]; exact q)
    have go : ∀ {hs : List ExceptHandler} {l2 : List Cls_}, HdsAs X hs l2 → wSeq X.K D l2 cls d σ2 H2 → wpAny (model X.prog X.w) X.A (handleBy (.ref a) X.env hs) (SP X pins D) X.xe { s2 with heap := g3 } := by
      intro hs l2 hk
      induction hk with
      | any => intro z; exact False.elim z
      | @cons x n c i ts b₀ suite np pos' hs2 l3 nam at_ lcl caught r ih =>
        intro wish
        refine wpAny_handleBy_cons (codeAny_handlers_test ?_) (fun q => nomatch q)
        have test : ∀ {Q E : Value → Shared → Prop}, Q c { s2 with heap := g3 } → wpAny (model X.prog X.w) (X.A.mark (some (.ref a))) (eval (.Name x np) X.env) Q E { s2 with heap := g3 } := fun {Q E} q => by
          obtain ⟨hg, db, hm | ⟨hm, hv, nn⟩⟩ := nam
          · exact ld_glob (X := X.suite a ((a, o3) :: (X.pn ++ pins))) S3 hg hm q db
          · exact ld_blt (X := X.suite a ((a, o3) :: (X.pn ++ pins))) S3 hg hm hv q nn db
        rcases wish with ⟨hit, go1⟩ | ⟨hit, on⟩
        · refine test ((PySem.W.exm_one (M := model X.prog X.w) J3.kIn look hit).here (codeAny_handlers_suite_as (HandSPX.lands_againZ fl3 fun g4 fl4 up4 => ?_)))
          have J4 : Inv X pins σ2 H2 { s2 with heap := g4 } := J.landed nb fl4.1 ((up.trans up3).trans up4) os ag
          obtain ⟨o4, v4, at4, z4, d4⟩ := fl4.there
          refine store_ok (X := X.suite a ((a, o4) :: (X.pn ++ pins))) (v := .ref a) (J4.suite at4 d4 na nL nF) nd at_ (Or.inl lcl : Loc X.env.scope n) rfl (fun s5 S5 => ?_) (.inr lcl)
          refine wpAny_mono ((caught a o4 cls d (X.pn ++ pins) z4 ⟨_, d4⟩).run [] s5 _ H2 _ S5 (go1 a na)) (fun f s6 q => ?_) (fun _ _ z => z.elim)
          have over : ∀ {σ6 : L2.St} {H6 : Hp} {Q : Shared → Prop}, Inv (X.suite a ((a, o4) :: (X.pn ++ pins))) [] σ6 H6 s6 → (∀ s7, Inv X pins (σ6.set i none) H6 s7 → Q s7) →
              wpAny (model X.prog X.w) X.A (do bindName X.env n .none; unbindBehindTheSuite X.env n pos') (fun _ s7 => Q s7) X.xe s6 := fun {σ6 H6 Q} S6 hq => gone_ok (S6.unsuite okI) nd at_ lcl hq
          cases f with
          | next => obtain ⟨σ6, H6, S6, q6⟩ := q; exact over S6 fun s7 J7 => ⟨_, _, J7, q6⟩
          | brk => obtain ⟨σ6, H6, S6, q6⟩ := q; exact over S6 fun s7 J7 => ⟨_, _, J7, q6⟩
          | cont => obtain ⟨σ6, H6, S6, q6⟩ := q; exact over S6 fun s7 J7 => ⟨_, _, J7, q6⟩
          | ret u => obtain ⟨v6, σ6, H6, S6, r6, q6⟩ := q; exact over S6 fun s7 J7 => ⟨_, _, _, J7, r6, q6⟩
        · refine test ((PySem.W.exm_one (M := model X.prog X.w) J3.kIn look hit).here ?_)
          exact ih on
    exact go hh wish
  · cases f with
    | next => obtain ⟨σ2, H2, J2, r⟩ := q; exact wpAny_execs_nil ⟨σ2, H2, J2.ofTry okI, r⟩
    | brk => obtain ⟨σ2, H2, J2, r⟩ := q; exact ⟨σ2, H2, J2.ofTry okI, r⟩
    | cont => obtain ⟨σ2, H2, J2, r⟩ := q; exact ⟨σ2, H2, J2.ofTry okI, r⟩
    | ret u => obtain ⟨v, σ2, H2, J2, e, r⟩ := q; exact ⟨v, σ2, H2, J2.ofTry okI, e, r⟩
end Td
set_option maxHeartbeats 4000000
namespace Td
open PySem PySem.Spec PyProof.Rows L2
/-! ### isinstance of a caught error that has a dict -/
section
variable {prog : Program} {w : World} {A : Around} {E : Value → Shared → Prop} {s : Shared} {K : PySem.W.Frag} {x D : Addr} {ox : Obj} {od : Option Obj}
theorem find_data {C : Addr} {name : Str} {a g : Value} (hc : (PySem.W.clsIn K C).isSome = true) (ha : PySem.W.findIn K (.ref C) name = some (some a)) (hg : PySem.W.specialIn K a "__get__" = some (some g)) (ht : PySem.W.takesIn K a = some true) :
    PySem.W.findObj K C od name = some (.bind g a) := by
  obtain ⟨cd, e⟩ := Option.isSome_iff_exists.mp hc
  unfold PySem.W.findObj; rw [e, Option.bind_some, ha, Option.bind_some]
  simp [hg, ht]
theorem class_of_exc {Q : Option Value → Shared → Prop} (T : ExcC K D) (kin : K.In s.heap) (I : PySem.W.InstAt s.heap x ox D od) (h : Q (some (.ref D)) { s with toks := s.toks + 1 }) : wpAny (model prog w) A (getAttr? (.ref x) "__class__") Q E s := by
  have fnd : PySem.W.findObj K D od "__class__" = some (.bind (.builtin "getset_descriptor.__get__") (.builtin "object.__class__")) := find_data (by obtain ⟨cd, e, _⟩ := PySem.W.any_some T.hd; rw [e]; rfl) T.ha T.hn T.ht
  obtain ⟨hp, g, d, t, os⟩ := s
  have w0 := I.type (M := model prog w); have w1 := PySem.W.looks_findIn (M := model prog w) kin T.hg
  have w2 := PySem.W.looks_findIn (M := model prog w) kin T.hk; have w3 := PySem.W.looks_find (M := model prog w) kin I fnd
  have isE : PySem.W.Looks (model prog w) hp (isInstance (.ref x) (.type "BaseException")) true := w0.andThen (PySem.W.looks_subIn kin T.hs)
  have e0 : (Value.builtin "BaseException.__getattribute__" == Value.builtin "object.__getattribute__") = false := by decide +kernel
  have e1 : (onTheHeap (Value.ref D) && Value.builtin "BaseException.__getattribute__" == Value.builtin "object.__getattribute__") = false := by rw [e0]; rfl
  have e2 : (false && onTheHeap (Value.builtin "BaseException.__getattribute__")) = false := rfl
  unfold getAttr? getAttrBy? getAttrBy
  refine wpAny_bind (wpAny_mkText (wpAny_bind (wpAny_attempt (wpAny_holding (wpAny_bind (w0.at (wpAny_bind (w1.at ?_))))))))
  show wpAny _ _ (if (onTheHeap (Value.ref D) && Value.builtin "BaseException.__getattribute__" == Value.builtin "object.__getattribute__") = true then _ else _) _ _ _; rw [e1, if_neg Bool.false_ne_true]
  unfold getAttrByItsOwn hookBefore
  refine wpAny_bind ?_; rw [if_pos (show onTheHeap (Value.ref D) = true from rfl)]
  refine w2.at (wpAny_bind (wpAny_attempt (wpAny_holding ?_))); unfold callGetattribute; rw [e2, if_neg Bool.false_ne_true]
  unfold boundAndCalled; rw [PySem.F.excAttr_ValueError.ga.bind (.ref x)]
  refine wpAny_bind (wpAny_pure ?_); show wpAny _ _ (call (.builtin "BaseException.__getattribute__") [.ref x, .str "__class__" t]) _ _ _
  refine wpAny_call (codeAny_call_builtin PySem.F.excAttr_ValueError.ga.plain PySem.F.entry_bexc_ga (@PySem.W.check_slot (model prog w) _ _ ⟨hp, g, d, t + 1, os⟩ "BaseException.__getattribute__" "BaseException" "__getattribute__" (.ref x) [.str "__class__" t] [] _ (by decide +kernel) (by decide +kernel) isE (PySem.F.args_bexc_ga (.ref x) (.str "__class__" t)) ?_))
  unfold Builtin.«object.__getattribute__»
  refine wpAny_bind (wpAny_of_eq (a := ((Value.ref x : Value), [Value.str "__class__" t])) (by first | rfl | (simp only [slotArgs]; rfl)) (wpAny_bind (wpAny_pure (wpAny_bind (w0.at (wpAny_bind (w3.at ?_)))))))
  show wpAny _ _ (holding [Value.builtin "object.__class__"] (call (.builtin "getset_descriptor.__get__") [.builtin "object.__class__", .ref x, .ref D]) >>= ret) _ _ _
  refine wpAny_bind (wpAny_holding (wpAny_call (PySem.W.class_get (s := ⟨hp, g, d, t + 1, os⟩) (ox := ox) (od := od) kin I T.hm ?_)))
  refine wpAny_pure ?_; show wpAny _ _ (handedOut (.ref D)) _ _ _; rw [PySem.W.handedOut_of (v := .ref D) rfl]
  first | exact wpAny_pure (wpAny_pure h) | exact wpAny_pure h | exact wpAny_pure (wpAny_bind (wpAny_pure (wpAny_pure h)))
theorem kitx_excD (T : ExcC K D) : PySem.W.KitX K (.ref x) (.ref D) (fun h => PySem.W.InstAt h x ox D od) := by
  have Z := PySem.W.handS_kitx_exc (x := x) (ox := ox) T.hg T.hk T.hs T.hd T.ha T.hn T.ht T.hm
  obtain ⟨cdD, hcD, _⟩ := PySem.W.any_some T.hd
  have there : ∃ o, K.lookup D = some o ∧ ∃ z, o.data = .cls z := by
    unfold PySem.W.clsIn at hcD
    split at hcD
    · rename_i c' d' cd' sl' ho
      exact ⟨_, ho, cd', rfl⟩
    · cases hcD
  refine { ty := fun _ _ _ I => I.type, it := fun _ _ kin _ => ?_, ne := fun h tp dd its n sl kin at_ => ?_, ca := fun kin I k => class_of_exc T kin I k }
  · obtain ⟨o, ho, z, e⟩ := there
    intro A' Q' E' s' k q
    unfold isType loadHead
    refine wpAny_bind (wpAny_loadPart (k _ _ (kin _ _ ho)) (wpAny_pure ?_))
    rw [e]
    exact q
  · obtain ⟨o, ho, z, e⟩ := there
    refine Bool.eq_false_iff.mpr fun q => ?_
    have e2 : D = tp := Value.ref.inj (beq_iff_eq.mp q)
    subst e2
    have e3 := (kin _ _ ho).symm.trans at_
    cases e3
    cases e
end
/-- isinstance(e, c): c a class; isinstance(e, (c, ..)) -/
def rIsX (K : PySem.W.Frag) (a : Addr) (cls : Value) (d : Option Addr) : List V → Hp → VK → Prop := fun xs H Q => ∃ (D dd : Addr) (fs : List (Str × V)) (c u : _) (b : Bool), cls = .ref D ∧ ExcC K D ∧ d = some dd ∧ H dd = some (.xd fs) ∧ xs = [.ref a, c] ∧ ClsV c u ∧ PySem.W.kitOne K (.ref D) u = some b ∧ Q (.bl b) H
def rIsXT (K : PySem.W.Frag) (a : Addr) (cls : Value) (d : Option Addr) : List V → Hp → VK → Prop := fun xs H Q => ∃ (D dd tp : Addr) (fs : List (Str × V)) (cs : List V) (us : List Value) (b : Bool), cls = .ref D ∧ ExcC K D ∧ d = some dd ∧ H dd = some (.xd fs) ∧ xs = [.ref a, .ref tp] ∧
  H tp = some (.tup cs) ∧ Paired ClsV cs us ∧ PySem.W.kitAny K (.ref D) us = some b ∧ Q (.bl b) H
section
variable {X : Cx} {a : Addr} {oe : Obj} {cls : Value} {d : Option Addr} {pn : List (Addr × Obj)}
theorem inst_of {pins : List (Addr × Obj)} {σ : L2.St} {H : Hp} {s : Shared} {D dd : Addr} {fs : List (Str × V)} (I : Inv (X.suite a ((a, oe) :: pn)) pins σ H s) (hz : Zc (.ref D) (some dd) oe) (hf : ∃ vs, oe.data = .fields vs) (hd : H dd = some (.xd fs)) :
    ∃ od, PySem.W.InstAt s.heap a oe D (some od) := by
  obtain ⟨hget, _⟩ := I.pin (a, oe) (List.mem_append.mpr (.inl List.mem_cons_self))
  obtain ⟨vs, hv⟩ := hf
  obtain ⟨mA, hns, _⟩ := (show ObjOk X.prog X.w H s.heap dd (.xd fs) from I.hok dd _ hd)
  obtain ⟨od, ho, _⟩ := lookIn_ns hns
  exact ⟨od, hget, hz.1, by unfold PySem.W.notCls; rw [hv] <;> rfl, by rw [hz.2]; exact ho⟩
theorem call_isX (hz : Zc cls d oe) (hf : ∃ vs, oe.data = .fields vs) : CallR (X.suite a ((a, oe) :: pn)) (.builtin "isinstance") (rIsX X.K a cls d) := by
  intro pins s σ H xs us Q I r h
  obtain ⟨D, dd, fs, c, u, b, rfl, T, rfl, hd, rfl, kc, e, q⟩ := h
  obtain ⟨u1, u2, rfl, r1, r2⟩ := vals2 r
  cases r1
  have e2 := kc.eq r2
  subst e2
  obtain ⟨od, J⟩ := inst_of I hz hf hd
  exact PySem.W.kia_one (kitx_excD T) I.kIn J e (fun z => nomatch z) fun tk => ⟨.bl b, H, I.tok tk, rfl, q⟩
theorem call_isXT (hz : Zc cls d oe) (hf : ∃ vs, oe.data = .fields vs) : CallR (X.suite a ((a, oe) :: pn)) (.builtin "isinstance") (rIsXT X.K a cls d) := by
  intro pins s σ H xs us Q I r h
  obtain ⟨D, dd, tp, fs, cs, ws, b, rfl, T, rfl, hd, rfl, ht, pc, e, q⟩ := h
  obtain ⟨u1, u2, rfl, r1, r2⟩ := vals2 r
  cases r1
  cases r2
  obtain ⟨its, rv, hp, hl⟩ := I.tuple (SqT.of ht)
  have e2 := ClsV.all pc rv
  subst e2
  obtain ⟨od, J⟩ := inst_of I hz hf hd
  obtain ⟨⟨oc, odd, oda, osl⟩, h1, h2, n, h3⟩ := hp
  dsimp only at h2 h3
  subst h2; subst h3
  exact PySem.W.kia_tup (kitx_excD T) I.kIn J h1 e (fun z => nomatch z) fun tk => ⟨.bl b, H, I.tok tk, rfl, q⟩
end
end Td
set_option maxHeartbeats 4000000
namespace Td
open PySem PySem.Spec PyProof.Rows L2
/-! ### what the written part says of such a class, as a Bool -/
def keB (K : PySem.W.Frag) (C : Addr) : Bool := match K.lookup C with
  | some ⟨.type ty, _, .cls cd, sl⟩ => decide (ty = "type") && (decide (cd.mro = .ref C :: keTail) && (cd.hasDict && (!cd.hasDel && (match sl.toList with
    | [_, _, _, _, some (.builtin n), _] => decide (n = "LookupError.__new__")
    | _ => false))))
  | _ => false
theorem keB_ok {K : PySem.W.Frag} {C : Addr} (h : keB K C = true) : ∃ nm q N bs sn sub ab col dd k0 k1 k2 k3 k5, K.lookup C = some (keObj nm q C N bs sn sub ab col dd k0 k1 k2 k3 k5) := by
  unfold keB at h
  split at h
  · rename_i ty dd cd sl ho
    simp only [Bool.and_eq_true, decide_eq_true_eq, Bool.not_eq_true'] at h
    obtain ⟨rfl, hm, hd, hx, hs⟩ := h
    split at hs
    · rename_i k0 k1 k2 k3 n k5 hl
      obtain rfl : n = "LookupError.__new__" := of_decide_eq_true hs
      obtain ⟨nm, bs, mro, ns, qn, hdc, sn, sub, ab, col, del⟩ := cd
      dsimp only at hm hd hx
      subst hm hd hx
      obtain ⟨l⟩ := sl
      simp only at hl
      subst hl
      exact ⟨nm, qn, ns, bs, sn, sub, ab, col, dd, k0, k1, k2, k3, k5, ho⟩
    · cases hs
  · cases h
structure ErrT (K : PySem.W.Frag) (x : Str) : Prop where
  kx : KexC K (He.ga K x)
  xf : XfC K (He.ga K x)
  ec : ExcC K (He.ga K x)
  no : PySem.W.findIn K (.ref (He.ga K x)) "name" = some none
  iC : PySem.W.findIn K (.ref (He.ga K x)) "__init__" = some (some (.ref (He.ma K (He.ga K x) "__init__")))
  tI : PySem.W.typeIn K (.ref (He.ma K (He.ga K x) "__init__")) = some (.type "function")
  me : PySem.W.exmOne K (.ref (He.ga K x)) (.ref (He.ga K x)) = some true
def errB (K : PySem.W.Frag) (x : Str) : Bool := keB K (He.ga K x) && (decide (PySem.W.findIn K (.ref (He.ga K x)) "__setattr__" = some (some (.builtin "object.__setattr__"))) && (decide (PySem.W.subIn K (.ref (He.ga K x)) (.type "BaseException") = some true) &&
  (decide (PySem.W.typeIn K (.ref (He.ga K x)) = some (.type "type")) && (PySem.W.keepIn K (.ref (He.ga K x)) && (xfB K (He.ga K x) && (decide (PySem.W.findIn K (.ref (He.ga K x)) "__class__" = some (some (.builtin "object.__class__"))) &&
  (decide (PySem.W.specialIn K (.builtin "object.__class__") "__get__" = some (some (.builtin "getset_descriptor.__get__"))) && (decide (PySem.W.takesIn K (.builtin "object.__class__") = some true) && (decide (PySem.W.mroIn K (He.ga K x) (.type "object") = some true) &&
  (decide (PySem.W.findIn K (.ref (He.ga K x)) "name" = some none) && (decide (PySem.W.findIn K (.ref (He.ga K x)) "__init__" = some (some (.ref (He.ma K (He.ga K x) "__init__")))) && (decide (PySem.W.typeIn K (.ref (He.ma K (He.ga K x) "__init__")) = some (.type "function")) &&
  decide (PySem.W.exmOne K (.ref (He.ga K x)) (.ref (He.ga K x)) = some true)))))))))))))
theorem errB_ok {K : PySem.W.Frag} {x : Str} (h : errB K x = true) : ErrT K x := by
  unfold errB at h
  simp only [Bool.and_eq_true, decide_eq_true_eq] at h
  obtain ⟨h1, h2, h3, h4, h5, h6, h7, h8, h9, h10, h11, h12, h13, h14⟩ := h
  have X := xfB_ok h6
  exact ⟨⟨keB_ok h1, h2, h3, h4, h5⟩, X, ⟨X.ga, X.gg, X.exC, X.hdC, h7, h8, h9, h10⟩, h11, h12, h13, h14⟩
/-! ### its __init__ -/
def spErrI (C : Addr) : Sp := fun vs H Q _ => ∃ (a : Addr) (v : V), vs = [.ref a, v] ∧ H a = some (exo a C none) ∧ ∀ dx, H dx = none → dx ≠ a → Q .non (upd (upd H dx (exd dx [("name", v)])) a (exo a C (some dx)))
/-- raise C(v) ends so -/
theorem mk_end_k {C : Addr} {H : Hp} {Q : XK} {v : V} (h : ∀ d, H d = none → Q (.ref C) (some d) (upd H d (.xd [("name", v)]))) :
    ([v] : List V).length ≤ 1000 ∧ ∀ a, H a = none → spErrI C (.ref a :: ([v] ++ [])) (upd H a (exo a C none)) (fun u H2 => u = .non ∧ ∃ (d : Addr) (fs : List (Str × V)), H2 a = some (exo a C (some d)) ∧ H2 d = some (exd d fs) ∧ H d = none ∧ Q (.ref C) (some d) (upd (del H2 a) d (.xd fs))) (fun _ _ _ => False) := by
  refine ⟨by show 1 ≤ 1000; decide, fun a ha => ⟨a, v, rfl, upd_same, fun dx hd ne => ⟨rfl, dx, [("name", v)], upd_same, by rw [upd_ne ne]; exact upd_same, by rw [upd_ne ne] at hd; exact hd, ?_⟩⟩⟩
  rw [upd_ne ne] at hd
  have e : upd (del (upd (upd (upd H a (exo a C none)) dx (exd dx [("name", v)])) a (exo a C (some dx))) a) dx (.xd [("name", v)]) = upd H dx (.xd [("name", v)]) := by
    funext b
    by_cases hb : b = dx
    · rw [hb, upd_same, upd_same]
    · rw [upd_ne hb, upd_ne hb]
      by_cases hb2 : b = a
      · rw [hb2, del_same, ha]
      · rw [del_ne hb2, upd_ne hb2, upd_ne hb, upd_ne hb2]
  rw [e]
  exact h dx hd
end Td
set_option maxHeartbeats 4000000
namespace Td
open PySem PySem.Spec PyProof.Rows L2
/-! ### xs.count(x): texts, in a list, in a tuple -/
def eqT (x : Str) : Value → Bool
  | .str y _ => y == x
  | _ => false
theorem eqT_gives {x : Str} {t : Tok} : ∀ {us : List Value} {ss : List Str}, Vals (ss.map V.str) us → ∀ y ∈ us, MeetsSeq.EqGives y (.str x t) (eqT x y)
  | _, [], .nil => fun y hy => by cases hy
  | _, s :: ss, .cons r rr => fun y hy => by
    obtain ⟨tk, rfl⟩ := r
    rcases List.mem_cons.mp hy with e | e
    · rw [e]
      exact fun _ _ _ _ _ _ h => wpAny_eqBool_str h
    · exact eqT_gives rr y e
theorem eqT_count {x : Str} : ∀ {us : List Value} {ss : List Str}, Vals (ss.map V.str) us → us.countP (eqT x) = ss.count x
  | _, [], .nil => rfl
  | _, s :: ss, .cons r rr => by
    obtain ⟨tk, rfl⟩ := r
    have ih := eqT_count (x := x) rr
    rw [List.countP_cons, List.count_cons, ih] <;> rfl
section
variable {X : Cx}
def rCntS (K : PySem.W.Frag) : V → List V → Hp → VK → Prop := fun x xs H Q => ∃ (p : Addr) (ss : List Str) (k : Str), x = .ref p ∧ xs = [.str k] ∧ SqL K H p (ss.map V.str) ∧ Q (.int (ss.count k : Nat)) H
def rCntST (K : PySem.W.Frag) : V → List V → Hp → VK → Prop := fun x xs H Q => ∃ (p : Addr) (ss : List Str) (k : Str), x = .ref p ∧ xs = [.str k] ∧ SqT K H p (ss.map V.str) ∧ Q (.int (ss.count k : Nat)) H
theorem mt_countS : MtR X "list.count" (rCntS X.K) := by
  intro pins s σ H x xs v us Q I rx rxs h
  obtain ⟨p, ss, k, rfl, rfl, hs, q⟩ := h
  cases rx
  obtain ⟨u, rfl, t, rfl⟩ := rxs.one
  obtain ⟨its, rv, ⟨⟨c, dd, dt, sl⟩, n, ho, hc, _, hd⟩, _⟩ := I.list hs
  simp only at hc hd
  subst hc hd
  refine call_meets PySem.F.slot_list_count ⟨_, ho, rfl⟩ PySem.F.entry_list_count (PySem.F.args_list_count_2 _ _) (SeqAt.list_countAt p its.toArray n dd sl (.str k t) (eqT k)) ⟨ho, fun y hy => (eqT_gives rv y (by simpa using hy)).at _ _, ?_⟩
  refine ⟨.int (ss.count k : Nat), H, I.tok _, ⟨s.toks, ?_⟩, q⟩
  rw [← eqT_count (x := k) rv]
theorem mt_countST : MtR X "tuple.count" (rCntST X.K) := by
  intro pins s σ H x xs v us Q I rx rxs h
  obtain ⟨p, ss, k, rfl, rfl, hs, q⟩ := h
  cases rx
  obtain ⟨u, rfl, t, rfl⟩ := rxs.one
  obtain ⟨its, rv, ⟨⟨c, dd, dt, sl⟩, ho, hc, n, hd⟩, _⟩ := I.tuple hs
  simp only at hc hd
  subst hc hd
  refine call_meets PySem.F.slot_tuple_count ⟨_, ho, rfl⟩ PySem.F.entry_tuple_count (PySem.F.args_tuple_count_2 _ _) (SeqAt.tuple_countAt p its.toArray n dd sl (.str k t) (eqT k)) ⟨ho, fun y hy => (eqT_gives rv y (by simpa using hy)).at _ _, ?_⟩
  refine ⟨.int (ss.count k : Nat), H, I.tok _, ⟨s.toks, ?_⟩, q⟩
  rw [← eqT_count (x := k) rv]
end
end Td
set_option maxHeartbeats 4000000
namespace Td
open PySem PySem.Spec PyProof.Rows L2
/-! ### counts and crowds: the promises -/
def rm (p : List Str) : Str := p.getD 1 ""
def crN (rooms : List Str) (places : List (List Str)) : List Int := rooms.map fun r => (((places.map rm).count r : Nat) : Int)
def coN (rooms faces : List Str) (places : List (List Str)) : List Int := rooms.map fun r => ((faces.count r : Nat) : Int) - (((places.map rm).count r : Nat) : Int)
def spCrowd (f : List Str → List (List Str) → List Int) : Sp := fun vs H Q _ => ∃ (h st : Addr) (rooms : List Str) (rows : List (List Str)) (faces : List Str) (places : List (List Str)), vs = [.ref h, .ref st] ∧ HS H h rooms rows ∧ HallV rooms rows ∧ HS H st faces places ∧ StV rooms rows faces places ∧
  ∀ p H', Same H H' → H' p = some (.tup ((f rooms places).map V.int)) → Q (.ref p) H'
def spCounts : Sp := fun vs H Q _ => ∃ (h st : Addr) (rooms : List Str) (rows : List (List Str)) (faces : List Str) (places : List (List Str)), vs = [.ref h, .ref st] ∧ HS H h rooms rows ∧ HallV rooms rows ∧ HS H st faces places ∧ StV rooms rows faces places ∧
  ∀ p H', Same H H' → H' p = some (.tup ((coN rooms faces places).map V.int)) → Q (.ref p) H'
/-- the walker's room -/
def rmOf (places : List (List Str)) (x : Str) : Option Str := (places.find? fun p => p.headD "" == x).map rm
def spRoomOf (C : Addr) : Sp := fun vs H Q E => ∃ (st : Addr) (x : Str) (faces : List Str) (places : List (List Str)), vs = [.ref st, .str x] ∧ HS H st faces places ∧ (∀ p ∈ places, ∃ w r : Str, p = [w, r]) ∧
  (∀ r, rmOf places x = some r → ∀ H', Same H H' → Q (.str r) H') ∧ (rmOf places x = none → ∀ H', Same H H' → ∀ d, H' d = none → E (.ref C) (some d) (upd H' d (.xd [("name", .str x)])))
/-- the walker can pass the door -/
def WayOk (rows : List (List Str)) (faces : List Str) (places : List (List Str)) (w n : Str) : Prop := ∃ (i : Nat) (r a b : Str), rows[i]? = some [n, a, b] ∧ faces[i]? = some r ∧ [w, r] ∈ places
def spPassed : Sp := fun vs H Q _ => ∃ (h st : Addr) (w n : Str) (rooms : List Str) (rows : List (List Str)) (faces : List Str) (places : List (List Str)), vs = [.ref h, .ref st, .str w, .str n] ∧ HS H h rooms rows ∧ HallV rooms rows ∧ HS H st faces places ∧ StV rooms rows faces places ∧
  WayOk rows faces places w n ∧ ∀ p faces' places' H', Same H H' → HS H' p faces' places' → StV rooms rows faces' places' → Q (.ref p) H'
def spDeeds : Sp := fun vs H Q _ => ∃ (h st : Addr) (rooms : List Str) (rows : List (List Str)) (faces : List Str) (places : List (List Str)), vs = [.ref h, .ref st] ∧ HS H h rooms rows ∧ HallV rooms rows ∧ HS H st faces places ∧ StV rooms rows faces places ∧
  ∀ p (as : List Addr) (ws : List (List Str)) H', Same H H' → H' p = some (.lst (as.map V.ref)) → RowsAt H' as ws → ws.length ≤ 60 → (∀ x ∈ ws, ∃ w n : Str, x = [w, n] ∧ WayOk rows faces places w n) → Q (.ref p) H'
def spWalk : Sp := fun vs H Q _ => ∃ (b h st : Addr) (m : Int) (rooms : List Str) (rows : List (List Str)) (faces : List Str) (places : List (List Str)), vs = [.ref b, .ref h, .ref st, .int m] ∧ Box H b ∧ HS H h rooms rows ∧ HallV rooms rows ∧ HS H st faces places ∧ StV rooms rows faces places ∧ 0 ≤ m ∧ m ≤ 40 ∧
  ∀ p row s2 faces' places' H', H' p = some (.tup [.ref row, .ref s2]) → HS H' s2 faces' places' → StV rooms rows faces' places' → Box H' b → Ch b H H' → Q (.ref p) H'
def spRight7 : Sp := fun vs H Q _ => ∃ (h st : Addr) (rooms : List Str) (rows : List (List Str)) (faces : List Str) (places : List (List Str)), vs = [.ref h, .ref st] ∧ HS H h rooms rows ∧ HallV rooms rows ∧ HS H st faces places ∧ StV rooms rows faces places ∧
  ∀ H', Same H H' → Q (.bl true) H'
def spUnknown : Sp := fun vs H Q _ => ∃ (st : Addr) (x : Str) (faces : List Str) (places : List (List Str)), vs = [.ref st, .str x] ∧ HS H st faces places ∧ (∀ p ∈ places, ∃ w r : Str, p = [w, r]) ∧ rmOf places x = none ∧ ∀ H', Same H H' → Q (.str x) H'
def spFree : Sp := fun vs H Q _ => ∃ (l : Addr) (ts : List Str), vs = [.ref l] ∧ H l = some (.lst (ts.map V.str)) ∧ ∀ p (ss : List Str) H', Same H H' → H' p = some (.lst (ss.map V.str)) → ss.length ≤ 15 → (∀ x ∈ ss, x ∉ ts) → Q (.ref p) H'
def spStrange : Sp := fun vs H Q _ => ∃ (b h st l : Addr) (rooms : List Str) (rows : List (List Str)) (faces : List Str) (places : List (List Str)) (ts : List Str), vs = [.ref b, .ref h, .ref st, .ref l] ∧ Box H b ∧ HS H h rooms rows ∧ HallV rooms rows ∧ HS H st faces places ∧ StV rooms rows faces places ∧
  H l = some (.lst (ts.map V.str)) ∧ b ≠ l ∧ ∀ p (ss : List Str) H', H' p = some (.lst (ss.map V.str)) → ss.length ≤ 60 → (∀ x ∈ ss, x ∉ ts) → Box H' b → Ch b H H' → Q (.ref p) H'
/-! ### a def that may raise, and its calls -/
def CalX (P : Program) (w : World) (K : PySem.W.Frag) (mg : Str → Option Value) (base : Heap) (k : Nat) (x : Str) (sp : Sp) : Prop := ∃ (f : Addr) (fd : FuncData) (ps : List Str), FnOk P w K mg base (L2.CX P w) k f fd ps sp ∧ mg x = some (.ref f) ∧ PySem.W.keepIn K (.ref f) = true ∧ Binds K fd ps []
/-- an error class: what is said of it, its global, its __init__ -/
structure ErrM (P : Program) (w : World) (K : PySem.W.Frag) (mg : Str → Option Value) (base : Heap) (x : Str) : Prop where
  t : ErrT K x
  g : mg x = some (.ref (He.ga K x))
  i : ∃ (fd : FuncData) (ps : List Str), FnOk P w K mg base C8.CX0 1 (He.ma K (He.ga K x) "__init__") fd ps (spErrI (He.ga K x)) ∧ Binds K fd ps []
section
variable {X : Cx} {x : Str} {p pos : Pos} {e : Expr} {es : List Expr} {t : TA} {sp : Sp} {E : L2.St → XK}
theorem pe_cX {j k : Nat} (c : CalX X.prog X.w X.K X.mg X.base j x sp) (hr : Room k X.A) (hj : j ≤ k) (hx : ∀ σ, PassesAt (L2.CX X.prog X.w) X σ (E σ)) (hg : Gl X x) (ha : PA X (e :: es) t) (hdb : (x == ("__debug__" : Str)) = false := by decide)
    (he : starEach (e :: es) X.env = (false, eval e X.env) :: starEach es X.env := by rfl) (hpl : (backTo pos (starEach es X.env)).any (·.1) = false := by rfl) : PE X (.Call (.Name x p) (e :: es) [] pos) (tCallS sp E t) := by
  refine ⟨fun pins s σ H Q I h => ?_⟩
  obtain ⟨f, fd, ps, F, hm, hk, hb⟩ := c
  exact (pe_callS F (hr.mono hj) hg hm hk hb hx ha hdb he hpl).run pins s σ H Q I h
/-- where it does not raise -/
theorem passF {σ : L2.St} : PassesAt (L2.CX X.prog X.w) X σ (fun _ _ _ => False) := fun _ _ _ _ _ _ ⟨_, _, _, _, _, _, _, _, _, _, _, _, z⟩ => z.elim
theorem pmk_err {k : Nat} (M : ErrM X.prog X.w X.K X.mg X.base x) (hr : Room k X.A) (hk : 2 ≤ k) (hg : Gl X x) (ha : PA X (e :: es) t) (hdb : (x == ("__debug__" : Str)) = false := by decide)
    (he : starEach (e :: es) X.env = (false, eval e X.env) :: starEach es X.env := by rfl) (hpl : (backTo pos (starEach es X.env)).any (·.1) = false := by rfl) :
    PMk X (.Call (.Name x p) (e :: es) [] pos) (tMkO (He.ga X.K x) (spErrI (He.ga X.K x)) [] t) := by
  obtain ⟨fd, ps, F, hb⟩ := M.i
  exact pmk_kex (CX := C8.CX0) M.t.kx M.t.iC M.t.tI F (hr.mono hk) hb C8.pass0 hg M.g ha hdb he hpl
end
end Td
set_option maxHeartbeats 4000000
namespace Td
open PySem PySem.Spec PyProof.Rows L2
/-! ### a def that is called where no repr is under way -/
structure FnG (P : Program) (w : World) (K : PySem.W.Frag) (mg : Str → Option Value) (base : Heap) (CX : CXT) (k : Nat) (f : Addr) (fd : FuncData) (ps : List Str) (sp : Sp) : Prop where
  len : ∀ vs H Q E, sp vs H Q E → vs.length = ps.length
  run : ∀ (A : Around) (outer : List Env) (s : Shared) (H : Hp) (args : Args) (us : List Value) (vs : List V) (Q : VK) (E : XK), A.guards = some [] → Room k A → Env0 P w K mg base A outer s H → BindsTo s fd args (ps.zip us) → Vals vs us → sp vs H Q E →
    codeAny (model P w) A (.call (.ref f) args) (CR CX outer P w H s Q E) s
theorem okG {P : Program} {w : World} {K : PySem.W.Frag} {mg : Str → Option Value} {base : Heap} {CX : CXT} {N ps : List Str} {k : Nat} {sp : Sp} {x qual : Str} {params : Arguments} {body : List Stmt} {scope : Scope} {dvs : List V} {kws : List (Str × V)} {f : Addr} {fd : FuncData}
    (F : FunD K x qual params body scope dvs kws f fd) (S : FnScope N ps scope) (len : ∀ vs H Q E, sp vs H Q E → vs.length = ps.length)
    (walk : ∀ (cdv : Value) (A : Around) (outer : List Env) (s : Shared) (H : Hp) (vs : List V) (Q : VK) (E : XK), A.guards = some [] → Room k (A.deeper (envOfC qual scope s.heap.objs.size f cdv)) → sp vs H Q E →
      ∃ t, PSs (cxOf CX P w K mg base N qual scope f cdv A outer s H E) body t ∧ t { nx := fun _ H' => Q .non H', rt := Q } (start N vs) H) : FnG P w K mg base CX (k + 1) f fd ps sp := by
  obtain ⟨oc, od, dV, kV, doc, pm, an, cdv, ct, osl, rfl, lk, hcd, _, _⟩ := F.ex
  refine ⟨len, fun A outer s H args us vs Q E gd hr e0 hb r hsp => ?_⟩
  have ln := len _ _ _ _ hsp
  have kin : K.In s.heap := e0.mod.kin.keeps fun b o e => (e0.bs b o e).1
  have lim : s.heap.NoLimit := e0.mod.nolimit.keeps fun b o e => (e0.bs b o e).1
  have kinds : ∀ y ∈ ps.zip us, scope.names.lookup y.1 = some .local ∨ (scope.names.lookup y.1 = some .cell ∧ ((cellsFrom (s.heap.objs.size + 1) scope.names []).lookup y.1).isSome = true) := fun ⟨n, v⟩ hy =>
    (S.par n (List.of_mem_zip hy).1).elim .inl fun q => .inr ⟨q, PySem.W.cellsFrom_some _ _ _ (.inl q)⟩
  refine codeAny_call_function hr.depth (kin _ _ lk) rfl S.co S.gen rfl (PySem.W.codeRec_of kin hcd) (hb _ _ _ _ (wpAny_newFunctionEnv_cells S.kind kinds fun env he s1 xx => ?_))
  subst he
  refine ⟨lim.keeps xx.toInCall.keep, codeAny_func ?_⟩
  obtain ⟨t, ht, hq⟩ := walk cdv A outer s H vs Q E gd (hr.deeper _) hsp
  have I : Inv (cxOf CX P w K mg base N qual scope f cdv A outer s H E) [] (start N vs) H s1 := inv_start S hr.hd e0 ln r xx
  refine wpAny_mono (ht.run [] s1 (start N vs) H _ I hq) (fun fl s2 z => ?_) fun e s2 z => z
  cases fl with
  | ret u => obtain ⟨v, σ2, H2, J, rv, q⟩ := z; exact ⟨v, H2, J.os, J.bare, J.base, J.hok, rv, q⟩
  | next => obtain ⟨σ2, H2, J, q⟩ := z; exact ⟨.non, H2, J.os, J.bare, J.base, J.hok, rfl, q⟩
  | brk => obtain ⟨_, _, _, q⟩ := z; exact q.elim
  | cont => obtain ⟨_, _, _, q⟩ := z; exact q.elim
/-! ### the law's own call -/
theorem law_callG {P : Program} {w : World} {K : PySem.W.Frag} {mg mb : Str → Option Value} {CX : CXT} {k : Nat} {fa a : Addr} {fd : FuncData} {x : Str} {sp : Sp} {s1 : Shared} {vs : List Value} {ns : List Int}
    (kx : K.In s1.heap) (hns : s1.heap.Ns mainGlobals mg) (hb : s1.heap.Ns builtinsNs mb) (hbb : ∀ x : Str, x ≠ "__name__" → mb x = bootBuiltins x) (lim : s1.heap.NoLimit) (hg : s1.gens = #[])
    (ha : s1.heap.get? a = some { cls := .type "list", data := .seq vs.toArray }) (hi : IntsAre vs ns) (hl : ns.length ≤ sizeLine) (hr : Room k callerA)
    (F : ∀ base : Heap, K.In base → base.Ns mainGlobals mg → FnG P w K mg base CX k fa fd [x] sp) (bind : ∀ (s : Shared) (u : Value), BindsTo s fd ⟨[u], []⟩ [(x, u)])
    (hsp : ∀ H : Hp, Only H → SqL K H a (ns.map V.int) → sp [.ref a] H (fun v _ => v = .bl true) fun _ _ _ => False) (hCX : ∀ H e s', CX [] H s1 (fun _ _ _ => False) e s' → False) :
    codeAny (model P w) callerA (.call (.ref fa) ⟨[.ref a], []⟩) (fun r s' => r = .ok (.ret (.bool true)) ∧ OldK s1.heap s'.heap ∧ s'.os = s1.os ∧ AllBare s'.gens) s1 := by
  have rv := vals_ints hi
  have core : ∀ H : Hp, Only H → SqL K H a (ns.map V.int) → HOk P w H s1.heap → (∀ b, H b ≠ none → b = a) → (H a ≠ none → K.lookup a = none) →
      codeAny (model P w) callerA (.call (.ref fa) ⟨[.ref a], []⟩) (fun r s' => r = .ok (.ret (.bool true)) ∧ OldK s1.heap s'.heap ∧ s'.os = s1.os ∧ AllBare s'.gens) s1 := by
    intro H only hS hok alone hK
    have up : ∀ {b : Addr} {o : Obj}, s1.heap.get? b = some o → H b = none → (hidT s1.heap H).get? b = some o := fun e n => hidT_get e n
    have noD : ∀ {b : Addr} {o : Obj} {es : Array DictEntry} {ep : Nat}, s1.heap.get? b = some o → o.data = .dict es ep → H b = none := fun {b o es ep} e d => by
      refine Classical.byContradiction fun z => ?_
      obtain rfl := alone b z
      rw [ha] at e; cases e <;> cases d
    have ns' : ∀ {b : Addr} {m : Str → Option Value}, s1.heap.Ns b m → (hidT s1.heap H).Ns b m := fun {b m} ⟨o, es, ep, e, d, r⟩ => ⟨o, es, ep, up e (noD e d), d, r⟩
    have kb : K.In (hidT s1.heap H) := fun b o e => up (kx b o e) (Classical.byContradiction fun z => by
      obtain rfl := alone b z
      rw [hK z] at e; cases e)
    have hM : Mod K mg (hidT s1.heap H) := ⟨kb, ns' hns, ⟨mb, ns' hb, hbb⟩, lim.elim fun mc h => ⟨mc, ns' h.1, h.2⟩⟩
    have e0 : Env0 P w K mg (hidT s1.heap H) callerA [] s1 H := ⟨rfl, hM, fun b o e => of_hidT e, Nat.le_of_eq (hidT_size _ _), trivial, fun b hb => absurd hb List.not_mem_nil, hok, .of_eq hg⟩
    refine codeAny_mono ((F _ kb (ns' hns)).run callerA [] s1 H ⟨[.ref a], []⟩ [.ref a] [.ref a] _ _ rfl hr e0 (bind s1 (.ref a)) (.cons rfl .nil) (hsp H only hS)) fun r s' h => ?_
    cases r with
    | error e => exact (hCX H e s' h).elim
    | ok fl =>
      cases fl with
      | next => exact h.elim
      | brk => exact h.elim
      | cont => exact h.elim
      | ret u =>
        obtain ⟨v, H2, os, bare, un, hok2, r2, q⟩ := h
        obtain rfl : v = .bl true := q
        obtain rfl : u = Value.bool true := r2
        refine ⟨rfl, OldK.of_keep fun b o e => ?_, os, bare⟩
        cases q : H b with
        | none => exact un.keep b o e q List.not_mem_nil List.not_mem_nil
        | some u =>
          rcases only b with z | ⟨ob, xs, z⟩
          · rw [q] at z; cases z
          · obtain ⟨e1, _⟩ := hok b _ z
            obtain ⟨e2, _⟩ := hok2 b _ (un.frzs b ob _ z)
            rw [e] at e1; cases e1
            exact e2
  cases hk : K.lookup a with
  | some o =>
    have e := (kx a o hk).symm.trans ha
    cases e
    exact core (fun _ => none) (fun _ => .inl rfl) (.inr ⟨_, vs.toArray, _, hk, rfl, rfl, rfl, by rw [List.size_toArray, hi.length]; exact hl, by simpa using rv⟩) (fun b u z => nomatch (show (none : Option HO) = some u from z)) (fun b z => absurd rfl z) fun z => absurd rfl z
  | none =>
    have at1 : ∀ {b : Addr} {u : HO}, (if b = a then some (HO.frz { cls := .type "list", data := .seq vs.toArray } (.lst (ns.map V.int))) else none) = some u → b = a ∧ u = .frz { cls := .type "list", data := .seq vs.toArray } (.lst (ns.map V.int)) := fun {b u} z => by
      by_cases hb : b = a
      · rw [if_pos hb] at z; cases z; exact ⟨hb, rfl⟩
      · rw [if_neg hb] at z; cases z
    refine core (fun b => if b = a then some (.frz { cls := .type "list", data := .seq vs.toArray } (.lst (ns.map V.int))) else none) (fun b => ?_) (.inl (.inr ⟨{ cls := .type "list", data := .seq vs.toArray }, if_pos rfl⟩)) (fun b u z => ?_) (fun b z => ?_) fun _ => hk
    · by_cases hb : b = a
      · exact .inr ⟨_, _, if_pos hb⟩
      · exact .inl (if_neg hb)
    · obtain ⟨rfl, rfl⟩ := at1 z
      exact ⟨ha, by rw [List.length_map]; exact hl, vs, _, rv, ha⟩
    · exact Classical.byContradiction fun hb => z (if_neg hb)
theorem walk_ofG {l : PySem.W.OpenLaw} {n k : Nat} {q : Program} {loose : List Str} {XP : (Str → Option Value) → Heap → Prop} {YP : World → Heap → Prop} {d : DefRec} {CX : CXT} {x : Str} (hn : l.most = some n) (hn2 : n ≤ sizeLine) (hdf : d.params.defaults = []) (hr : Room k callerA)
    (F : ∀ (w : World) (mg : Str → Option Value) (fa : Addr) (h : Heap), YP w h → h.Ns mainGlobals mg → mg d.name = some (.ref fa) → ∃ (K : PySem.W.Frag) (fd : FuncData) (sp : Sp), K.In h ∧ (∀ (s : Shared) (u : Value), BindsTo s fd ⟨[u], []⟩ [(x, u)]) ∧
      (∀ (H : Hp) (a : Addr) (ns : List Int), ns.length ≤ n → Only H → SqL K H a (ns.map V.int) → sp [.ref a] H (fun v _ => v = .bl true) fun _ _ _ => False) ∧ ∀ base : Heap, K.In base → base.Ns mainGlobals mg → FnG l.prog w K mg base CX k fa fd [x] sp)
    (hCX : ∀ (H : Hp) (s : Shared) (e : Value) (s' : Shared), CX [] H s (fun _ _ _ => False) e s' → False) : PySem.W.WalkO q loose XP YP l.row.toRowW d [] (fun f vs => PySem.call f vs) := by
  refine Att.attach_call hn hdf fun w s0 s1 mg mb fa o pm cd doc a vs ns G Y ho hd hcd hmg hobj hints hlen hg => ?_
  obtain ⟨K, fd, sp, kx, hb, hsp, hF⟩ := F w mg fa _ Y G.T.g hmg
  exact law_callG kx G.T.g G.T.b G.T.builtins G.T.nolimit hg hobj hints (Nat.le_trans hlen hn2) hr hF hb (fun H hO hS => hsp H a ns hlen hO hS) fun H e s' => hCX H s1 e s'
/-! ### repr(x), x data -/
def rRepr (K : PySem.W.Frag) : List V → Hp → VK → Prop := fun xs H Q => ∃ (a : Addr) (d : PyData), xs = [.ref a] ∧ Dp K H (.ref a) d ∧ d.showable = true ∧ d.hasDict = false ∧ d.depth ≤ 60 ∧ d.shown.length ≤ sizeLine ∧ Q (.str d.shown) H
theorem call_reprD {X : Cx} (gd : X.A.guards = some []) (hu : X.A.units + 64 < cLine) : CallR X (.builtin "repr") (rRepr X.K) := by
  intro pins s σ H xs us Q I r h
  obtain ⟨a, d, rfl, hd, sh, nd, dp, sz, q⟩ := h
  obtain ⟨u, rfl, ru⟩ := vals1 r
  obtain ⟨as, rd⟩ := Dp.reads I d _ u hd ru
  cases ru
  exact repr_of_reads' rd sh (fun z => by rw [nd] at z; cases z) gd (by omega) (fun _ _ e => e) (fun h' u tk k => ⟨.str d.shown, H, I.kept k, ⟨u, rfl⟩, q⟩) sz
end Td
set_option maxHeartbeats 4000000
namespace Td
open PySem PySem.Spec PyProof.Rows L2
/-! ### texts of halls and states -/
abbrev lineT (ws : List Str) : Str := Txt.join " " ws
abbrev textT (ls : List Str) : Str := Txt.join "\n" ls
def cs (x : Str) : List Nat := x.cps.toList
theorem S_cs (x : Str) : SX.S (cs x) = x := SX.S_tl x
theorem map_S_cs (ws : List Str) : (ws.map cs).map SX.S = ws := by
  rw [List.map_map]
  have e : (SX.S ∘ cs) = id := funext fun x => S_cs x
  rw [e, List.map_id]
theorem join_cs (c : Nat) (ws : List Str) : Txt.join (SX.S [c]) ws = SX.S (TL.joinL [c] (ws.map cs)) := by
  have e := SX.join_S [c] (ws.map cs)
  rw [map_S_cs] at e
  exact e
theorem split_join {c : Nat} {ws : List Str} (hc : c < 256) (hne : ws ≠ []) (h : ∀ x ∈ ws, c ∉ cs x) : Txt.split (Txt.join (SX.S [c]) ws) (SX.S [c]) = ws := by
  rw [join_cs, SX.split_S (List.cons_ne_nil _ _) (by simpa using hc), SX.spl_join (fun e => hne (List.map_eq_nil_iff.mp e)) (fun p hp => by
    obtain ⟨x, hx, rfl⟩ := List.mem_map.mp hp
    exact h x hx), map_S_cs]
theorem sp_S : (" " : Str) = SX.S [32] := by decide
theorem nl_S : ("\n" : Str) = SX.S [10] := by decide
theorem mem_joinL {c x : Nat} : ∀ {ps : List (List Nat)}, x ∈ TL.joinL [c] ps → x = c ∨ ∃ p ∈ ps, x ∈ p
  | [], h => by cases h
  | [p], h => .inr ⟨p, List.mem_cons_self .., h⟩
  | p :: q :: r, h => by
    have h1 : x ∈ p ++ ([c] ++ TL.joinL [c] (q :: r)) := h
    rcases List.mem_append.mp h1 with h2 | h2
    · exact .inr ⟨p, List.mem_cons_self .., h2⟩
    · rcases List.mem_append.mp h2 with h3 | h3
      · exact .inl (List.mem_singleton.mp h3)
      · rcases mem_joinL h3 with h4 | ⟨z, hz, h4⟩
        · exact .inl h4
        · exact .inr ⟨z, List.mem_cons_of_mem _ hz, h4⟩
theorem len_joinL {c n : Nat} : ∀ {ps : List (List Nat)}, (∀ p ∈ ps, p.length ≤ n) → (TL.joinL [c] ps).length ≤ ps.length * (n + 1)
  | [], _ => Nat.zero_le _
  | [p], h => by
    have e := h p (List.mem_cons_self ..)
    show p.length ≤ 1 * (n + 1)
    omega
  | p :: q :: r, h => by
    have e := h p (List.mem_cons_self ..)
    have ih := len_joinL (c := c) (ps := q :: r) fun z hz => h z (List.mem_cons_of_mem _ hz)
    have e2 : (TL.joinL [c] (p :: q :: r)).length = p.length + (1 + (TL.joinL [c] (q :: r)).length) := by
      show (p ++ ([c] ++ TL.joinL [c] (q :: r))).length = _
      rw [List.length_append, List.length_append, List.length_singleton]
    rw [e2, List.length_cons, Nat.succ_mul]
    omega
theorem Nm.low {x : Str} (h : Nm x) : ∀ c ∈ cs x, 97 ≤ c ∧ c ≤ 122 := h.2.2
theorem Nm.len {x : Str} (h : Nm x) : (cs x).length ≤ 6 := by
  have e : (cs x).length = x.length := by unfold cs Str.length; simp
  rw [e]
  exact h.2.1
/-- the lines of a text, each its words -/
structure LnOk (ls : List (List Str)) : Prop where
  ne : ls ≠ []
  l13 : ls.length ≤ 13
  ok : ∀ l ∈ ls, l ≠ [] ∧ l.length ≤ 13 ∧ ∀ x ∈ l, Nm x
abbrev txtOf (ls : List (List Str)) : Str := textT (ls.map lineT)
theorem line_len {l : List Str} (h : l.length ≤ 13) (hn : ∀ x ∈ l, Nm x) : (lineT l).length ≤ 91 := by
  show (Txt.join " " l).length ≤ 91
  rw [sp_S, join_cs, SX.S_len]
  have e := len_joinL (c := 32) (n := 6) (ps := l.map cs) fun p hp => by
    obtain ⟨x, hx, rfl⟩ := List.mem_map.mp hp
    exact (hn x hx).len
  rw [List.length_map] at e
  omega
theorem line_no {l : List Str} (hn : ∀ x ∈ l, Nm x) : 10 ∉ cs (lineT l) := fun h => by
  have e : cs (lineT l) = TL.joinL [32] (l.map cs) := by
    show cs (Txt.join " " l) = _
    rw [sp_S, join_cs]
    rfl
  rw [e] at h
  rcases mem_joinL h with h | ⟨p, hp, h⟩
  · cases h
  · obtain ⟨x, hx, rfl⟩ := List.mem_map.mp hp
    have z := (hn x hx).low 10 h
    omega
theorem line_split {l : List Str} (hne : l ≠ []) (hn : ∀ x ∈ l, Nm x) : Txt.split (lineT l) " " = l := by
  show Txt.split (Txt.join " " l) " " = l
  rw [sp_S]
  refine split_join (by decide) hne fun x hx hc => ?_
  have z := (hn x hx).low 32 hc
  omega
theorem txt_split {ls : List (List Str)} (h : LnOk ls) : Txt.split (txtOf ls) "\n" = ls.map lineT := by
  show Txt.split (Txt.join "\n" (ls.map lineT)) "\n" = _
  rw [nl_S]
  refine split_join (by decide) (fun e => h.ne (List.map_eq_nil_iff.mp e)) fun x hx => ?_
  obtain ⟨l, hl, rfl⟩ := List.mem_map.mp hx
  exact line_no (h.ok l hl).2.2
theorem txt_len {ls : List (List Str)} (h : LnOk ls) : (txtOf ls).length ≤ 2000 := by
  show (Txt.join "\n" (ls.map lineT)).length ≤ 2000
  rw [nl_S, join_cs, SX.S_len]
  have e := len_joinL (c := 10) (n := 91) (ps := (ls.map lineT).map cs) fun p hp => by
    obtain ⟨x, hx, rfl⟩ := List.mem_map.mp hp
    obtain ⟨l, hl, rfl⟩ := List.mem_map.mp hx
    have z := line_len (h.ok l hl).2.1 (h.ok l hl).2.2
    have y : (cs (lineT l)).length = (lineT l).length := by unfold cs Str.length; simp
    rw [y]
    exact z
  have z := h.l13
  rw [List.length_map, List.length_map] at e
  omega
theorem lines_inj {ls ms : List (List Str)} (h1 : LnOk ls) (h2 : LnOk ms) (e : txtOf ls = txtOf ms) : ls = ms := by
  have a := txt_split h1
  rw [e, txt_split h2] at a
  have f : ∀ {ks : List (List Str)}, LnOk ks → (ks.map lineT).map (fun x => Txt.split x " ") = ks := fun {ks} hk => by
    rw [List.map_map]
    have : ks.map ((fun x => Txt.split x " ") ∘ lineT) = ks.map id := List.map_congr_left fun l hl => line_split (hk.ok l hl).1 (hk.ok l hl).2.2
    rw [this, List.map_id]
  rw [← f h1, ← f h2, a]
abbrev lnOf (w1 w2 : Str) (ss : List Str) (rows : List (List Str)) : List (List Str) := (w1 :: ss) :: rows.map (w2 :: ·)
structure Bd (ss : List Str) (rows : List (List Str)) : Prop where
  s12 : ss.length ≤ 12
  r12 : rows.length ≤ 12
  sn : ∀ x ∈ ss, Nm x
  rn : ∀ r ∈ rows, r.length ≤ 3 ∧ ∀ x ∈ r, Nm x
theorem Bd.ln {w1 w2 : Str} {ss : List Str} {rows : List (List Str)} (h : Bd ss rows) (h1 : Nm w1) (h2 : Nm w2) : LnOk (lnOf w1 w2 ss rows) := by
  refine ⟨List.cons_ne_nil _ _, ?_, fun l hl => ?_⟩
  · rw [List.length_cons, List.length_map]
    have := h.r12
    omega
  · rcases List.mem_cons.mp hl with rfl | hl
    · refine ⟨List.cons_ne_nil _ _, ?_, fun x hx => ?_⟩
      · rw [List.length_cons]
        have := h.s12
        omega
      · rcases List.mem_cons.mp hx with rfl | hx
        · exact h1
        · exact h.sn x hx
    · obtain ⟨r, hr, rfl⟩ := List.mem_map.mp hl
      refine ⟨List.cons_ne_nil _ _, ?_, fun x hx => ?_⟩
      · rw [List.length_cons]
        have := (h.rn r hr).1
        omega
      · rcases List.mem_cons.mp hx with rfl | hx
        · exact h2
        · exact (h.rn r hr).2 x hx
theorem lnOf_inj {w1 w2 : Str} {ss tt : List Str} {rows cols : List (List Str)} (e : lnOf w1 w2 ss rows = lnOf w1 w2 tt cols) : ss = tt ∧ rows = cols := by
  injection e with e1 e2
  injection e1 with _ e1
  refine ⟨e1, ?_⟩
  have := congrArg (List.map List.tail) e2
  rw [List.map_map, List.map_map] at this
  have f : ∀ l : List (List Str), l.map (List.tail ∘ (w2 :: ·)) = l := fun l => by
    have : (List.tail ∘ fun x => w2 :: x) = id := rfl
    rw [this, List.map_id]
  rw [f, f] at this
  exact this
theorem nm_of {x : Str} (h : (decide (1 ≤ x.length) && (decide (x.length ≤ 6) && x.cps.toList.all fun c => decide (97 ≤ c) && decide (c ≤ 122))) = true) : Nm x := by
  simp only [Bool.and_eq_true, decide_eq_true_eq, List.all_eq_true] at h
  exact ⟨h.1, h.2.1, h.2.2⟩
theorem nm_rooms : Nm "rooms" := nm_of (by decide +kernel)
theorem nm_door : Nm "door" := nm_of (by decide +kernel)
theorem nm_faces : Nm "faces" := nm_of (by decide +kernel)
theorem nm_walker : Nm "walker" := nm_of (by decide +kernel)
theorem HallV.bd {rooms : List Str} {rows : List (List Str)} (h : HallV rooms rows) : Bd rooms rows := by
  have := h.r8
  refine ⟨by omega, h.d12, h.nm, fun r hr => ?_⟩
  obtain ⟨n, a, b, rfl, h1, h2, h3, _⟩ := h.row r hr
  refine ⟨Nat.le_refl 3, fun x hx => ?_⟩
  rcases List.mem_cons.mp hx with rfl | hx
  · exact h1
  · rcases List.mem_cons.mp hx with rfl | hx
    · exact h.nm _ h2
    · rw [List.mem_singleton.mp hx]
      exact h.nm _ h3
theorem StV.bd {rooms : List Str} {rows : List (List Str)} {faces : List Str} {places : List (List Str)} (hH : HallV rooms rows) (h : StV rooms rows faces places) : Bd faces places := by
  have a1 := h.fl
  have a2 := hH.d12
  have a3 := h.p5
  refine ⟨by omega, by omega, fun x hx => ?_, fun r hr => ?_⟩
  · obtain ⟨i, hi⟩ := List.getElem?_of_mem hx
    have hl : i < rows.length := by
      rw [← a1]
      exact (List.getElem?_eq_some_iff.mp hi).1
    obtain ⟨n, a, b, e, z⟩ := h.fc i x _ hi (List.getElem?_eq_getElem hl)
    obtain ⟨n', a', b', e', _, m1, m2, _⟩ := hH.row _ (List.getElem_mem hl)
    rw [e] at e'
    injection e' with _ e'
    injection e' with e1 e'
    injection e' with e2 _
    subst e1 e2
    rcases z with rfl | rfl
    · exact hH.nm _ m1
    · exact hH.nm _ m2
  · obtain ⟨w, r', rfl, h1, h2⟩ := h.pl r hr
    refine ⟨(by show 2 ≤ 3; decide), fun x hx => ?_⟩
    rcases List.mem_cons.mp hx with rfl | hx
    · exact h1
    · rw [List.mem_singleton.mp hx]
      exact hH.nm _ h2
/-! ### promises of the program's defs -/
instance (x : Str) : Decidable (Nm x) := by unfold Nm; exact inferInstance
def spIsName : Sp := fun vs H Q _ => ∃ x : Str, vs = [.str x] ∧ x.length ≤ 100000 ∧ ∀ H', Same H H' → Q (.bl (decide (Nm x))) H'
/-- all of xs pass -/
def spJoin (K : PySem.W.Frag) : Sp := fun vs H Q _ => ∃ (f d : Addr) (w1 w2 : Str) (ss : List Str) (rows : List (List Str)), vs = [.ref f, .str w2, .ref d] ∧ H f = some (.lst ((w1 :: ss).map V.str)) ∧ Rows H d rows ∧ Bd ss rows ∧ Nm w1 ∧ Nm w2 ∧
  ∀ H', Same H H' → Q (.str (txtOf (lnOf w1 w2 ss rows))) H'
def LinesAt (H : Hp) (as : List Addr) (ls : List (List Str)) : Prop := as.length = ls.length ∧ ∀ (i : Nat) (a : Addr) (l : List Str), as[i]? = some a → ls[i]? = some l → H a = some (.lst (l.map V.str))
theorem LinesAt.same {H H' : Hp} {as : List Addr} {ls : List (List Str)} (s : Same H H') (h : LinesAt H as ls) : LinesAt H' as ls := ⟨h.1, fun i a l e1 e2 => s _ _ (h.2 i a l e1 e2)⟩
def spSplit : Sp := fun vs H Q _ => ∃ ls : List (List Str), vs = [.str (txtOf ls)] ∧ LnOk ls ∧ ∀ p as H', Same H H' → H' p = some (.lst (as.map V.ref)) → LinesAt H' as ls → Q (.ref p) H'
def spRoomsLine (K : PySem.W.Frag) : Sp := fun vs H Q _ => ∃ (l : Addr) (rooms : List Str), vs = [.ref l] ∧ H l = some (.lst ((("rooms" : Str) :: rooms).map V.str)) ∧ 1 ≤ rooms.length ∧ rooms.length ≤ 8 ∧ rooms.Nodup ∧ (∀ x ∈ rooms, Nm x) ∧ ∀ H', Same H H' → Q (.bl true) H'
def spDoorLine (K : PySem.W.Frag) : Sp := fun vs H Q _ => ∃ (l r nl : Addr) (n a b : Str) (rooms names : List Str), vs = [.ref l, .ref r, .ref nl] ∧ H l = some (.lst ([("door" : Str), n, a, b].map V.str)) ∧ H r = some (.tup (rooms.map V.str)) ∧ H nl = some (.lst (names.map V.str)) ∧
  Nm n ∧ n ∉ names ∧ a ∈ rooms ∧ b ∈ rooms ∧ a ≠ b ∧ ∀ H', Same H H' → Q (.bl true) H'
def spFacesLine (K : PySem.W.Frag) : Sp := fun vs H Q _ => ∃ (l d : Addr) (faces : List Str) (rows : List (List Str)), vs = [.ref l, .ref d] ∧ H l = some (.lst ((("faces" : Str) :: faces).map V.str)) ∧ Rows H d rows ∧ faces.length = rows.length ∧ rows.length ≤ 12 ∧
  (∀ (i : Nat) (f : Str) (r : List Str), faces[i]? = some f → rows[i]? = some r → ∃ n a b : Str, r = [n, a, b] ∧ (f = a ∨ f = b)) ∧ ∀ H', Same H H' → Q (.bl true) H'
def spWalkerLine (K : PySem.W.Frag) : Sp := fun vs H Q _ => ∃ (l r : Addr) (before w rm : Str) (rooms : List Str), vs = [.ref l, .str before, .ref r] ∧ H l = some (.lst ([("walker" : Str), w, rm].map V.str)) ∧ H r = some (.tup (rooms.map V.str)) ∧
  Nm w ∧ before.cps.toList < w.cps.toList ∧ rm ∈ rooms ∧ ∀ H', Same H H' → Q (.bl true) H'
def spFmt (w1 w2 : Str) : Sp := fun vs H Q _ => ∃ (h : Addr) (ss : List Str) (rows : List (List Str)), vs = [.ref h] ∧ HS H h ss rows ∧ Bd ss rows ∧ ∀ H', Same H H' → Q (.str (txtOf (lnOf w1 w2 ss rows))) H'
def spParseHall : Sp := fun vs H Q _ => ∃ (rooms : List Str) (rows : List (List Str)), vs = [.str (txtOf (lnOf "rooms" "door" rooms rows))] ∧ HallV rooms rows ∧ ∀ p H', Same H H' → HS H' p rooms rows → Q (.ref p) H'
def spParseState : Sp := fun vs H Q _ => ∃ (h : Addr) (rooms : List Str) (rows : List (List Str)) (faces : List Str) (places : List (List Str)), vs = [.ref h, .str (txtOf (lnOf "faces" "walker" faces places))] ∧ HS H h rooms rows ∧ HallV rooms rows ∧ StV rooms rows faces places ∧
  ∀ p H', Same H H' → HS H' p faces places → Q (.ref p) H'
theorem catA_one {K : PySem.W.Frag} {H : Hp} {t r : Addr} {x : V} {ys : List V} {Q : VK} (h1 : H t = some (.tup [x])) (h2 : H r = some (.tup ys)) (hl : 1 + ys.length ≤ 1000) (k : ∀ p H', Same H H' → H' p = some (.tup (x :: ys)) → Q (.ref p) H') :
    rCatA K (.ref t) (.ref r) H Q :=
  ⟨t, r, [x], ys, rfl, rfl, SqT.of h1, SqT.of h2, Nat.le_of_lt (sz100 hl), (fun e => nomatch e), (fun _ e => k t H (Same.refl H) (by rw [e]; exact h1)), fun _ _ p hp => k p _ (same_new hp _) upd_same⟩
theorem join_sz {l : List Str} (h13 : l.length ≤ 13) (hn : ∀ x ∈ l, Nm x) : (l.map (·.length)).sum + l.length * (" " : Str).length ≤ 16777216 := by
  have e2 : (" " : Str).length = 1 := by decide
  have go : ∀ l : List Str, (∀ x ∈ l, Nm x) → (l.map (·.length)).sum ≤ l.length * 6 := fun l => by
    induction l with
    | nil => intro _; exact Nat.le_refl _
    | cons y ys ih =>
      intro h
      have h1 := (h y (List.mem_cons_self ..)).2.1
      have h2 := ih fun z hz => h z (List.mem_cons_of_mem _ hz)
      rw [List.map_cons, List.sum_cons, List.length_cons, Nat.succ_mul]
      omega
  have e1 := go l hn
  rw [e2]
  omega
theorem text_sz {ls : List (List Str)} (h : LnOk ls) : ((ls.map lineT).map (·.length)).sum + (ls.map lineT).length * ("\n" : Str).length ≤ 16777216 := by
  have e2 : ("\n" : Str).length = 1 := by decide
  have go : ∀ l : List (List Str), (∀ x ∈ l, x ≠ [] ∧ x.length ≤ 13 ∧ ∀ y ∈ x, Nm y) → ((l.map lineT).map (·.length)).sum ≤ l.length * 91 := fun l => by
    induction l with
    | nil => intro _; exact Nat.le_refl _
    | cons y ys ih =>
      intro h
      have h0 := h y (List.mem_cons_self ..)
      have h1 := line_len h0.2.1 h0.2.2
      have h2 := ih fun z hz => h z (List.mem_cons_of_mem _ hz)
      rw [List.map_cons, List.map_cons, List.sum_cons, List.length_cons, Nat.succ_mul]
      omega
  have e1 := go ls h.ok
  have e3 := h.l13
  rw [e2, List.length_map]
  omega
theorem Bd.first {w1 : Str} {ss : List Str} {rows : List (List Str)} (h : Bd ss rows) (h1 : Nm w1) : (w1 :: ss).length ≤ 13 ∧ ∀ x ∈ w1 :: ss, Nm x := by
  have z := (h.ln h1 h1).ok (w1 :: ss) (List.mem_cons_self ..)
  exact ⟨z.2.1, z.2.2⟩
theorem Bd.row {w2 : Str} {ss : List Str} {rows : List (List Str)} (h : Bd ss rows) (h2 : Nm w2) {r : List Str} (hr : r ∈ rows) : (w2 :: r).length ≤ 13 ∧ ∀ x ∈ w2 :: r, Nm x := by
  have z := (h.ln h2 h2).ok (w2 :: r) (List.mem_cons_of_mem _ (List.mem_map.mpr ⟨r, hr, rfl⟩))
  exact ⟨z.2.1, z.2.2⟩
end Td
set_option maxHeartbeats 4000000
namespace Td
open PySem PySem.Spec PyProof.Rows L2
open Builtin.SmallTypes (nextOf ownedTupleIsFree ownedTupleHandOut)
/-! ### an iterator over a sequence, whatever it is: what zip asks of it -/
structure Src (P : Program) (w : World) (it l : Addr) (st : Nat → Heap → Prop) (C : Heap → Array Value → Prop) : Prop where
  kst : ∀ {k : Nat} {g g' : Heap}, st k g → (∀ o, g.get? it = some o → g'.get? it = some o) → st k g'
  kC : ∀ {g g' : Heap} {xs : Array Value}, C g xs → (∀ o, g.get? l = some o → g'.get? l = some o) → C g' xs
  obj : ∀ {k : Nat} {g : Heap}, st k g → ∃ o vs, g.get? it = some o ∧ o.data = .fields vs
  item : ∀ {A : Around} {E : Value → Shared → Prop} {s : Shared} {k : Nat} {xs : Array Value} {x : Value} {Q : Value → Shared → Prop}, st k s.heap → C s.heap xs → xs[k]? = some x →
    (∀ g', st (k + 1) g' → Heap.SameBut it s.heap g' → Q x { s with heap := g' }) → wpAny (model P w) A (nextOf (.ref it)) Q E s
  done : ∀ {A : Around} {E : Value → Shared → Prop} {s : Shared} {k : Nat} {xs : Array Value} {Q : Value → Shared → Prop}, A.handled = none → st k s.heap → C s.heap xs → xs[k]? = none →
    (∀ g' e, Heap.ExtBut it s.heap g' → (∃ o, g'.get? e = some o ∧ o.cls = .type "StopIteration") → E (.ref e) { s with heap := g' }) → wpAny (model P w) A (nextOf (.ref it)) Q E s
theorem src_list {P : Program} {w : World} {it l : Addr} : Src P w it l (fun k g => g.IsListIter it l k) (fun g xs => g.IsList l xs) where
  kst := fun ⟨o, e, r⟩ keep => ⟨o, keep o e, r⟩
  kC := fun ⟨o, e, r⟩ keep => ⟨o, keep o e, r⟩
  obj := fun ⟨o, e, _, d⟩ => ⟨o, _, e, d⟩
  item := fun a b c q => wpAny_nextOf_list_item a b c q
  done := fun hh a b c q => wpAny_nextOf_list_end hh a b c q
theorem src_tup {P : Program} {w : World} {it l : Addr} : Src P w it l (fun k g => g.IsTupleIter it l k) (fun g xs => g.IsTuple l xs) where
  kst := fun ⟨o, e, r⟩ keep => ⟨o, keep o e, r⟩
  kC := fun ⟨o, e, r⟩ keep => ⟨o, keep o e, r⟩
  obj := fun ⟨o, e, _, d⟩ => ⟨o, _, e, d⟩
  item := fun a b c q => RZ.nextOf_tuple_item a b c q
  done := fun hh a b c q => RZ.nextOf_tuple_end hh a b c q
section
variable {P : Program} {w : World} {A : Around} {E : Value → Shared → Prop} {s : Shared} {zz TI TO i1 i2 l1 l2 : Addr} {k1 k2 : Nat} {xs ys : Array Value} {x y a b : Value} {S1 S2 : Nat → Heap → Prop} {C1 C2 : Heap → Array Value → Prop}
theorem same_at {e c : Addr} {g g' : Heap} (q : Heap.SameBut e g g') (n : c ≠ e) : ∀ o, g.get? c = some o → g'.get? c = some o := fun o h => (q.2 c n).trans h
theorem zip_up (R1 : Src P w i1 l1 S1 C1) (R2 : Src P w i2 l2 S2 C2) (D : ZipApart zz TI TO i1 i2 l1 l2) {Q : Value → Shared → Prop}
    (hz : IsZip s.heap zz TI TO .none) (hTI : IsPair s.heap TI (.ref i1) (.ref i2)) (hTO : IsPair s.heap TO a b) (h1 : S1 k1 s.heap) (h2 : S2 k2 s.heap) (c1 : C1 s.heap xs) (c2 : C2 s.heap ys) (hx : xs[k1]? = some x) (hy : ys[k2]? = some y)
    (hQ : ∀ g', IsZip g' zz TI TO (rawInt s.heap.objs.size) → IsPair g' TO x y → S1 (k1 + 1) g' → S2 (k2 + 1) g' → IsPair g' s.heap.objs.size x y → g'.objs.size = s.heap.objs.size + 1 →
      (∀ c o, c ≠ zz → c ≠ TO → c ≠ i1 → c ≠ i2 → s.heap.get? c = some o → g'.get? c = some o) → Q (.ref s.heap.objs.size) { s with heap := g' }) :
    wpAny (model P w) A (Builtin.«zip.__next__» ⟨[.ref zz], []⟩) (fun fin s' => ∃ v, fin = .done (.ret v) ∧ Q v s') E s := by
  show wpAny _ _ (field (.ref zz) 2 >>= _) _ _ _
  refine wpAny_bind (wpAny_field hz rfl (x := .bool false) rfl ?_); show wpAny _ _ (field (.ref zz) 3 >>= _) _ _ _
  refine wpAny_bind (wpAny_field hz rfl (x := .ref TI) rfl (wpAny_bind (wpAny_seqItems hTI rfl ?_)))
  show wpAny _ _ (ownedTupleIsFree (.ref zz) >>= _) _ _ _
  refine wpAny_bind ?_; unfold ownedTupleIsFree
  refine wpAny_bind (wpAny_field hz rfl (x := .none) rfl (wpAny_pure ?_)); simp only [if_true]
  refine wpAny_bind (wpAny_rule (wpAny_bind (wpAny_field hz rfl (x := .ref TO) rfl (wpAny_bind (wpAny_setField_rec hz (by simp) fun g1 z1 q1 => ?_)))))
  replace z1 : IsZip g1 zz TI TO .ellipsis := z1
  refine wpAny_bind ?_; simp only [List.forIn_cons, List.forIn_nil, List.zipIdx_cons, List.zipIdx_nil]
  refine wpAny_bind (wpAny_bind (wpAny_onRaise ?_)); show wpAny _ _ (nextOf (.ref i1) >>= _) _ _ _
  refine wpAny_bind (R1.item (R1.kst h1 (same_at q1 D.i1z)) (R1.kC c1 (same_at q1 D.l1z)) hx fun g2 n1 q2 => wpAny_pure ?_)
  have o2 : IsPair g2 TO a b := same_at q2 D.TOi1 _ (same_at q1 D.TOz _ hTO)
  refine wpAny_bind (wpAny_seqItems o2 rfl (wpAny_bind (wpAny_updateSeq_pair o2 fun g3 o3 q3 => ?_)))
  replace o3 : IsPair g3 TO x b := o3
  refine wpAny_bind (wpAny_letGo (wpAny_pure (wpAny_bind (wpAny_bind (wpAny_onRaise ?_))))); show wpAny _ _ (nextOf (.ref i2) >>= _) _ _ _
  refine wpAny_bind (R2.item (R2.kst (R2.kst (R2.kst h2 (same_at q1 D.i2z)) (same_at q2 D.i12.symm)) (same_at q3 D.TOi2.symm)) (R2.kC (R2.kC (R2.kC c2 (same_at q1 D.l2z)) (same_at q2 D.l2i1)) (same_at q3 D.l2TO)) hy fun g4 n2 q4 => wpAny_pure ?_)
  have o4 : IsPair g4 TO x b := same_at q4 D.TOi2 _ o3
  refine wpAny_bind (wpAny_seqItems o4 rfl (wpAny_bind (wpAny_updateSeq_pair o4 fun g5 o5 q5 => ?_)))
  replace o5 : IsPair g5 TO x y := o5
  refine wpAny_bind (wpAny_letGo (wpAny_pure (wpAny_pure (wpAny_bind (wpAny_seqItems o5 rfl (wpAny_bind (wpAny_newTuple ?_)))))))
  have sz : g5.objs.size = s.heap.objs.size := by rw [q5.1, q4.1, q3.1, q2.1, q1.1]
  have z5 : IsZip g5 zz TI TO .ellipsis := same_at q5 D.TOz.symm _ (same_at q4 D.i2z.symm _ (same_at q3 D.TOz.symm _ (same_at q2 D.i1z.symm _ z1)))
  have k5 : ∀ c o, c ≠ zz → c ≠ TO → c ≠ i1 → c ≠ i2 → s.heap.get? c = some o → g5.get? c = some o := fun c o m1 m2 m3 m4 e => same_at q5 m2 _ (same_at q4 m4 _ (same_at q3 m2 _ (same_at q2 m3 _ (same_at q1 m1 _ e))))
  have n15 : S1 (k1 + 1) g5 := R1.kst (R1.kst (R1.kst n1 (same_at q3 D.TOi1.symm)) (same_at q4 D.i12)) (same_at q5 D.TOi1.symm)
  have n25 : S2 (k2 + 1) g5 := R2.kst n2 (same_at q5 D.TOi2.symm)
  have lz : zz < g5.objs.size := Heap.lt_size z5
  show wpAny _ _ (ownedTupleHandOut (.ref zz) (.ref g5.objs.size) >>= _) _ _ _
  refine wpAny_bind ?_; unfold ownedTupleHandOut
  have z6 : IsZip (g5.push { cls := .type "tuple", data := .seq #[x, y] }) zz TI TO .ellipsis := Heap.get?_push_of_some _ z5
  refine wpAny_bind (wpAny_setField_rec z6 (by simp) fun g7 z7 q7 => ?_)
  replace z7 : IsZip g7 zz TI TO (rawInt g5.objs.size) := z7
  refine wpAny_setField_rec z7 (by simp) fun g8 z8 q8 => ?_
  replace z8 : IsZip g8 zz TI TO (rawInt g5.objs.size) := z8
  have up8 : ∀ c o, c ≠ zz → g5.get? c = some o → g8.get? c = some o := fun c o m e => same_at q8 m _ (same_at q7 m _ (Heap.get?_push_of_some _ e))
  have t8 : IsPair g8 g5.objs.size x y := same_at q8 (Nat.ne_of_gt lz) _ (same_at q7 (Nat.ne_of_gt lz) _ (Heap.get?_push_size _ rfl))
  have s8 : g8.objs.size = g5.objs.size + 1 := by rw [q8.1, q7.1, Heap.size_push]
  rw [sz] at z8 t8 s8
  refine wpAny_pure ⟨_, rfl, ?_⟩; show Q (.ref g5.objs.size) _; rw [sz]
  exact hQ g8 z8 (up8 _ _ D.TOz o5) (R1.kst n15 fun o e => up8 _ o D.i1z e) (R2.kst n25 fun o e => up8 _ o D.i2z e) t8 s8 fun c o m1 m2 m3 m4 e => up8 c o m1 (k5 c o m1 m2 m3 m4 e)
theorem zip_out (R1 : Src P w i1 l1 S1 C1) (R2 : Src P w i2 l2 S2 C2) (D : ZipApart zz TI TO i1 i2 l1 l2) (hh : A.handled = none) {Q : Fin → Shared → Prop}
    (hz : IsZip s.heap zz TI TO .none) (hTI : IsPair s.heap TI (.ref i1) (.ref i2)) (hTO : IsPair s.heap TO a b) (h1 : S1 k1 s.heap) (h2 : S2 k2 s.heap) (c1 : C1 s.heap xs) (c2 : C2 s.heap ys) (hend : xs[k1]? = none ∨ ys[k2]? = none)
    (hE : ∀ g' e, (∀ c o, c ≠ zz → c ≠ TO → c ≠ i1 → c ≠ i2 → s.heap.get? c = some o → g'.get? c = some o) → (∃ o, g'.get? e = some o ∧ o.cls = .type "StopIteration") → E (.ref e) { s with heap := g' }) :
    wpAny (model P w) A (Builtin.«zip.__next__» ⟨[.ref zz], []⟩) Q E s := by
  show wpAny _ _ (field (.ref zz) 2 >>= _) _ _ _
  refine wpAny_bind (wpAny_field hz rfl (x := .bool false) rfl ?_); show wpAny _ _ (field (.ref zz) 3 >>= _) _ _ _
  refine wpAny_bind (wpAny_field hz rfl (x := .ref TI) rfl (wpAny_bind (wpAny_seqItems hTI rfl ?_)))
  show wpAny _ _ (ownedTupleIsFree (.ref zz) >>= _) _ _ _
  refine wpAny_bind ?_; unfold ownedTupleIsFree
  refine wpAny_bind (wpAny_field hz rfl (x := .none) rfl (wpAny_pure ?_)); simp only [if_true]
  refine wpAny_bind (wpAny_rule (wpAny_bind (wpAny_field hz rfl (x := .ref TO) rfl (wpAny_bind (wpAny_setField_rec hz (by simp) fun g1 z1 q1 => ?_)))))
  replace z1 : IsZip g1 zz TI TO .ellipsis := z1
  refine wpAny_bind ?_; simp only [List.forIn_cons, List.forIn_nil, List.zipIdx_cons, List.zipIdx_nil]
  refine wpAny_bind (wpAny_bind (wpAny_onRaise ?_)); show wpAny _ _ (nextOf (.ref i1) >>= _) _ _ _
  have fin : ∀ (g e) (it : Addr), IsZip g zz TI TO .ellipsis → (∃ o, g.get? e = some o ∧ o.cls = .type "StopIteration") → (∀ c o, c ≠ zz → c ≠ TO → c ≠ i1 → c ≠ i2 → s.heap.get? c = some o → g.get? c = some o) → ∀ g9, Heap.SameBut zz g g9 → E (.ref e) { s with heap := g9 } := fun g e it zg ⟨oe, he, hc⟩ kg g9 q9 => by
    have nez : e ≠ zz := fun z => by subst z; rw [zg] at he; cases he; simp at hc
    exact hE g9 e (fun c o m1 m2 m3 m4 z => same_at q9 m1 _ (kg c o m1 m2 m3 m4 z)) ⟨oe, same_at q9 nez _ he, hc⟩
  cases hx : xs[k1]? with
  | none =>
    refine wpAny_bind (R1.done hh (R1.kst h1 (same_at q1 D.i1z)) (R1.kC c1 (same_at q1 D.l1z)) hx fun g2 e q2 he => ?_)
    have z2 : IsZip g2 zz TI TO .ellipsis := q2 _ _ D.i1z.symm z1
    exact wpAny_setField_rec z2 (by simp) fun g3 _ q3 => fin g2 e i1 z2 he (fun c o m1 _ m3 _ z => q2 _ _ m3 (same_at q1 m1 _ z)) g3 q3
  | some x =>
    have hy : ys[k2]? = none := hend.resolve_left fun h => by rw [hx] at h; cases h
    refine wpAny_bind (R1.item (R1.kst h1 (same_at q1 D.i1z)) (R1.kC c1 (same_at q1 D.l1z)) hx fun g2 n1 q2 => wpAny_pure ?_)
    have o2 : IsPair g2 TO a b := same_at q2 D.TOi1 _ (same_at q1 D.TOz _ hTO)
    refine wpAny_bind (wpAny_seqItems o2 rfl (wpAny_bind (wpAny_updateSeq_pair o2 fun g3 o3 q3 => ?_)))
    refine wpAny_bind (wpAny_letGo (wpAny_pure (wpAny_bind (wpAny_bind (wpAny_onRaise ?_))))); show wpAny _ _ (nextOf (.ref i2) >>= _) _ _ _
    refine wpAny_bind (R2.done hh (R2.kst (R2.kst (R2.kst h2 (same_at q1 D.i2z)) (same_at q2 D.i12.symm)) (same_at q3 D.TOi2.symm)) (R2.kC (R2.kC (R2.kC c2 (same_at q1 D.l2z)) (same_at q2 D.l2i1)) (same_at q3 D.l2TO)) hy fun g4 e q4 he => ?_)
    have z4 : IsZip g4 zz TI TO .ellipsis := q4 _ _ D.i2z.symm (same_at q3 D.TOz.symm _ (same_at q2 D.i1z.symm _ z1))
    exact wpAny_setField_rec z4 (by simp) fun g5 _ q5 => fin g4 e i2 z4 he (fun c o m1 m2 m3 m4 z => q4 _ _ m4 (same_at q3 m2 _ (same_at q2 m3 _ (same_at q1 m1 _ z)))) g5 q5
theorem enum_up (R : Src P w i1 l1 S1 C1) {e : Addr} {n : Int} {old : Value} (he : IsEnum s.heap e i1 n old) (h1 : S1 k1 s.heap) (c1 : C1 s.heap xs) (hx : xs[k1]? = some x) (nei : e ≠ i1) {Q : Value → Shared → Prop}
    (hQ : ∀ g', IsEnumOut g' e i1 (n + 1) x s.heap.objs.size → S1 (k1 + 1) g' → g'.get? s.heap.objs.size = some { cls := .type "tuple", data := .seq #[.int n s.toks, x] } → g'.objs.size = s.heap.objs.size + 1 →
      (∀ c o, c ≠ e → c ≠ i1 → s.heap.get? c = some o → g'.get? c = some o) → Q (.ref s.heap.objs.size) { s with heap := g', toks := s.toks + 1 }) :
    wpAny (model P w) A (Builtin.«enumerate.__next__» ⟨[.ref e], []⟩) (fun fin s' => ∃ v, fin = .done (.ret v) ∧ Q v s') E s := by
  obtain ⟨g0, gn, dr, tk, os⟩ := s
  show wpAny _ _ (field (.ref e) 2 >>= _) _ _ ⟨g0, gn, dr, tk, os⟩
  refine wpAny_bind (wpAny_field he rfl (x := .ref i1) rfl (wpAny_bind (R.item h1 c1 hx fun g1 n1 q1 => ?_)))
  replace q1 : Heap.SameBut i1 g0 g1 := q1
  have e1 : IsEnum g1 e i1 n old := same_at q1 nei _ he
  show wpAny _ _ (field (.ref e) 3 >>= _) _ _ ⟨g1, gn, dr, tk, os⟩
  refine wpAny_bind (wpAny_field e1 rfl (x := rawInt n) rfl ?_); show wpAny _ _ (field (.ref e) 4 >>= _) _ _ ⟨g1, gn, dr, tk, os⟩
  refine wpAny_bind (wpAny_field e1 rfl (x := .none) rfl ?_); show wpAny _ _ (mkInt n >>= _) _ _ ⟨g1, gn, dr, tk, os⟩
  refine wpAny_bind (wpAny_mkInt ?_); show wpAny _ _ (setField (.ref e) 3 (rawInt (n + 1)) >>= _) _ _ ⟨g1, gn, dr, tk + 1, os⟩
  refine wpAny_bind (wpAny_setField_rec e1 (by simp) fun g2 e2 q2 => ?_)
  replace q2 : Heap.SameBut e g1 g2 := q2
  replace e2 : IsEnum g2 e i1 (n + 1) old := e2
  show wpAny _ _ (setField (.ref e) 4 .none >>= _) _ _ ⟨g2, gn, dr, tk + 1, os⟩
  refine wpAny_bind (wpAny_setField_rec e2 (by simp) fun g3 e3 q3 => ?_)
  replace q3 : Heap.SameBut e g2 g3 := q3
  replace e3 : IsEnum g3 e i1 (n + 1) old := e3
  show wpAny _ _ (newTuple [.int n tk, x] >>= _) _ _ ⟨g3, gn, dr, tk + 1, os⟩
  refine wpAny_bind (wpAny_newTuple ?_)
  have sz : g3.objs.size = g0.objs.size := by rw [q3.1, q2.1, q1.1]
  have le : e < g0.objs.size := Heap.lt_size he
  have e4 : IsEnum (g3.push { cls := .type "tuple", data := .seq #[.int n tk, x] }) e i1 (n + 1) old := Heap.get?_push_of_some _ e3
  have t4 : (g3.push { cls := .type "tuple", data := .seq #[.int n tk, x] }).get? g0.objs.size = some { cls := .type "tuple", data := .seq #[.int n tk, x] } := by rw [← sz]; exact Heap.get?_push_size _ rfl
  have s4 : (g3.push { cls := .type "tuple", data := .seq #[.int n tk, x] }).objs.size = g0.objs.size + 1 := by rw [Heap.size_push, sz]
  have k4 : ∀ c o, c ≠ e → c ≠ i1 → g0.get? c = some o → (g3.push { cls := .type "tuple", data := .seq #[.int n tk, x] }).get? c = some o := fun c o m1 m2 z => Heap.get?_push_of_some _ (same_at q3 m1 _ (same_at q2 m1 _ (same_at q1 m2 _ z)))
  have n4 : S1 (k1 + 1) (g3.push { cls := .type "tuple", data := .seq #[.int n tk, x] }) := R.kst n1 fun o z => Heap.get?_push_of_some _ (same_at q3 nei.symm _ (same_at q2 nei.symm _ z))
  rw [sz]
  generalize g3.push { cls := .type "tuple", data := .seq #[.int n tk, x] } = g4 at e4 t4 s4 k4 n4 ⊢
  show wpAny _ _ (ownedTupleIsFree (.ref e) >>= _) _ _ ⟨g4, gn, dr, tk + 1, os⟩
  refine wpAny_bind ?_; unfold ownedTupleIsFree
  refine wpAny_bind (wpAny_field e4 rfl (x := .none) rfl (wpAny_pure ?_)); simp only [if_true]
  refine wpAny_bind (wpAny_rule (wpAny_bind (wpAny_field e4 rfl (x := old) rfl (wpAny_bind (wpAny_setField_rec e4 (by simp) fun g5 e5 q5 => ?_)))))
  replace q5 : Heap.SameBut e g4 g5 := q5
  replace e5 : IsEnum g5 e i1 (n + 1) x := e5
  show wpAny _ _ (ownedTupleHandOut (.ref e) (.ref g0.objs.size) >>= _) _ _ ⟨g5, gn, dr, tk + 1, os⟩
  refine wpAny_bind ?_; unfold ownedTupleHandOut
  refine wpAny_bind (wpAny_setField_rec e5 (by simp) fun g6 e6 q6 => ?_)
  replace q6 : Heap.SameBut e g5 g6 := q6
  replace e6 : IsEnumOut g6 e i1 (n + 1) x g0.objs.size := e6
  refine wpAny_setField_rec e6 (by simp) fun g7 e7 q7 => ?_
  replace q7 : Heap.SameBut e g6 g7 := q7
  replace e7 : IsEnumOut g7 e i1 (n + 1) x g0.objs.size := e7
  have up7 : ∀ c o, c ≠ e → g4.get? c = some o → g7.get? c = some o := fun c o m z => same_at q7 m _ (same_at q6 m _ (same_at q5 m _ z))
  exact wpAny_bind (wpAny_letGo (wpAny_pure ⟨_, rfl, hQ g7 e7 (R.kst n4 fun o z => up7 _ o nei.symm z) (up7 _ _ (Nat.ne_of_gt le) t4) (by rw [q7.1, q6.1, q5.1, s4]) fun c o m1 m2 z => up7 c o m1 (k4 c o m1 m2 z)⟩))
theorem enum_out (R : Src P w i1 l1 S1 C1) {e : Addr} {n : Int} {old : Value} (hh : A.handled = none) (he : IsEnum s.heap e i1 n old) (h1 : S1 k1 s.heap) (c1 : C1 s.heap xs) (hx : xs[k1]? = none) {Q : Option Value → Shared → Prop}
    (hQ : ∀ g', Heap.ExtBut i1 s.heap g' → Q none { s with heap := g' }) : wpAny (model P w) A (pyNext (.ref e)) Q E s := by
  have ty : s.TypeIs (.ref e) "enumerate" := ⟨_, he, rfl⟩
  unfold pyNext
  refine wpAny_bind (wpAny_attempt (wpAny_callSpecial?_slot (name := Str.ofString "__next__") ty F.slot_enumerate_next (wpAny_call_entry F.slot_enumerate_next ty F.entry_enumerate_next ?_ (F.args_enumerate_next_1 _))))
  show wpAny _ _ (field (.ref e) 2 >>= _) _ _ s
  refine wpAny_bind (wpAny_field he rfl (x := .ref i1) rfl (wpAny_bind (R.done hh h1 c1 hx fun g' z q ⟨o, ho, hc⟩ => ?_)))
  exact wpAny_bind (wpAny_isInstance (T := "StopIteration") (b := true) ⟨o, ho, hc⟩ isSubtype_stop (wpAny_pure (hQ _ q)))
end
/-! ### what stands at an address, read by H -/
structure Sqs (P : Program) (w : World) (K : PySem.W.Frag) (Sq : Hp → List V → Prop) (C : Heap → Array Value → Prop) : Prop where
  get : ∀ {X : Cx} {pins : List (Addr × Obj)} {σ : L2.St} {H : Hp} {s : Shared} {xs : List V}, X.prog = P → X.w = w → X.K = K → Inv X pins σ H s → Sq H xs → ∃ its : List Value, Vals xs its ∧ C s.heap its.toArray
  inj : ∀ {X : Cx} {pins : List (Addr × Obj)} {σ : L2.St} {H : Hp} {s : Shared} {xs ys : List V}, X.prog = P → X.w = w → X.K = K → Inv X pins σ H s → Sq H xs → Sq H ys → xs = ys
theorem sqs_list {P : Program} {w : World} {K : PySem.W.Frag} {a : Addr} : Sqs P w K (fun H xs => SqL K H a xs) (fun g xs => g.IsList a xs) where
  get := fun e1 e2 e3 I h => by
    subst e3
    obtain ⟨its, r, p, _⟩ := I.list h
    exact ⟨its, r, p.isList⟩
  inj := fun e1 e2 e3 I h h' => by
    subst e3
    exact I.list_inj h h'
theorem sqs_tup {P : Program} {w : World} {K : PySem.W.Frag} {a : Addr} : Sqs P w K (fun H xs => SqT K H a xs) (fun g xs => g.IsTuple a xs) where
  get := fun e1 e2 e3 I h => by
    subst e3
    obtain ⟨its, r, p, _⟩ := I.tuple h
    exact ⟨its, r, p⟩
  inj := fun e1 e2 e3 I h h' => by
    subst e3
    exact I.tuple_inj h h'
/-- an enumeration, the first number lo -/
def ItE (Sq : Hp → List V → Prop) (lo : Int) : It :=
  ⟨fun i H => ∃ (xs : List V) (x : V), Sq H xs ∧ xs[i]? = some x, fun i H v H' => ∃ T x, v = .ref T ∧ H T = none ∧ H' = upd H T (.tup [.int (lo + (i : Nat)), x]) ∧ ∀ xs, Sq H xs → xs[i]? = some x, fun i H => ∃ xs : List V, Sq H xs ∧ xs.length ≤ i⟩
theorem turn_E {P : Program} {w : World} {K : PySem.W.Frag} {elts : List Expr} {kk : Nat} {tpos : Pos} {e it l : Addr} {lo : Int} {st : Nat → Heap → Prop} {C : Heap → Array Value → Prop} {Sq : Hp → List V → Prop} (R : Src P w it l st C) (G : Sqs P w K Sq C) (nei : e ≠ it) :
    Turn P w K (.Tuple elts kk tpos) (ItE Sq lo) [e, it] e (fun i g => (∃ old, IsEnum g e it (lo + (i : Nat)) old) ∧ st i g) where
  mem := List.mem_cons_self ..
  obj := fun i g ⟨⟨old, he⟩, hs⟩ c hc => by
    rcases List.mem_cons.mp hc with z | z
    · rw [z]; exact ⟨_, he, fun v q => nomatch q⟩
    · obtain ⟨o, vs, ho, hd⟩ := R.obj hs
      rw [List.mem_singleton.mp z]; exact ⟨o, ho, fun v q => by rw [hd] at q; cases q⟩
  keep := fun i g g' ⟨⟨old, he⟩, hs⟩ k => ⟨⟨old, k e (List.mem_cons_self ..) _ he⟩, R.kst hs fun o z => k it (by simp) o z⟩
  item := by
    intro X hP hw hK hc i pins s σ H E I hf ⟨⟨old, he⟩, hs⟩ ⟨xs, x, hq, hx⟩
    obtain ⟨its, rv, c⟩ := G.get hP hw hK I hq
    subst hP hw hK
    obtain ⟨u, hu, ru⟩ := rv.get hx
    have le : e < s.heap.objs.size := Heap.lt_size he
    have li : it < s.heap.objs.size := by obtain ⟨o, vs, ho, _⟩ := R.obj hs; exact Heap.lt_size ho
    have ty : s.TypeIs (.ref e) "enumerate" := ⟨_, he, rfl⟩
    unfold pyNext
    refine wpAny_bind (wpAny_attempt (wpAny_callSpecial?_slot (name := Str.ofString "__next__") ty F.slot_enumerate_next (wpAny_call_entry F.slot_enumerate_next ty F.entry_enumerate_next
      (enum_up (Q := fun v s' => wpAny _ _ (pure (some v)) _ _ s') R he hs c (x := u) (by simpa using hu) nei fun g' ho n1 hT hsz hk => wpAny_pure ?_) (F.args_enumerate_next_1 _))))
    refine ⟨_, rfl, wpAny_letOwnedTupleGo_enum (s := { s with heap := g', toks := s.toks + 1 }) ho fun g2 h2 sb => ?_⟩
    have hT2 : g2.get? s.heap.objs.size = some { cls := .type "tuple", data := .seq #[.int (lo + (i : Nat)) s.toks, u] } := same_at sb (Nat.ne_of_gt le) _ hT
    have new : ObjOk X.prog X.w (upd H s.heap.objs.size (.tup [.int (lo + (i : Nat)), x])) g2 s.heap.objs.size (.tup [.int (lo + (i : Nat)), x]) :=
      ⟨by show 2 ≤ sizeLine; decide, [.int (lo + (i : Nat)) s.toks, u], .cons ⟨_, rfl⟩ (.cons ru .nil), ⟨_, hT2, rfl, _, rfl⟩⟩
    have I1 : Inv X pins σ (upd H s.heap.objs.size (.tup [.int (lo + (i : Nat)), x])) { s with heap := g2, toks := s.toks + 1 } :=
      I.turnedNew (ch := [e, it]) (fun c o hc z => same_at sb (fun y => hc (by simp [y])) _ (hk c o (fun y => hc (by simp [y])) (fun y => hc (by simp [y])) z)) hf (Nat.le_refl _) new
    refine ⟨.ref s.heap.objs.size, _, I1, rfl, ⟨_, x, rfl, I.hok.fresh (Nat.le_refl _), rfl, fun ys hy => by rw [G.inj rfl rfl rfl I hy hq]; exact hx⟩, ⟨⟨u, ?_⟩, R.kst n1 fun o z => same_at sb nei.symm _ z⟩, fun c hc => ?_⟩
    · have e1 : lo + ((i + 1 : Nat) : Int) = lo + (i : Nat) + 1 := by omega
      rw [e1]; exact h2
    · have lc : c < s.heap.objs.size := by
        rcases List.mem_cons.mp hc with z | z
        · rw [z]; exact le
        · rw [List.mem_singleton.mp z]; exact li
      rw [upd_ne (Nat.ne_of_lt lc)]
      exact (hf c hc).1
  done := by
    intro X hP hw hK hc i pins s σ H E I hf ⟨⟨old, he⟩, hs⟩ ⟨xs, hq, hx⟩
    obtain ⟨its, rv, c⟩ := G.get hP hw hK I hq
    subst hP hw hK
    have hl := rv.length
    obtain ⟨f0, f1, f2, f3, f4, f5⟩ := hf it (by simp)
    exact enum_out R (I.ok.hd hc) he hs c (by simp; omega) fun g' q => ⟨rfl, I.turned (t' := s.toks) (fun b o hb z => q b o hb z) f0 f1 f3 f4 f5⟩
  self := fun A i s Q E ⟨⟨_, he⟩, _⟩ h => wpAny_pyIter_enum he h
/-- a zip of two sequences -/
def ItZ (Sq Sr : Hp → List V → Prop) : It :=
  ⟨fun i H => ∃ (xs ys : List V) (x y : V), Sq H xs ∧ Sr H ys ∧ xs[i]? = some x ∧ ys[i]? = some y,
    fun i H v H' => ∃ T x y, v = .ref T ∧ H T = none ∧ H' = upd H T (.tup [x, y]) ∧ (∀ xs, Sq H xs → xs[i]? = some x) ∧ ∀ ys, Sr H ys → ys[i]? = some y,
    fun i H => ∃ xs ys : List V, Sq H xs ∧ Sr H ys ∧ (xs.length ≤ i ∨ ys.length ≤ i)⟩
theorem turn_Z {P : Program} {w : World} {K : PySem.W.Frag} {elts : List Expr} {kk : Nat} {tpos : Pos} {zz TI TO i1 i2 l1 l2 : Addr} {S1 S2 : Nat → Heap → Prop} {C1 C2 : Heap → Array Value → Prop} {Sq Sr : Hp → List V → Prop} (R1 : Src P w i1 l1 S1 C1) (R2 : Src P w i2 l2 S2 C2)
    (G1 : Sqs P w K Sq C1) (G2 : Sqs P w K Sr C2) (D : ZipApart zz TI TO i1 i2 l1 l2) :
    Turn P w K (.Tuple elts kk tpos) (ItZ Sq Sr) [zz, TI, TO, i1, i2] zz (fun i g => IsZip g zz TI TO .none ∧ IsPair g TI (.ref i1) (.ref i2) ∧ (∃ x y, IsPair g TO x y) ∧ S1 i g ∧ S2 i g) where
  mem := List.mem_cons_self ..
  obj := fun i g ⟨hz, hTI, ⟨x, y, hTO⟩, h1, h2⟩ c hc => by
    obtain ⟨o1, v1, a1, d1⟩ := R1.obj h1
    obtain ⟨o2, v2, a2, d2⟩ := R2.obj h2
    have hc' : c = zz ∨ c = TI ∨ c = TO ∨ c = i1 ∨ c = i2 := by simpa using hc
    rcases hc' with z | z | z | z | z <;> rw [z]
    · exact ⟨_, hz, fun v q => nomatch q⟩
    · exact ⟨_, hTI, fun v q => nomatch q⟩
    · exact ⟨_, hTO, fun v q => nomatch q⟩
    · exact ⟨o1, a1, fun v q => by rw [d1] at q; cases q⟩
    · exact ⟨o2, a2, fun v q => by rw [d2] at q; cases q⟩
  keep := fun i g g' ⟨hz, hTI, ⟨x, y, hTO⟩, h1, h2⟩ k => ⟨k zz (by simp) _ hz, k TI (by simp) _ hTI, ⟨x, y, k TO (by simp) _ hTO⟩, R1.kst h1 fun o z => k i1 (by simp) o z, R2.kst h2 fun o z => k i2 (by simp) o z⟩
  item := by
    intro X hP hw hK hc i pins s σ H E I hf ⟨hz, hTI, ⟨x0, y0, hTO⟩, h1, h2⟩ ⟨xs, ys, x, y, hqx, hqy, hx, hy⟩
    obtain ⟨its, rv, c1⟩ := G1.get hP hw hK I hqx
    obtain ⟨its2, rv2, c2⟩ := G2.get hP hw hK I hqy
    subst hP hw hK
    obtain ⟨u, hu, ru⟩ := rv.get hx
    obtain ⟨u2, hu2, ru2⟩ := rv2.get hy
    have lz : zz < s.heap.objs.size := Heap.lt_size hz
    have ty : s.TypeIs (.ref zz) "zip" := ⟨_, hz, rfl⟩
    unfold pyNext
    refine wpAny_bind (wpAny_attempt (wpAny_callSpecial?_slot (name := Str.ofString "__next__") ty F.slot_zip_next (wpAny_call_entry F.slot_zip_next ty F.entry_zip_next
      (zip_up (Q := fun v s' => wpAny _ _ (pure (some v)) _ _ s') R1 R2 D hz hTI hTO h1 h2 c1 c2 (x := u) (y := u2) (by simpa using hu) (by simpa using hu2) fun g' z' o' n1 n2 hT hsz hk => wpAny_pure ?_) (F.args_zip_next_1 _))))
    refine ⟨_, rfl, wpAny_letOwnedTupleGo_zip (s := { s with heap := g' }) z' fun g2 z2 sb => ?_⟩
    have hT2 : g2.get? s.heap.objs.size = some { cls := .type "tuple", data := .seq #[u, u2] } := same_at sb (Nat.ne_of_gt lz) _ hT
    have new : ObjOk X.prog X.w (upd H s.heap.objs.size (.tup [x, y])) g2 s.heap.objs.size (.tup [x, y]) := ⟨by show 2 ≤ sizeLine; decide, [u, u2], .cons ru (.cons ru2 .nil), ⟨_, hT2, rfl, _, rfl⟩⟩
    have I1 : Inv X pins σ (upd H s.heap.objs.size (.tup [x, y])) { s with heap := g2 } :=
      I.turnedNew (t' := s.toks) (ch := [zz, TI, TO, i1, i2]) (fun c o hc z => same_at sb (fun y => hc (by simp [y])) _ (hk c o (fun y => hc (by simp [y])) (fun y => hc (by simp [y])) (fun y => hc (by simp [y])) (fun y => hc (by simp [y])) z)) hf (Nat.le_refl _) new
    refine ⟨.ref s.heap.objs.size, _, I1, rfl, ⟨_, x, y, rfl, I.hok.fresh (Nat.le_refl _), rfl, fun l hl => by rw [G1.inj rfl rfl rfl I hl hqx]; exact hx, fun l hl => by rw [G2.inj rfl rfl rfl I hl hqy]; exact hy⟩,
      ⟨z2, same_at sb D.TIz _ (hk _ _ D.TIz D.TITO D.TIi1 D.TIi2 hTI), ⟨u, u2, same_at sb D.TOz _ o'⟩, R1.kst n1 fun o z => same_at sb D.i1z _ z, R2.kst n2 fun o z => same_at sb D.i2z _ z⟩, fun c hc => ?_⟩
    have lt : c < s.heap.objs.size := by
      obtain ⟨o1, v1, a1, d1⟩ := R1.obj h1
      obtain ⟨o2, v2, a2, d2⟩ := R2.obj h2
      have hc' : c = zz ∨ c = TI ∨ c = TO ∨ c = i1 ∨ c = i2 := by simpa using hc
      rcases hc' with z | z | z | z | z <;> rw [z]
      · exact lz
      · exact Heap.lt_size hTI
      · exact Heap.lt_size hTO
      · exact Heap.lt_size a1
      · exact Heap.lt_size a2
    rw [upd_ne (Nat.ne_of_lt lt)]
    exact (hf c hc).1
  done := by
    intro X hP hw hK hc i pins s σ H E I hf ⟨hz, hTI, ⟨x0, y0, hTO⟩, h1, h2⟩ ⟨xs, ys, hqx, hqy, hend⟩
    obtain ⟨its, rv, c1⟩ := G1.get hP hw hK I hqx
    obtain ⟨its2, rv2, c2⟩ := G2.get hP hw hK I hqy
    subst hP hw hK
    have m1 := rv.length
    have m2 := rv2.length
    have he : its.toArray[i]? = none ∨ its2.toArray[i]? = none := hend.imp (fun q => by simp; omega) fun q => by simp; omega
    have ty : s.TypeIs (.ref zz) "zip" := ⟨_, hz, rfl⟩
    unfold pyNext
    refine wpAny_bind (wpAny_attempt (wpAny_callSpecial?_slot (name := Str.ofString "__next__") ty F.slot_zip_next (wpAny_call_entry F.slot_zip_next ty F.entry_zip_next
      (zip_out (A := X.A.in1) R1 R2 D (show X.A.in1.handled = none from I.ok.hd hc) hz hTI hTO h1 h2 c1 c2 he fun g' e hk ⟨o, ho, hcl⟩ => ?_) (F.args_zip_next_1 _))))
    refine wpAny_bind (wpAny_isInstance (T := "StopIteration") (b := true) ⟨o, ho, hcl⟩ isSubtype_stop (wpAny_pure ⟨rfl, ?_⟩))
    exact I.turnedL (t' := s.toks) (ch := [zz, TI, TO, i1, i2]) (fun c o hb z => hk c o (fun q => hb (by simp [q])) (fun q => hb (by simp [q])) (fun q => hb (by simp [q])) (fun q => hb (by simp [q])) z) hf
  self := fun A i s Q E st h => wpAny_pyIter_zip st.1 h
/-! ### the calls: zip of a list and a tuple; enumerate from a number on, of a list, of a tuple -/
abbrev zlt (h : Heap) (l1 l2 : Addr) : Heap := ((((h.push { cls := .type "list_iterator", data := .fields #[.ref l1, .int 0 0] }).push { cls := .type "tuple_iterator", data := .fields #[.ref l2, .int 0 0] }).push { cls := .type "tuple", data := .seq #[.ref h.objs.size, .ref (h.push { cls := .type "list_iterator", data := .fields #[.ref l1, .int 0 0] }).objs.size] }).push { cls := .type "tuple", data := .seq #[.none, .none] })
abbrev zlt2 (h : Heap) (l1 l2 : Addr) : Heap := (h.push { cls := .type "list_iterator", data := .fields #[.ref l1, .int 0 0] }).push { cls := .type "tuple_iterator", data := .fields #[.ref l2, .int 0 0] }
abbrev zlt3 (h : Heap) (l1 l2 : Addr) : Heap := (zlt2 h l1 l2).push { cls := .type "tuple", data := .seq #[.ref h.objs.size, .ref (h.push { cls := .type "list_iterator", data := .fields #[.ref l1, .int 0 0] }).objs.size] }
abbrev zlt5 (h : Heap) (l1 l2 : Addr) : Heap := (zlt h l1 l2).push { cls := .type "zip", data := .fields #[.none, .bool false, .bool false, .ref (zlt2 h l1 l2).objs.size, .ref (zlt3 h l1 l2).objs.size] }
theorem meets_zlt (l1 l2 : Addr) (xs ys : Array Value) : Meets (Builtin.«zip.__new__» ⟨[.type "zip", .ref l1, .ref l2], []⟩) (fun _ R s => s.heap.IsList l1 xs ∧ s.heap.IsTuple l2 ys ∧ R (.ok (.ret (.ref (zlt s.heap l1 l2).objs.size))) { s with heap := zlt5 s.heap l1 l2 }) :=
  .of_wp fun prog w A R s h => by
    obtain ⟨hp, g, d, tk, os⟩ := s
    obtain ⟨a1, a2, k⟩ := h
    have sub_ := sub_zip
    have L1 : Heap.IsList (Shared.heap ⟨hp, g, d, tk, os⟩) l1 xs := a1
    have L2 : Heap.IsTuple (Shared.heap ⟨hp.push { cls := .type "list_iterator", data := .fields #[.ref l1, .int 0 0] }, g, d, tk, os⟩) l2 ys := Heap.IsTuple.push a2 _
    wp_walk using wpAny_pyIter_list L1, wpAny_pyIter_tuple L2
    exact ⟨_, rfl, k⟩
section
variable {P : Program} {w : World} {A : Around} {E : Value → Shared → Prop} {s : Shared}
theorem call_zlt {l1 l2 : Addr} {xs ys : Array Value} {Q : Value → Shared → Prop} (a1 : s.heap.IsList l1 xs) (a2 : s.heap.IsTuple l2 ys)
    (h : ∀ g', IsZip g' (s.heap.objs.size + 4) (s.heap.objs.size + 2) (s.heap.objs.size + 3) .none → IsPair g' (s.heap.objs.size + 2) (.ref s.heap.objs.size) (.ref (s.heap.objs.size + 1)) → IsPair g' (s.heap.objs.size + 3) .none .none →
      g'.IsListIter s.heap.objs.size l1 0 → g'.IsTupleIter (s.heap.objs.size + 1) l2 0 → (∀ c o, s.heap.get? c = some o → g'.get? c = some o) → Q (.ref (s.heap.objs.size + 4)) { s with heap := g' }) :
    wpAny (model P w) A (call (.type "zip") [.ref l1, .ref l2]) Q E s := by
  refine callType_new F.called_zip (by decide) (F.typeCall_zip_2 _ _) (F.newCall_zip_2 _ _) (fun obj => F.args_object_init_3 obj _ _) F.entry_zip_new (meets_zlt l1 l2 xs ys) ⟨a1, a2, ?_⟩
  have n1 : (s.heap.push { cls := .type "list_iterator", data := .fields #[.ref l1, .int 0 0] }).objs.size = s.heap.objs.size + 1 := Heap.size_push ..
  have n2 : (zlt2 s.heap l1 l2).objs.size = s.heap.objs.size + 2 := by rw [Heap.size_push, n1]
  have n3 : (zlt3 s.heap l1 l2).objs.size = s.heap.objs.size + 3 := by rw [Heap.size_push, n2]
  have n4 : (zlt s.heap l1 l2).objs.size = s.heap.objs.size + 4 := by rw [Heap.size_push, Heap.size_push, n2]
  have b5 : (zlt5 s.heap l1 l2).get? (zlt s.heap l1 l2).objs.size = some _ := Heap.get?_push_size _ rfl
  have b4 : (zlt5 s.heap l1 l2).get? (zlt3 s.heap l1 l2).objs.size = some _ := Heap.get?_push_of_some _ (Heap.get?_push_size _ rfl)
  have b3 : (zlt5 s.heap l1 l2).get? (zlt2 s.heap l1 l2).objs.size = some _ := Heap.get?_push_of_some _ (Heap.get?_push_of_some _ (Heap.get?_push_size _ rfl))
  have b2 : (zlt5 s.heap l1 l2).get? (s.heap.push { cls := .type "list_iterator", data := .fields #[.ref l1, .int 0 0] }).objs.size = some _ := Heap.get?_push_of_some _ (Heap.get?_push_of_some _ (Heap.get?_push_of_some _ (Heap.get?_push_size _ rfl)))
  have b1 : (zlt5 s.heap l1 l2).get? s.heap.objs.size = some _ := Heap.get?_push_of_some _ (Heap.get?_push_of_some _ (Heap.get?_push_of_some _ (Heap.get?_push_of_some _ (Heap.get?_push_size _ rfl))))
  show _ ∧ _
  rw [n2, n3, n4] at b5
  rw [n1, n2] at b3
  rw [n3] at b4
  rw [n1] at b2
  rw [n4]
  exact ⟨⟨_, b5, rfl⟩, h _ b5 b3 b4 ⟨_, b1, rfl, rfl⟩ ⟨_, b2, rfl, rfl⟩ fun c o x => Heap.get?_push_of_some _ (Heap.get?_push_of_some _ (Heap.get?_push_of_some _ (Heap.get?_push_of_some _ (Heap.get?_push_of_some _ x))))⟩
end
def iZipLT (K : PySem.W.Frag) (ta : TA) : TI := fun σ H R => ta σ H fun vs H1 => ∃ a b xs ys, vs = [.ref a, .ref b] ∧ SqL K H1 a xs ∧ SqT K H1 b ys ∧ R (ItZ (fun H xs => SqL K H a xs) (fun H ys => SqT K H b ys)) H1
theorem pi_zipLT {X : Cx} {e e2 : Expr} {ta : TA} {p pos tpos : Pos} {elts : List Expr} {kk : Nat} (hg : Gl X "zip") (hm : X.mg "zip" = none) (ha : PA X [e, e2] ta)
    (hs : starEach [e, e2] X.env = (false, eval e X.env) :: starEach [e2] X.env := by rfl) (hpl : (backTo pos (starEach [e2] X.env)).any (·.1) = false := by rfl) :
    PI X (.Tuple elts kk tpos) (.Call (.Name "zip" p) [e, e2] [] pos) (iZipLT X.K ta) := by
  refine ⟨fun pins s σ H R I h => Call_ (ld_blt I hg hm PyProof.Rows.boot_zip (PyProof.Rows.callWith_type1 (thn (ha.run pos pins s σ H _ I h) fun us s1 ⟨vs, H1, I1, r1, a, b, xs, ys, ex, hx, hy, q⟩ => ?_) hs hpl))⟩
  subst ex
  cases r1 with
  | cons r rr =>
    cases rr with
    | cons r' rr =>
      cases rr
      cases r
      cases r'
      obtain ⟨its, rv, p1, _⟩ := I1.list hx
      obtain ⟨its2, rv2, p2, _⟩ := I1.tuple hy
      obtain ⟨o2, ho2, _⟩ := id p2
      refine call_zlt p1.isList (show s1.heap.IsTuple b its2.toArray from p2) fun g' hz hTI hTO h1 h2 hk => wpAny_pyIter_zip hz ?_
      have I2 : Inv X pins σ H1 { s1 with heap := g' } := I1.kept (t' := s1.toks) hk
      refine ⟨s1.heap.objs.size + 4, [s1.heap.objs.size + 4, s1.heap.objs.size + 2, s1.heap.objs.size + 3, s1.heap.objs.size, s1.heap.objs.size + 1], _, _, H1, rfl, I2,
        turn_Z src_list src_tup sqs_list sqs_tup (PySem.W.ktu_apart s1.heap.objs.size a b p1.lt (Heap.lt_size ho2)), ⟨hz, hTI, ⟨_, _, hTO⟩, h1, h2⟩, fun c hc => ?_, q⟩
      have le : s1.heap.objs.size ≤ c := by
        have hc' : c = s1.heap.objs.size + 4 ∨ c = s1.heap.objs.size + 2 ∨ c = s1.heap.objs.size + 3 ∨ c = s1.heap.objs.size ∨ c = s1.heap.objs.size + 1 := by simpa using hc
        rcases hc' with z | z | z | z | z <;> rw [z] <;> first | exact Nat.le_add_right _ _ | exact Nat.le_refl _
      exact I1.fpOk le (I1.hok.fresh le)
/-- a call of a built-in class with keywords -/
theorem call_cls_kw {M : Model} {A : Around} {E : Value → Shared → Prop} {s : Shared} {env : Env} {pos : Pos} {cls : String} {e : Expr} {more : List Expr} {ks : List Keyword} {Q : Value → Shared → Prop}
    (h : wpAny M A (spliced (backTo pos (starEach (e :: more) env))) (fun us s1 => wpAny M A (evalAll ((backToKw pos (keywordEach ks env)).map (·.2)))
      (fun zs s2 => wpAny M A (call (.type cls) us (((backToKw pos (keywordEach ks env)).filterMap (·.1)).zip zs)) Q E s2) E s1) E s)
    (fst_ : backTo pos (starEach (e :: more) env) = (false, eval e env) :: backTo pos (starEach more env) := by rfl)
    (noStar : (backTo pos (starEach (e :: more) env)).any (·.1) = false := by rfl) (named : (backToKw pos (keywordEach ks env)).all (·.1.isSome) = true := by rfl) (noDbl : (backToKw pos (keywordEach ks env)).any (·.1.isNone) = false := by rfl) :
    wpAny M A (callWith pos (.type cls) [] (backTo pos (starEach (e :: more) env)) (backToKw pos (keywordEach ks env))) Q E s := by
  have args_ : wpAny M A (evalArgs (.type cls) true (backTo pos (starEach (e :: more) env)) (backToKw pos (keywordEach ks env))) (fun a s1 => wpAny M A (call (.type cls) ([] ++ a.pos) a.kw) Q E s1) E s := by
    rw [fst_] at h ⊢
    exact evalArgs_kwB named h
  unfold callWith
  refine wpAny_bind (wpAny_holding (wpAny_mono args_ (fun a s1 q => wpAny_bind (wpAny_standAt ?_)) fun _ _ y => y)); simp only [noStar, noDbl, Bool.or_false]
  refine wpAny_bind (wpAny_pure (wpAny_bind (wpAny_mono q (fun r s2 hr => wpAny_bind (wpAny_holding (wpAny_point (wpAny_pure hr)))) fun _ _ y => y)))
def IteS (K : PySem.W.Frag) (a : Addr) (lo : Int) : It := ItE (fun H xs => SqL K H a xs) lo
def iEnumS (K : PySem.W.Frag) (ta : TA) : TI := fun σ H R => ta σ H fun vs H1 => ∃ a xs, vs = [.ref a] ∧ SqL K H1 a xs ∧ R (IteS K a 1) H1
theorem pi_enumS {X : Cx} {e : Expr} {ta : TA} {p pos tpos kp cp : Pos} {kc} {elts : List Expr} {kk : Nat} (hg : Gl X "enumerate") (hm : X.mg "enumerate" = none) (ha : PA X [e] ta) (hs : starEach [e] X.env = [(false, eval e X.env)] := by rfl) :
    PI X (.Tuple elts kk tpos) (.Call (.Name "enumerate" p) [e] [⟨some "start", .Constant (.int 1) kc cp, kp⟩] pos) (iEnumS X.K ta) := by
  refine ⟨fun pins s σ H R I h => ?_⟩
  show wpAny _ _ (eval (.Name "enumerate" p) X.env >>= _) _ _ _
  refine wpAny_bind (ld_blt I hg hm PyProof.Rows.boot_enumerate (call_cls_kw (thn (ha.run pos pins s σ H _ I h) fun us s1 ⟨vs, H1, I1, r1, a, xs, ex, hx, q⟩ => ?_) (by rw [hs]; rfl) (by rw [hs]; rfl)))
  subst ex
  cases r1 with
  | cons r rr =>
    cases rr
    cases r
    refine kws_cons (wpAny_Constant_int (kws_nil ?_))
    have J1 := I1.tok (s1.toks + 1)
    obtain ⟨its, rv, p1, _⟩ := I1.list hx
    show wpAny _ _ (call (.type "enumerate") [.ref a] [(Str.ofString "start", .int 1 s1.toks)]) _ _ _
    refine enum_begins_start (begins_list a its.toArray) p1.isList (by decide) (by decide) fun g' he hit hsz hk => wpAny_pyIter_enum he ?_
    have I2 : Inv X pins σ H1 { s1 with heap := g', toks := s1.toks + 1 } := I1.kept hk
    refine ⟨s1.heap.objs.size + 1, [s1.heap.objs.size + 1, s1.heap.objs.size], _, _, H1, rfl, I2, turn_E src_list sqs_list (Nat.succ_ne_self _), ⟨⟨_, he⟩, ⟨_, hit, rfl, rfl⟩⟩, fun c hc => ?_, q⟩
    have le : s1.heap.objs.size ≤ c := by
      have hc' : c = s1.heap.objs.size + 1 ∨ c = s1.heap.objs.size := by simpa using hc
      rcases hc' with z | z <;> rw [z] <;> first | exact Nat.le_add_right _ _ | exact Nat.le_refl _
    exact I1.fpOk le (I1.hok.fresh le)
end Td
set_option maxHeartbeats 4000000
namespace Td
open PySem PySem.Spec PyProof.Rows L2
/-! ### the number of texts in set(list of different texts) -/
abbrev emptySet (led : Bool) : Obj := { cls := .type "set", dict := none, data := .set #[] 0 (.fresh 0 0 led) }
section
variable {P : Program} {w : World} {A : Around}
theorem fill_texts {R : Result → Shared → Prop} {j a : Addr} {fp wr : List Addr} {G : Array GenState → Array GenState → Prop} {n : Nat} {Pv : Nat → Value → Prop} {St : Nat → Shared → Prop} (W : WalksS P w A.in1 j fp wr G n Pv St) (na : a ∉ fp)
    (ss : List Str) (nd : ss.Nodup) (ln : ss.length = n) (few : n + 1 < scanBound) (rd : ∀ i v, Pv i v → ∃ x t, ss[i]? = some x ∧ v = .str x t) : ∀ (d i : Nat) (s : Shared), n - i = d → i ≤ n → St i s →
      s.heap.SetOf (PySem.strKind P w) a (fun k => decide (k ∈ ss.take i)) i → (∀ s', Moved (a :: wr) G s s' → s'.heap.SetOf (PySem.strKind P w) a (fun k => decide (k ∈ ss)) n → R (.ok (.ret .none)) s') →
      codeAny (model P w) A (.builtin "set.update.loop" ⟨[.ref a, .ref j], []⟩) R s := by
  have naw : a ∉ wr := fun q => na (W.sub _ q)
  have up : ∀ c ∈ wr, c ∈ a :: wr := fun c q => List.mem_cons_of_mem _ q
  have keep : ∀ {s s' : Shared} {S : Str → Bool} {m : Nat}, Moved wr G s s' → s.heap.SetOf (PySem.strKind P w) a S m → s'.heap.SetOf (PySem.strKind P w) a S m := fun mv ⟨o, es, ep, t, ho, r⟩ => ⟨o, es, ep, t, mv.heap a o naw ho, r⟩
  intro d
  induction d with
  | zero =>
    intro i s hd hi st hs q
    have e : i = n := by omega
    subst e
    refine codeAny_builtin PyProof.Rows.F.entry_set_update_loop ?_; rw [Around.under_plainId PyProof.Rows.F.plain_set_update_loop _]
    show wpAny _ A.in1 (pyNext (.ref j) >>= _) _ _ s; refine wpAny_bind (W.done s _ _ st fun s' mv => ?_)
    show wpAny _ A.in1 (ret Value.none) _ _ s'; refine wpAny_pure (q s' (mv.mono up) ?_)
    rw [List.take_of_length_le (Nat.le_of_eq ln)] at hs
    exact keep mv hs
  | succ d ih =>
    intro i s hd hi st hs q
    have lt : i < n := by omega
    refine codeAny_builtin PyProof.Rows.F.entry_set_update_loop ?_; rw [Around.under_plainId PyProof.Rows.F.plain_set_update_loop _]
    show wpAny _ A.in1 (pyNext (.ref j) >>= _) _ _ s; refine wpAny_bind (W.item i s _ _ lt st fun v s' hv st' mv => ?_)
    obtain ⟨x, t, hx, rfl⟩ := rd i v hv
    have new : x ∉ ss.take i := fun hm => by
      obtain ⟨m, hm1⟩ := List.mem_iff_getElem?.mp hm
      rw [List.getElem?_take] at hm1
      split at hm1
      · rename_i hmi
        obtain ⟨l1, e1⟩ := List.getElem?_eq_some_iff.mp hm1
        obtain ⟨l2, e2⟩ := List.getElem?_eq_some_iff.mp hx
        exact List.pairwise_iff_getElem.mp nd m i l1 l2 hmi (e1.trans e2.symm)
      · cases hm1
    show wpAny _ A.in1 (holding [Value.str x t] (setAdd a (.str x t)) >>= _) _ _ s'
    refine wpAny_bind (wpAny_holding ?_); unfold setAdd
    have hs1 : s'.heap.SetOf (PySem.strKind P w) a (fun k => decide (k ∈ ss.take i)) i := keep mv hs
    refine wpAny_holding (wpAny_bind ((PySem.strKind P w).pyHash (k := x) (strKind_is _ _ _ _) ?_))
    refine wpAny_setAddHashed_of (knd := PySem.strKind P w) (s := { s' with toks := s'.toks + 1 }) (strKind_is _ _ _ _) rfl hs1 (by omega) fun g sb h2 => ?_
    have h3 : g.SetOf (PySem.strKind P w) a (fun k => decide (k ∈ ss.take (i + 1))) (i + 1) := SetOf_congr h2 (fun k => by rw [List.take_add_one, hx]; simp [List.mem_append]) (by rw [decide_eq_false new]; rfl)
    have off : ∀ c, c ≠ a → ∀ o, s'.heap.get? c = some o → g.get? c = some o := fun c z o e => (sb.2 c z).trans e
    refine wpAny_pure ⟨plainId_quiet PyProof.Rows.F.plain_set_update_loop _, ih (i + 1) _ (by omega) lt (W.frame _ s' _ _ st' (Nat.le_succ _) fun c hc o e => off c (fun z => na (z ▸ hc)) o e) h3 fun s2 mv2 h4 => q s2 ?_ h4⟩
    exact Moved.trans W.gtrans ((mv.mono up).then_heap (Nat.le_succ _) fun c o hc e => off c (fun z => hc (z ▸ List.mem_cons_self ..)) o e) mv2
end
section
variable {P : Program} {w : World} {A : Around} {E : Value → Shared → Prop} {s : Shared}
def Filled (P : Program) (w : World) (ss : List Str) (s s2 : Shared) : Prop :=
  ∃ g tk, s2 = { s with heap := g, toks := tk } ∧ g.SetOf (PySem.strKind P w) s.heap.objs.size (fun k => decide (k ∈ ss)) ss.length ∧ ∀ c o, c < s.heap.objs.size → s.heap.get? c = some o → g.get? c = some o
set_option maxHeartbeats 8000000 in
theorem call_set_texts {l : Addr} {its : Array Value} {ss : List Str} {Q : Value → Shared → Prop} (hh : A.handled = none) (hl : s.heap.IsList l its) (ln : ss.length = its.size) (nd : ss.Nodup) (few : its.size + 1 < scanBound)
    (rd : ∀ (i : Nat) (v : Value), its[i]? = some v → ∃ x t, ss[i]? = some x ∧ v = Value.str x t) (q : ∀ s2, Filled P w ss s s2 → Q (.ref s.heap.objs.size) s2) : wpAny (model P w) A (call (.type "set") [.ref l]) Q E s := by
  obtain ⟨k0, k1, ro⟩ := PySem.F.called_set.mro
  have f1 := PySem.F.called_set.made; have f2 := PySem.F.called_set.sub; have f3 := PySem.F.called_set.notType
  have f4 := PySem.F.called_set.canCreate; have f5 := PySem.F.typeCall_set_1 (.ref l)
  refine wpAny_call (codeAny_of_tree ?_); show wpAny _ _ (callAny (.type "set") _) _ _ _
  refine wpAny_pure ⟨Code.quiet_builtin _ (by decide +kernel), codeAny_builtin PySem.F.entry_type_call ?_⟩; rw [Around.under_plain (weight_type_call_type "set" [.ref l] []) rfl]
  repeat (any_goals (first | assumption | wp_step))
  refine codeAny_mono (code_set_new_1 (.ref l) (E := E) (Q₁ := fun v s1 => ∃ led : Bool, v = .ref s.heap.objs.size ∧ s1 = { s with heap := s.heap.push (emptySet led) }) fun led => ⟨led, rfl, rfl⟩) fun r s1 hr => ?_
  cases r with
  | error e => exact hr
  | ok fl =>
    cases fl with
    | ret v =>
      obtain ⟨led, rfl, rfl⟩ := hr
      have at1 : (s.heap.push (emptySet led)).get? s.heap.objs.size = some (emptySet led) := Heap.get?_push_size _ rfl
      have ty : Shared.TypeIs { s with heap := s.heap.push (emptySet led) } (.ref s.heap.objs.size) "set" := ⟨_, at1, rfl⟩
      have f6 := PySem.F.called_set.init.lookup; have f7 := PySem.F.called_set.init.bind (.ref s.heap.objs.size)
      repeat (any_goals (first | assumption | wp_step))
      refine codeAny_mono (codeAny_call_builtin (R := wants (fun r s2 => r = .none ∧ Filled P w ss s s2) E) PySem.F.called_set.init.plain PySem.F.entry_set_init (check_set_init_1 ty ?_)) fun r2 s2 hr2 => ?_
      · obtain ⟨⟨oc, od, odt, osl⟩, hol, hcl, nl, hdl⟩ := hl
        simp only at hcl hdl
        subst hcl; subst hdl
        have at2 : (s.heap.push (emptySet led)).get? l = some { cls := .type "list", dict := od, data := .seq its nl, slots := osl } := Heap.get?_push_of_some _ hol
        have g1 := PySem.F.sub_list_set; have g2 := PySem.F.sub_list_frozenset
        have g3 : (Value.type "list" == Value.type "dict") = false := by decide
        have li : (s.heap.push (emptySet led)).IsList l its := ⟨_, at2, rfl, nl, rfl⟩
        unfold Builtin.«set.__init__» noKeywords Builtin.Frozenset.updateFrom
        generalize keepIt : pyIter = itr
        wp_walk
        subst keepIt
        refine wpAny_pyIter_list li (wpAny_bind (wpAny_runValue ?_))
        have lt : l < s.heap.objs.size := Heap.lt_size hol
        have z1 : (s.heap.push (emptySet led)).objs.size = s.heap.objs.size + 1 := Heap.size_push ..
        have n1 : l ≠ (s.heap.push (emptySet led)).objs.size := by rw [z1]; exact Nat.ne_of_lt (Nat.lt_succ_of_lt lt)
        have n2 : s.heap.objs.size ∉ [(s.heap.push (emptySet led)).objs.size, l] := by
          rw [z1]; intro hm; rcases List.mem_cons.mp hm with z | z
          · exact Nat.ne_of_lt (Nat.lt_succ_self _) z
          · exact Nat.ne_of_gt lt (List.mem_singleton.mp z)
        have hd3 : A.in1.in1.in1.handled = none := by simp [hh]
        refine fill_texts ((Walks.list hd3 _ l n1 its).toS) n2 ss nd ln few rd (its.size - 0) 0 _ (by omega) (Nat.zero_le _) ⟨⟨_, Heap.get?_push_size _ rfl, rfl, rfl⟩, li.push _⟩ ?start ?stop
        case start => exact SetOf_congr ((setObjOf_fresh (knd := PySem.strKind P w) led).setOf (Heap.get?_push_of_some _ at1) (by unfold scanBound; omega)) (fun _ => rfl) rfl
        case stop =>
          rintro ⟨g, gn, dr, tk, os⟩ mv hs
          have e1 : gn = s.gens := mv.gens
          have e2 : dr = s.drawn := mv.drawn
          have e3 : os = s.os := mv.os
          subst e1; subst e2; subst e3
          refine wpAny_pure ?_; show wpAny _ _ (ret Value.none) _ _ _
          rw [← ln] at hs
          refine wpAny_pure ⟨rfl, g, tk, rfl, hs, fun c o hc e => mv.heap c o (fun hm => ?_) (Heap.get?_push_of_some _ (Heap.get?_push_of_some _ e))⟩
          rcases List.mem_cons.mp hm with z | z
          · exact Nat.ne_of_lt hc z
          · rw [List.mem_singleton.mp z, z1] at hc
            exact absurd hc (by omega)
      · cases r2 with
        | error e => exact hr2
        | ok fl2 =>
          cases fl2 with
          | ret r =>
            obtain ⟨rfl, hF⟩ := hr2
            repeat (any_goals (first | assumption | wp_step))
            exact q _ hF
          | _ => exact hr2.elim
    | _ => exact hr.elim
end
theorem txt_vals : ∀ {ss : List Str} {us : List Value}, Vals (ss.map V.str) us → ∀ (i : Nat) (v : Value), us[i]? = some v → ∃ x t, ss[i]? = some x ∧ v = Value.str x t
  | [], _, .nil, i, v, h => by simp at h
  | x :: ss, _, .cons r rr, 0, v, h => by
    obtain ⟨t, rfl⟩ := r
    simp at h
    exact ⟨x, t, rfl, h.symm⟩
  | x :: ss, _, .cons r rr, i + 1, v, h => txt_vals rr i v (by simpa using h)
def tLenSetS (K : PySem.W.Frag) (ta : TE) : TE := fun σ H Q => ta σ H fun x H1 => ∃ (l : Addr) (ss : List Str), x = .ref l ∧ SqL K H1 l (ss.map V.str) ∧ ss.length ≤ 4000 ∧ ss.Nodup ∧ Q (.int (ss.length : Nat)) H1
theorem pe_lenSetS {X : Cx} {a : Expr} {ta : TE} {p p2 q pos : Pos} (hg : Gl X "len") (hm : X.mg "len" = none) (hg2 : Gl X "set") (hm2 : X.mg "set" = none) (ha : PE X a ta) (hc : X.calm = true := by rfl)
    (na : starEach [a] X.env = (false, eval a X.env) :: starEach [] X.env := by rfl) : PE X (.Call (.Name "len" p) [.Call (.Name "set" p2) [a] [] q] [] pos) (tLenSetS X.K ta) := by
  refine ⟨fun pins s σ H Q I h => Call_ (ld_blt I hg hm boot_len (PyProof.Rows.callWith_builtin1 (PyProof.Rows.args_cons (Call_ (ld_blt I hg2 hm2 boot_set ?_)) rfl) rfl rfl))⟩
  refine PyProof.Rows.callWith_type1 (PyProof.Rows.args_cons (thn (ha.run pins s σ H _ I h) fun v s1 ⟨x, H1, I1, r1, l, ss, ex, hq, hl, nd, q1⟩ => PyProof.Rows.args_nil ?_) na) na rfl
  subst ex
  cases r1
  obtain ⟨its, r, pl, hz⟩ := I1.list hq
  have ln : ss.length = its.toArray.size := by rw [List.size_toArray, ← r.length, List.length_map]
  refine call_set_texts (I1.ok.hd hc) pl.isList ln nd (by rw [← ln]; unfold scanBound; omega) (fun i v e => txt_vals r i v (by simpa using e)) fun s2 ⟨g, tk, e2, hS, hk⟩ => PyProof.Rows.args_nil ?_
  subst e2
  obtain ⟨o, es, ep, t, ho, hex, hd, _, _, _, hf, hn⟩ := hS
  have I2 : Inv X pins σ H1 { s1 with heap := g, toks := tk } := I1.kept fun c o e => hk c o (Heap.lt_size e) e
  exact call_len_set ho hex hd hf (by rw [hn]; omega) ⟨.int ss.length, H1, I2.tok _, ⟨_, by rw [hn]⟩, q1⟩
end Td
set_option maxHeartbeats 4000000
namespace Td
open PySem PySem.Spec PyProof.Rows L2
/-! ### small rules -/
theorem pe_gint {X : Cx} {x : Str} {i : Int} {pos : Pos} (hg : Gl X x) (h : ∃ t, X.mg x = some (.int i t)) (hd : (x == ("__debug__" : Str)) = false := by decide) : PE X (.Name x pos) (tC (.int i)) := by
  obtain ⟨t, ht⟩ := h
  exact pe_glob hg ht ⟨t, rfl⟩ hd
theorem cut_from {xs : List V} {k : Nat} : cutV xs (some (k : Int)) none = xs.drop k := by
  unfold cutV
  rw [HT.sIx_none, HT.sIx_nat]
  by_cases g : k ≤ xs.length
  · rw [Nat.min_eq_left g]
    exact List.take_of_length_le (by rw [List.length_drop]; exact Nat.le_refl _)
  · rw [Nat.min_eq_right (by omega), List.drop_eq_nil_of_le (Nat.le_refl _), List.drop_eq_nil_of_le (by omega), List.take_nil]
theorem neT {x : Str} : (!decide (V.str x = V.str x)) = false := by rw [decide_eq_true rfl]; rfl
theorem cut_from1 {xs : List V} : cutV xs (some (1 : Int)) none = xs.drop 1 := cut_from (k := 1)
end Td
set_option maxHeartbeats 4000000
namespace Td
open PySem PySem.Spec PyProof.Rows L2
/-! ### halls and states as data -/
def sD (ss : List Str) : PyData := .tuple (ss.map .str)
def hsD (ss : List Str) (rows : List (List Str)) : PyData := .tuple [sD ss, .tuple (rows.map sD)]
theorem eqvAll_map {α : Type} [DecidableEq α] (f : α → PyData) (h : ∀ a b, PyData.eqv (f a) (f b) = decide (a = b)) : ∀ l m : List α, PyData.eqvAll (l.map f) (m.map f) = decide (l = m)
  | [], [] => by simp [PyData.eqvAll]
  | [], _ :: _ => by simp [PyData.eqvAll]
  | _ :: _, [] => by simp [PyData.eqvAll]
  | a :: l, b :: m => by
    rw [List.map_cons, List.map_cons, PyData.eqvAll, h, eqvAll_map f h l m]
    by_cases e : a = b
    · subst e
      by_cases e2 : l = m
      · subst e2; simp
      · simp [e2]
    · simp [e]
theorem eqv_str (a b : Str) : PyData.eqv (.str a) (.str b) = decide (a = b) := by
  rw [PyData.eqv]
  by_cases e : a = b
  · subst e; simp
  · simp [e]
theorem eqv_sD (a b : List Str) : PyData.eqv (sD a) (sD b) = decide (a = b) := by
  unfold sD
  rw [PyData.eqv]
  exact eqvAll_map _ eqv_str a b
theorem eqv_hsD (ss tt : List Str) (rows cols : List (List Str)) : PyData.eqv (hsD ss rows) (hsD tt cols) = decide (ss = tt ∧ rows = cols) := by
  unfold hsD
  rw [PyData.eqv, PyData.eqvAll, PyData.eqvAll, PyData.eqvAll, eqv_sD, PyData.eqv, eqvAll_map _ eqv_sD]
  by_cases e : ss = tt
  · by_cases e2 : rows = cols
    · simp [e, e2]
    · simp [e, e2]
  · simp [e]
theorem lay_map {α : Type} (f : α → PyData) : ∀ l : List α, (∀ a ∈ l, (f a).canLay0 = true) → PyData.canLayAll0 (l.map f) = true
  | [], _ => by simp [PyData.canLayAll0]
  | a :: l, h => by
    rw [List.map_cons, PyData.canLayAll0, h a (List.mem_cons_self ..), lay_map f l fun b hb => h b (List.mem_cons_of_mem _ hb)]
    rfl
theorem depth_map {α : Type} (f : α → PyData) (n : Nat) (h : ∀ a, (f a).depth ≤ n) : ∀ l : List α, PyData.depthAll (l.map f) ≤ n
  | [] => by simp [PyData.depthAll]
  | a :: l => by
    have e1 := h a
    have e2 := depth_map f n h l
    rw [List.map_cons, PyData.depthAll]
    omega
theorem strOk_nm {x : Str} (h : Nm x) : PyData.strOk x = true := by
  have e : x.cps.toList.all (fun c => decide (c < 0x110000)) = true := List.all_eq_true.mpr fun c hc => decide_eq_true (by
    have z := h.2.2 c hc
    omega)
  rw [Array.all_toList] at e
  exact e
theorem lay_sD {ss : List Str} (h : ∀ x ∈ ss, Nm x) : (sD ss).canLay0 = true := by
  unfold sD
  rw [PyData.canLay0]
  exact lay_map _ ss fun a ha => by
    rw [PyData.canLay0]
    exact strOk_nm (h a ha)
theorem depth_sD (ss : List Str) : (sD ss).depth ≤ 3 := by
  unfold sD
  have e := depth_map PyData.str 1 (fun a => by simp [PyData.depth]) ss
  rw [PyData.depth]
  omega
theorem shaped_hsD {ss : List Str} {rows : List (List Str)} (h : Bd ss rows) : SeqAt.shaped (hsD ss rows) = true := by
  have a1 := lay_sD h.sn
  have a2 := lay_map sD rows fun r hr => lay_sD (h.rn r hr).2
  have d1 := depth_sD ss
  have d2 := depth_map sD 3 depth_sD rows
  have c : (hsD ss rows).canLay0 = true := by
    unfold hsD
    simp only [PyData.canLay0, PyData.canLayAll0, a1, a2, Bool.and_true]
  have d : (hsD ss rows).depth ≤ 64 := by
    unfold hsD
    simp only [PyData.depth, PyData.depthAll]
    omega
  unfold SeqAt.shaped
  rw [c, decide_eq_true d]
  rfl
/-- at a: such data -/
theorem dp_strs {K : PySem.W.Frag} {H : Hp} : ∀ ss : List Str, DpAll K H (ss.map V.str) (ss.map PyData.str)
  | [] => .nil
  | s :: ss => .cons (.str s) (dp_strs ss)
theorem dp_rows {K : PySem.W.Frag} {H : Hp} : ∀ {as : List Addr} {rows : List (List Str)}, RowsAt H as rows → DpAll K H (as.map V.ref) (rows.map sD)
  | [], [], _ => .nil
  | [], _ :: _, h => by cases h.1
  | _ :: _, [], h => by cases h.1
  | a :: as, r :: rows, h => .cons (.tup (SqT.of (h.2 0 a r rfl rfl)) (dp_strs r)) (dp_rows ⟨Nat.succ.inj h.1, fun i b s e1 e2 => h.2 (i + 1) b s (by rw [List.getElem?_cons_succ]; exact e1) (by rw [List.getElem?_cons_succ]; exact e2)⟩)
theorem HS.dp {K : PySem.W.Frag} {H : Hp} {h : Addr} {ss : List Str} {rows : List (List Str)} (x : HS H h ss rows) : Dp K H (.ref h) (hsD ss rows) := by
  obtain ⟨r, d, h1, h2, as, h3, h4⟩ := x
  exact .tup (SqT.of h1) (.cons (.tup (SqT.of h2) (dp_strs ss)) (.cons (.tup (SqT.of h3) (dp_rows h4)) .nil))
theorem dr_str {H : Hp} {n : Nat} (s : Str) : DR H (n + 1) (.str s) (.str s) := .inl (.inl ⟨s, rfl, rfl⟩)
theorem dr_strs {H : Hp} {n : Nat} {a : Addr} {ss : List Str} (h : H a = some (.tup (ss.map V.str))) (hl : ss.length ≤ 1000) : DR H (n + 2) (.ref a) (sD ss) :=
  .inr ⟨a, _, _, rfl, rfl, h, ⟨by rw [List.length_map, List.length_map], by rw [List.length_map]; exact hl⟩, fun i v e e1 e2 => by
    rw [List.getElem?_map] at e1 e2
    cases z : ss[i]? with
    | none => rw [z] at e1; cases e1
    | some s =>
      rw [z] at e1 e2
      cases e1
      cases e2
      exact dr_str s⟩
theorem HS.dr {H : Hp} {h : Addr} {ss : List Str} {rows : List (List Str)} (x : HS H h ss rows) (b : Bd ss rows) : DR H 4 (.ref h) (hsD ss rows) := by
  obtain ⟨r, d, h1, h2, as, h3, h4⟩ := x
  have s12 := b.s12
  have r12 := b.r12
  refine .inr ⟨h, _, _, rfl, rfl, h1, ⟨rfl, by show 2 ≤ 1000; decide⟩, fun i v e e1 e2 => ?_⟩
  match i, e1, e2 with
  | 0, e1, e2 =>
    cases e1
    cases e2
    exact dr_strs h2 (by omega)
  | 1, e1, e2 =>
    cases e1
    cases e2
    refine .inr ⟨d, _, _, rfl, rfl, h3, ⟨by rw [List.length_map, List.length_map]; exact h4.1, by rw [List.length_map]; omega⟩, fun j v e e1 e2 => ?_⟩
    rw [List.getElem?_map] at e1 e2
    cases z : as[j]? with
    | none => rw [z] at e1; cases e1
    | some a =>
      cases y : rows[j]? with
      | none => rw [y] at e2; cases e2
      | some r' =>
        rw [z] at e1
        rw [y] at e2
        cases e1
        cases e2
        have m := (b.rn r' (List.mem_of_getElem? y)).1
        exact dr_strs (h4.2 j a r' z y) (by omega)
  | i + 2, e1, e2 => cases e1
/-- the states in a list -/
def StsAt (H : Hp) (rooms : List Str) (rows : List (List Str)) (sas : List Addr) : Prop := ∀ (i : Nat) (a : Addr), sas[i]? = some a → ∃ faces places, HS H a faces places ∧ StV rooms rows faces places
theorem StsAt.tu {H H' : Hp} {rooms : List Str} {rows : List (List Str)} {sas : List Addr} (t : Tu H H') (h : StsAt H rooms rows sas) : StsAt H' rooms rows sas := fun i a e => by
  obtain ⟨f, p, h1, h2⟩ := h i a e
  exact ⟨f, p, h1.tu t, h2⟩
def spRight : Sp := fun vs H Q _ => ∃ (h l : Addr) (rooms : List Str) (rows : List (List Str)) (sas : List Addr), vs = [.ref h, .ref l] ∧ HS H h rooms rows ∧ HallV rooms rows ∧ H l = some (.lst (sas.map V.ref)) ∧ StsAt H rooms rows sas ∧ ∀ H', Same H H' → Q (.bl true) H'
def spLaw (K : PySem.W.Frag) : Sp := fun vs H Q _ => ∃ (a : Addr) (ns : List Int), vs = [.ref a] ∧ SqL K H a (ns.map V.int) ∧ ns.length ≤ 63 ∧ ∀ H', Q (.bl true) H'
theorem txt_eq {w1 w2 : Str} {ss tt : List Str} {rows cols : List (List Str)} (n1 : Nm w1) (n2 : Nm w2) (h1 : Bd ss rows) (h2 : Bd tt cols) :
    V.bl (decide (V.str (txtOf (lnOf w1 w2 ss rows)) = V.str (txtOf (lnOf w1 w2 tt cols)))) = V.bl (PyData.eqv (hsD ss rows) (hsD tt cols)) := by
  rw [eqv_hsD]
  refine congrArg V.bl ?_
  by_cases e : ss = tt ∧ rows = cols
  · obtain ⟨rfl, rfl⟩ := e
    rw [decide_eq_true rfl, decide_eq_true ⟨rfl, rfl⟩]
  · rw [decide_eq_false e, decide_eq_false]
    intro z
    injection z with z
    exact e (lnOf_inj (lines_inj (h1.ln n1 n2) (h2.ln n1 n2) z))
theorem seq_ch {K : PySem.W.Frag} {H H' : Hp} {a b : Addr} {xs : List V} (h : SqL K H a xs) (hn : H b = none) (c : Ch b H H') : SqL K H' a xs := by
  rcases h with (h | ⟨o, h⟩) | h
  · exact .inl (.inl (c _ _ (ne_of_none h hn) h))
  · exact .inl (.inr ⟨o, c _ _ (ne_of_none h hn) h⟩)
  · exact .inr h
theorem StsAt.snoc {H : Hp} {rooms : List Str} {rows : List (List Str)} {sas : List Addr} {p : Addr} (h : StsAt H rooms rows sas) (hp : ∃ faces places, HS H p faces places ∧ StV rooms rows faces places) : StsAt H rooms rows (sas ++ [p]) := fun i a e => by
  by_cases hi : i < sas.length
  · rw [List.getElem?_append_left hi] at e
    exact h i a e
  · rw [List.getElem?_append_right (by omega)] at e
    have z := (List.getElem?_eq_some_iff.mp e).1
    rw [List.length_singleton] at z
    have e2 : i - sas.length = 0 := by omega
    rw [e2] at e
    cases e
    exact hp
/-- a list of two states of this hall -/
def LSt (H : Hp) (l : Addr) (rooms : List Str) (rows : List (List Str)) : Prop := ∃ sas : List Addr, H l = some (.lst (sas.map V.ref)) ∧ sas.length = 2 ∧ StsAt H rooms rows sas
theorem LSt.ch {H H' : Hp} {b l : Addr} {rooms : List Str} {rows : List (List Str)} (B : Box H b) (hl : l ≠ b) (c : Ch b H H') (h : LSt H l rooms rows) : LSt H' l rooms rows := by
  obtain ⟨sas, h1, h2, h3⟩ := h
  exact ⟨sas, c _ _ hl h1, h2, h3.tu (Tu.of c B)⟩
theorem LSt.same {H H' : Hp} {l : Addr} {rooms : List Str} {rows : List (List Str)} (s : Same H H') (h : LSt H l rooms rows) : LSt H' l rooms rows := by
  obtain ⟨sas, h1, h2, h3⟩ := h
  exact ⟨sas, s _ _ h1, h2, h3.tu (Tu.same s)⟩
end Td
set_option maxHeartbeats 4000000
namespace Td
open PySem PySem.Spec PyProof.Rows L2
/-! ### a hall, a state, as repr shows it -/
theorem showAll_map {α : Type} (g : α → PyData) : ∀ l : List α, (∀ a ∈ l, (g a).showable = true) → PyData.showableAll (l.map g) = true
  | [], _ => by simp [PyData.showableAll]
  | a :: l, h => by rw [List.map_cons, PyData.showableAll, h a (List.mem_cons_self ..), showAll_map g l fun b hb => h b (List.mem_cons_of_mem _ hb)]; rfl
theorem noDictAll_map {α : Type} (g : α → PyData) : ∀ l : List α, (∀ a ∈ l, (g a).hasDict = false) → PyData.hasDictAll (l.map g) = false
  | [], _ => by simp [PyData.hasDictAll]
  | a :: l, h => by rw [List.map_cons, PyData.hasDictAll, h a (List.mem_cons_self ..), noDictAll_map g l fun b hb => h b (List.mem_cons_of_mem _ hb)]; rfl
theorem shortAll_map {α : Type} (g : α → PyData) : ∀ l : List α, (∀ a ∈ l, (g a).leavesShort 8 = true) → PyData.leavesShortAll 8 (l.map g) = true
  | [], _ => by simp [PyData.leavesShortAll]
  | a :: l, h => by rw [List.map_cons, PyData.leavesShortAll, h a (List.mem_cons_self ..), shortAll_map g l fun b hb => h b (List.mem_cons_of_mem _ hb)]; rfl
theorem weightAll_map {α : Type} (g : α → PyData) (n : Nat) : ∀ l : List α, (∀ a ∈ l, (g a).weight ≤ n) → PyData.weightAll (l.map g) ≤ l.length * (n + 1)
  | [], _ => by simp [PyData.weightAll]
  | a :: l, h => by
    have e1 := h a (List.mem_cons_self ..)
    have e2 := weightAll_map g n l fun b hb => h b (List.mem_cons_of_mem _ hb)
    rw [List.map_cons, PyData.weightAll, List.length_cons, Nat.succ_mul]
    omega
structure Shows (d : PyData) : Prop where
  sh : d.showable = true
  nd : d.hasDict = false
  dp : d.depth ≤ 60
  sz : d.shown.length ≤ sizeLine
theorem short_sD {ss : List Str} (h : ∀ x ∈ ss, Nm x) : (sD ss).leavesShort 8 = true := by
  unfold sD
  rw [PyData.leavesShort]
  refine shortAll_map _ ss fun a ha => ?_
  rw [PyData.leavesShort]
  exact List.all_eq_true.mpr fun c hc => decide_eq_true (by
    have z := (h a ha).2.2 c hc
    have e : (16 : Nat) ^ 8 = 4294967296 := by decide
    omega)
theorem weight_sD {ss : List Str} (h : ∀ x ∈ ss, Nm x) : (sD ss).weight ≤ ss.length * 7 := by
  unfold sD
  rw [PyData.weight]
  refine weightAll_map PyData.str 6 ss fun a ha => ?_
  rw [PyData.weight]
  exact (h a ha).2.1
theorem Bd.shows {ss : List Str} {rows : List (List Str)} (h : Bd ss rows) : Shows (hsD ss rows) := by
  have d1 := depth_sD ss
  have d2 := depth_map sD 3 depth_sD rows
  have w1 := weight_sD h.sn
  have w2 := weightAll_map sD 21 rows fun r hr => Nat.le_trans (weight_sD (h.rn r hr).2) (by have := (h.rn r hr).1; omega)
  have a1 := h.s12
  have a2 := h.r12
  have s1 : ∀ ss : List Str, (sD ss).showable = true := fun ss => by unfold sD; rw [PyData.showable]; exact showAll_map _ ss fun a _ => by rw [PyData.showable]
  have n1 : ∀ ss : List Str, (sD ss).hasDict = false := fun ss => by unfold sD; rw [PyData.hasDict]; exact noDictAll_map _ ss fun a _ => by rw [PyData.hasDict]
  refine ⟨?_, ?_, ?_, PyData.shown_fits (B := 8) (by decide) (by decide) ?_ ?_⟩
  · unfold hsD
    simp only [PyData.showable, PyData.showableAll, s1, showAll_map sD rows fun r _ => s1 r, Bool.and_true]
  · unfold hsD
    simp only [PyData.hasDict, PyData.hasDictAll, n1, noDictAll_map sD rows fun r _ => n1 r, Bool.or_false]
  · unfold hsD
    simp only [PyData.depth, PyData.depthAll]
    omega
  · unfold hsD
    simp only [PyData.leavesShort, PyData.leavesShortAll, short_sD h.sn, shortAll_map sD rows fun r hr => short_sD (h.rn r hr).2, Bool.and_true]
  · unfold hsD
    simp only [PyData.weight, PyData.weightAll]
    omega
end Td
set_option maxHeartbeats 4000000
namespace Td
open PySem PySem.Spec PyProof.Rows L2
/-! ### ascending texts -/
abbrev Deed := Str × Str
def AscS (l : List Str) : Prop := l.Pairwise fun a b => a.cps.toList < b.cps.toList
def ins (x : Str) : List Str → List Str
  | [] => [x]
  | y :: l => if y.cps.toList < x.cps.toList then y :: ins x l else if y = x then y :: l else x :: y :: l
def srt (l : List Str) : List Str := l.foldl (fun acc x => ins x acc) []
theorem slt_irr (a : Str) : ¬ a.cps.toList < a.cps.toList := List.lt_irrefl _
theorem slt_tr {a b c : Str} (h : a.cps.toList < b.cps.toList) (g : b.cps.toList < c.cps.toList) : a.cps.toList < c.cps.toList := List.lt_trans h g
theorem slt_of {a b : Str} (h : ¬ b.cps.toList < a.cps.toList) (hn : a ≠ b) : a.cps.toList < b.cps.toList := by
  by_cases h2 : a.cps.toList < b.cps.toList
  · exact h2
  · exact absurd (TL.ext_tl (List.le_antisymm (show a.cps.toList ≤ b.cps.toList from h) (show b.cps.toList ≤ a.cps.toList from h2))) hn
theorem slt_ne {a b : Str} (h : a.cps.toList < b.cps.toList) : a ≠ b := fun e => by
  subst e
  exact slt_irr _ h
theorem ins_mem {x z : Str} : ∀ {l : List Str}, z ∈ ins x l ↔ z = x ∨ z ∈ l
  | [] => by
    show z ∈ [x] ↔ _
    simp
  | y :: l => by
    show z ∈ (if y.cps.toList < x.cps.toList then y :: ins x l else if y = x then y :: l else x :: y :: l) ↔ _
    by_cases h : y.cps.toList < x.cps.toList
    · rw [if_pos h, List.mem_cons, ins_mem (l := l), List.mem_cons]
      exact ⟨fun q => q.elim (fun a => .inr (.inl a)) fun b => b.elim .inl fun c => .inr (.inr c), fun q => q.elim (fun a => .inr (.inl a)) fun b => b.elim .inl fun c => .inr (.inr c)⟩
    · rw [if_neg h]
      by_cases e : y = x
      · rw [if_pos e]
        subst e
        exact ⟨.inr, fun q => q.elim (fun a => by rw [a]; exact List.mem_cons_self) id⟩
      · rw [if_neg e, List.mem_cons]
theorem ins_asc {x : Str} : ∀ {l : List Str}, AscS l → AscS (ins x l)
  | [], _ => List.pairwise_cons.mpr ⟨fun a h => (by cases h), List.Pairwise.nil⟩
  | y :: l, h => by
    obtain ⟨h1, h2⟩ := List.pairwise_cons.mp h
    show AscS (if y.cps.toList < x.cps.toList then y :: ins x l else if y = x then y :: l else x :: y :: l)
    by_cases g : y.cps.toList < x.cps.toList
    · rw [if_pos g]
      refine List.pairwise_cons.mpr ⟨fun a ha => ?_, ins_asc h2⟩
      rcases ins_mem.mp ha with rfl | ha
      · exact g
      · exact h1 a ha
    · rw [if_neg g]
      by_cases e : y = x
      · rw [if_pos e]
        exact h
      · rw [if_neg e]
        have z : x.cps.toList < y.cps.toList := slt_of g fun q => e q.symm
        refine List.pairwise_cons.mpr ⟨fun a ha => ?_, h⟩
        rcases List.mem_cons.mp ha with rfl | ha
        · exact z
        · exact slt_tr z (h1 a ha)
theorem srt_fold (l : List Str) : ∀ acc : List Str, AscS acc → AscS (l.foldl (fun acc x => ins x acc) acc) ∧ ∀ z, z ∈ l.foldl (fun acc x => ins x acc) acc ↔ z ∈ acc ∨ z ∈ l := by
  induction l with
  | nil => exact fun acc h => ⟨h, fun z => by simp⟩
  | cons x l ih =>
    intro acc h
    obtain ⟨h1, h2⟩ := ih (ins x acc) (ins_asc h)
    refine ⟨h1, fun z => ?_⟩
    show z ∈ l.foldl (fun acc x => ins x acc) (ins x acc) ↔ _
    rw [h2, ins_mem, List.mem_cons]
    exact ⟨fun q => q.elim (fun a => a.elim (fun b => .inr (.inl b)) .inl) fun c => .inr (.inr c), fun q => q.elim (fun a => .inl (.inr a)) fun b => b.elim (fun c => .inl (.inl c)) .inr⟩
theorem srt_asc (l : List Str) : AscS (srt l) := (srt_fold l [] List.Pairwise.nil).1
theorem srt_mem {l : List Str} {z : Str} : z ∈ srt l ↔ z ∈ l := by
  have e := (srt_fold l [] List.Pairwise.nil).2 z
  unfold srt
  rw [e]
  simp
theorem srt_snoc (l : List Str) (x : Str) : srt (l ++ [x]) = ins x (srt l) := by
  unfold srt
  rw [List.foldl_append]
  rfl
theorem asc_unique : ∀ {l m : List Str}, AscS l → AscS m → (∀ x, x ∈ l ↔ x ∈ m) → l = m
  | [], [], _, _, _ => rfl
  | [], y :: m, _, _, h => absurd ((h y).mpr List.mem_cons_self) (by simp)
  | x :: l, [], _, _, h => absurd ((h x).mp List.mem_cons_self) (by simp)
  | x :: l, y :: m, hl, hm, h => by
    obtain ⟨a1, a2⟩ := List.pairwise_cons.mp hl
    obtain ⟨b1, b2⟩ := List.pairwise_cons.mp hm
    have e : x = y := by
      rcases List.mem_cons.mp ((h x).mp List.mem_cons_self) with e | e
      · exact e
      · rcases List.mem_cons.mp ((h y).mpr List.mem_cons_self) with g | g
        · exact g.symm
        · exact absurd (slt_tr (a1 y g) (b1 x e)) (slt_irr _)
    subst e
    rw [asc_unique a2 b2 fun z => ?_]
    have q := h z
    rw [List.mem_cons, List.mem_cons] at q
    refine ⟨fun hz => (q.mp (.inr hz)).elim (fun e => ?_) id, fun hz => (q.mpr (.inr hz)).elim (fun e => ?_) id⟩
    · exact absurd e.symm (slt_ne (a1 z hz))
    · exact absurd e.symm (slt_ne (b1 z hz))
theorem asc_nd {l : List Str} (h : AscS l) : l.Nodup := h.imp fun q => slt_ne q
theorem asc_rising : ∀ {r : List Str} {p : Str}, risingS p r = true → (p :: r).Nodup → AscS (p :: r)
  | [], _, _, _ => List.pairwise_cons.mpr ⟨fun a h => (by cases h), List.Pairwise.nil⟩
  | x :: r, p, h, hn => by
    have h1 : (!PySem.Spec.ltCps x.cps.toList p.cps.toList && risingS x r) = true := h
    rw [Bool.and_eq_true, Bool.not_eq_true'] at h1
    obtain ⟨n1, n2⟩ := List.nodup_cons.mp hn
    have t := asc_rising h1.2 n2
    have lt := lt_of_not h1.1 fun e => n1 (by rw [e]; exact List.mem_cons_self ..)
    refine List.pairwise_cons.mpr ⟨fun a ha => ?_, t⟩
    rcases List.mem_cons.mp ha with rfl | ha
    · exact lt
    · exact slt_tr lt ((List.pairwise_cons.mp t).1 a ha)
theorem asc_sorted {ys : List Str} (h : sortedS ys = true) (hn : ys.Nodup) : AscS ys := by
  cases ys with
  | nil => exact List.Pairwise.nil
  | cons x r => exact asc_rising h hn
/-- the place of a text among ascending ones -/
theorem ins_place {x : Str} : ∀ {l : List Str}, AscS l → x ∉ l → ins x l = l.take (l.filter fun y => decide (y.cps.toList < x.cps.toList)).length ++ [x] ++ l.drop (l.filter fun y => decide (y.cps.toList < x.cps.toList)).length
  | [], _, _ => rfl
  | y :: l, h, hx => by
    obtain ⟨h1, h2⟩ := List.pairwise_cons.mp h
    show (if y.cps.toList < x.cps.toList then y :: ins x l else if y = x then y :: l else x :: y :: l) = _
    by_cases g : y.cps.toList < x.cps.toList
    · rw [if_pos g, List.filter_cons_of_pos (by rw [decide_eq_true g]), List.length_cons, List.take_succ_cons, List.drop_succ_cons, ins_place h2 fun z => hx (List.mem_cons_of_mem _ z)]
      rfl
    · have e : y ≠ x := fun e => hx (by rw [e]; exact List.mem_cons_self)
      have no : l.filter (fun y => decide (y.cps.toList < x.cps.toList)) = [] := List.filter_eq_nil_iff.mpr fun a ha => by
        rw [decide_eq_true_eq]
        exact fun q => g (slt_tr (h1 a ha) q)
      rw [if_neg g, if_neg e, List.filter_cons_of_neg (by rw [decide_eq_false g]; exact Bool.false_ne_true), no]
      rfl
theorem ins_in {x : Str} : ∀ {l : List Str}, AscS l → x ∈ l → ins x l = l
  | [], _, hx => by cases hx
  | y :: l, h, hx => by
    obtain ⟨h1, h2⟩ := List.pairwise_cons.mp h
    show (if y.cps.toList < x.cps.toList then y :: ins x l else if y = x then y :: l else x :: y :: l) = _
    by_cases g : y.cps.toList < x.cps.toList
    · rw [if_pos g]
      rcases List.mem_cons.mp hx with e | hx
      · subst e
        exact absurd g (slt_irr _)
      · rw [ins_in h2 hx]
    · rw [if_neg g]
      rcases List.mem_cons.mp hx with e | hx
      · subst e
        rw [if_pos rfl]
      · exact absurd (h1 x hx) g
theorem srt_len (l : List Str) : (srt l).length ≤ l.length := by
  refine nodup_sub (asc_nd (srt_asc l)) fun x hx => srt_mem.mp hx
/-! ### rows and their projections -/
def dOf (l : List Deed) (w : Str) : List Str := (l.filter fun p => decide (p.1 = w)).map (·.2)
def wOf (l : List Deed) (d : Str) : List Str := (l.filter fun p => decide (p.2 = d)).map (·.1)
theorem dOf_len (l : List Deed) (w : Str) : (dOf l w).length ≤ l.length := by
  unfold dOf
  rw [List.length_map]
  exact List.length_filter_le _ _
theorem wOf_len (l : List Deed) (w : Str) : (wOf l w).length ≤ l.length := by
  unfold wOf
  rw [List.length_map]
  exact List.length_filter_le _ _
theorem dOf_snoc (l : List Deed) (p : Deed) (w : Str) : dOf (l ++ [p]) w = dOf l w ++ (if p.1 = w then [p.2] else []) := by
  unfold dOf
  rw [List.filter_append, List.map_append]
  congr 1
  by_cases h : p.1 = w
  · rw [if_pos h, List.filter_cons_of_pos (by rw [decide_eq_true h])]
    rfl
  · rw [if_neg h, List.filter_cons_of_neg (by rw [decide_eq_false h]; exact Bool.false_ne_true)]
    rfl
theorem wOf_snoc (l : List Deed) (p : Deed) (d : Str) : wOf (l ++ [p]) d = wOf l d ++ (if p.2 = d then [p.1] else []) := by
  unfold wOf
  rw [List.filter_append, List.map_append]
  congr 1
  by_cases h : p.2 = d
  · rw [if_pos h, List.filter_cons_of_pos (by rw [decide_eq_true h])]
    rfl
  · rw [if_neg h, List.filter_cons_of_neg (by rw [decide_eq_false h]; exact Bool.false_ne_true)]
    rfl
theorem dOf_no {l : List Deed} {w : Str} (h : w ∉ l.map (·.1)) : dOf l w = [] := by
  unfold dOf
  rw [List.filter_eq_nil_iff.mpr fun p hp => ?_]
  · rfl
  · rw [decide_eq_true_eq]
    exact fun e => h (List.mem_map.mpr ⟨p, hp, e⟩)
theorem wOf_no {l : List Deed} {d : Str} (h : d ∉ l.map (·.2)) : wOf l d = [] := by
  unfold wOf
  rw [List.filter_eq_nil_iff.mpr fun p hp => ?_]
  · rfl
  · rw [decide_eq_true_eq]
    exact fun e => h (List.mem_map.mpr ⟨p, hp, e⟩)
def seqD (ks : List Str) (f : Str → List Str) : PyData := .tuple (ks.map fun k => .tuple [.str k, sD (f k)])
def projD (l : List Deed) : PyData := .tuple [seqD (srt (l.map (·.1))) (dOf l), seqD (srt (l.map (·.2))) (wOf l)]
/-! ### how they lie in the heap -/
def pr (p : Deed) : List Str := [p.1, p.2]
def Rw (K : PySem.W.Frag) (H : Hp) (r : Addr) (l : List Deed) : Prop := ∃ as : List Addr, (SqL K H r (as.map V.ref) ∨ SqT K H r (as.map V.ref)) ∧ RowsAt H as (l.map pr)
def SeqsAt (H : Hp) (as : List Addr) (ks : List Str) (f : Str → List Str) : Prop := as.length = ks.length ∧ ∀ (i : Nat) (a : Addr) (k : Str), as[i]? = some a → ks[i]? = some k → ∃ t, H a = some (.tup [.str k, .ref t]) ∧ H t = some (.tup ((f k).map V.str))
theorem SeqsAt.nil {H : Hp} {f : Str → List Str} : SeqsAt H [] [] f := ⟨rfl, fun i a k e => by cases e⟩
theorem SeqsAt.tu {H H' : Hp} {as : List Addr} {ks : List Str} {f : Str → List Str} (x : Tu H H') (h : SeqsAt H as ks f) : SeqsAt H' as ks f := ⟨h.1, fun i a k e1 e2 => by
  obtain ⟨t, h1, h2⟩ := h.2 i a k e1 e2
  exact ⟨t, x _ _ h1, x _ _ h2⟩⟩
theorem SeqsAt.snoc {H : Hp} {as : List Addr} {ks : List Str} {f : Str → List Str} {a t : Addr} {k : Str} (h : SeqsAt H as ks f) (ha : H a = some (.tup [.str k, .ref t])) (ht : H t = some (.tup ((f k).map V.str))) : SeqsAt H (as ++ [a]) (ks ++ [k]) f := by
  refine ⟨by rw [List.length_append, List.length_append, h.1]; rfl, fun i b s e1 e2 => ?_⟩
  by_cases hi : i < as.length
  · rw [List.getElem?_append_left hi] at e1
    rw [List.getElem?_append_left (by rw [← h.1]; exact hi)] at e2
    exact h.2 i b s e1 e2
  · have hl := h.1
    rw [List.getElem?_append_right (by omega)] at e1 e2
    have hi2 : i = as.length := by
      have z := (List.getElem?_eq_some_iff.mp e1).1
      rw [List.length_singleton] at z
      omega
    subst hi2
    rw [Nat.sub_self] at e1
    rw [hl, Nat.sub_self] at e2
    cases e1
    cases e2
    exact ⟨t, ha, ht⟩
theorem dr_strsH {H : Hp} {n : Nat} {l : List Str} (hl : l.length ≤ 1000) {a : Addr} (ha : H a = some (.tup (l.map V.str))) : DR H (n + 2) (.ref a) (sD l) := by
  refine .inr ⟨a, _, _, rfl, rfl, ha, ⟨by rw [List.length_map, List.length_map], by rw [List.length_map]; exact hl⟩, fun i v e a1 a2 => .inl ?_⟩
  rw [List.getElem?_map] at a1 a2
  cases z : l[i]? with
  | none => rw [z] at a1; cases a1
  | some y => rw [z] at a1 a2; cases a1; cases a2; exact .inl ⟨y, rfl, rfl⟩
theorem dr_seq {H : Hp} {p : Addr} {as : List Addr} {ks : List Str} {f : Str → List Str} (hp : H p = some (.tup (as.map V.ref))) (h : SeqsAt H as ks f) (h1 : ks.length ≤ 1000) (h2 : ∀ k ∈ ks, (f k).length ≤ 1000) : DR H 4 (.ref p) (seqD ks f) := by
  refine .inr ⟨p, _, _, rfl, rfl, hp, ⟨by rw [List.length_map, List.length_map]; exact h.1, by rw [List.length_map]; exact h1⟩, fun i v e a1 a2 => ?_⟩
  rw [List.getElem?_map] at a1 a2
  cases z : as[i]? with
  | none => rw [z] at a1; cases a1
  | some a =>
    cases y : ks[i]? with
    | none => rw [y] at a2; cases a2
    | some k =>
      rw [z] at a1
      rw [y] at a2
      cases a1; cases a2
      obtain ⟨t, e1, e2⟩ := h.2 i a k z y
      refine .inr ⟨a, _, _, rfl, rfl, e1, ⟨rfl, by show 2 ≤ 1000; decide⟩, fun j v e a1 a2 => ?_⟩
      match j with
      | 0 => cases a1; cases a2; exact .inl (.inl ⟨_, rfl, rfl⟩)
      | 1 => cases a1; cases a2; exact dr_strsH (h2 k (List.mem_of_getElem? y)) e2
      | j + 2 => cases a1
theorem dr_two {H : Hp} {n : Nat} {p : Addr} {x y : V} {d e : PyData} (hp : H p = some (.tup [x, y])) (h1 : DR H n x d) (h2 : DR H n y e) : DR H (n + 1) (.ref p) (.tuple [d, e]) := by
  refine .inr ⟨p, _, _, rfl, rfl, hp, ⟨rfl, by show 2 ≤ 1000; decide⟩, fun j v e a1 a2 => ?_⟩
  match j with
  | 0 => cases a1; cases a2; exact h1
  | 1 => cases a1; cases a2; exact h2
  | j + 2 => cases a1
/-! ### a walk over a list or a tuple -/
def Lp (J : It) (g : TG) (tb : TS) (D : Ends) (σ : L2.St) (H : Hp) : Prop := ∃ W : Nat → Nat → L2.St → Hp → Prop, (∃ m, W 0 m σ H) ∧ ∀ i m σ H, W i m σ H →
      (J.stop i H ∧ D.nx σ H) ∨ (J.go i H ∧ ∃ N : L2.St → Hp → Prop, (∀ σ' H', N σ' H' → ∃ m', m' < m ∧ W (i + 1) m' σ' H') ∧ ∀ x H', J.yld i H x H' → g x σ H' fun σ2 H2 => tb { D with nx := N, ct := N, bk := D.nx } σ2 H2)
def iSeq (K : PySem.W.Frag) (tl : TE) : TI := fun σ H R => tl σ H fun x H1 => ∃ a, x = .ref a ∧ (((∃ xs, SqL K H1 a xs) ∧ R (Itl K a) H1) ∨ ((∃ xs, SqT K H1 a xs) ∧ R (Itt K a) H1))
theorem pi_seq {X : Cx} {tg l : Expr} {tl : TE} (hl : PE X l tl) : PI X tg l (iSeq X.K tl) := by
  refine ⟨fun pins s σ H R I h => ?_⟩
  refine thn (hl.run pins s σ H _ I h) fun v s1 ⟨x, H1, I1, r1, q1⟩ => ?_
  obtain ⟨a, e, q1⟩ := q1
  subst e
  cases r1
  rcases q1 with ⟨⟨xs, hq⟩, q⟩ | ⟨⟨xs, hq⟩, q⟩
  · obtain ⟨its, rv, p, hz⟩ := I1.list hq
    refine wpAny_pyIter_list p.isList ?_
    refine ⟨s1.heap.objs.size, [s1.heap.objs.size], _, _, H1, rfl, I1.kept (t' := s1.toks) fun b o e => Heap.get?_push_of_some _ e, turn_list a _, ⟨_, Heap.get?_push_size _ rfl, rfl, rfl⟩, fun b hb => ?_, q⟩
    have e : b = s1.heap.objs.size := by simpa using hb
    subst e
    exact I1.fpOk (Nat.le_refl _) (I1.hok.fresh (Nat.le_refl _))
  · obtain ⟨its, rv, p, hz⟩ := I1.tuple hq
    refine wpAny_pyIter_tuple (show s1.heap.IsTuple a its.toArray from p) ?_
    refine ⟨s1.heap.objs.size, [s1.heap.objs.size], _, _, H1, rfl, I1.kept (t' := s1.toks) fun b o e => Heap.get?_push_of_some _ e, turn_tuple a _, ⟨_, Heap.get?_push_size _ rfl, rfl, rfl⟩, fun b hb => ?_, q⟩
    have e : b = s1.heap.objs.size := by simpa using hb
    subst e
    exact I1.fpOk (Nat.le_refl _) (I1.hok.fresh (Nat.le_refl _))
theorem sqL_same {K : PySem.W.Frag} {H H' : Hp} {a : Addr} {xs : List V} (x : Same H H') (h : SqL K H a xs) : SqL K H' a xs := by
  rcases h with (h | ⟨o, h⟩) | h
  · exact .inl (.inl (x _ _ h))
  · exact .inl (.inr ⟨o, x _ _ h⟩)
  · exact .inr h
theorem sqT_same {K : PySem.W.Frag} {H H' : Hp} {a : Addr} {xs : List V} (x : Same H H') (h : SqT K H a xs) : SqT K H' a xs := by
  rcases h with (h | ⟨o, h⟩) | h
  · exact .inl (.inl (x _ _ h))
  · exact .inl (.inr ⟨o, x _ _ h⟩)
  · exact .inr h
theorem Rw.same {K : PySem.W.Frag} {H H' : Hp} {r : Addr} {l : List Deed} (x : Same H H') (h : Rw K H r l) : Rw K H' r l := by
  obtain ⟨as, h1, h2⟩ := h
  exact ⟨as, h1.elim (fun z => .inl (sqL_same x z)) fun z => .inr (sqT_same x z), h2.tu (Tu.same x)⟩
/-- a walk over what is a list or a tuple -/
theorem for_seq {K : PySem.W.Frag} {a : Addr} {xs : List V} {g : TG} {tb : TS} {D : Ends} {σ : L2.St} {H H0 : Hp} (hk : SqL K H0 a xs ∨ SqT K H0 a xs) (Pv : Nat → L2.St → Hp → Prop) (h0 : Pv 0 σ H)
    (keep : ∀ i σ' H', Pv i σ' H' → Same H0 H')
    (hs : ∀ i x σ H, xs[i]? = some x → Pv i σ H → g x σ H fun σ2 H2 => tb { D with nx := Pv (i + 1), ct := Pv (i + 1), bk := D.nx } σ2 H2) (hd : ∀ σ H, Pv xs.length σ H → D.nx σ H) :
    ((∃ xs, SqL K H a xs) ∧ (∃ W : Nat → Nat → L2.St → Hp → Prop, (∃ m, W 0 m σ H) ∧ ∀ i m σ H, W i m σ H →
      ((Itl K a).stop i H ∧ D.nx σ H) ∨ ((Itl K a).go i H ∧ ∃ N : L2.St → Hp → Prop, (∀ σ' H', N σ' H' → ∃ m', m' < m ∧ W (i + 1) m' σ' H') ∧ ∀ x H', (Itl K a).yld i H x H' → g x σ H' fun σ2 H2 => tb { D with nx := N, ct := N, bk := D.nx } σ2 H2))) ∨ ((∃ xs, SqT K H a xs) ∧ (∃ W : Nat → Nat → L2.St → Hp → Prop, (∃ m, W 0 m σ H) ∧ ∀ i m σ H, W i m σ H →
      ((Itt K a).stop i H ∧ D.nx σ H) ∨ ((Itt K a).go i H ∧ ∃ N : L2.St → Hp → Prop, (∀ σ' H', N σ' H' → ∃ m', m' < m ∧ W (i + 1) m' σ' H') ∧ ∀ x H', (Itt K a).yld i H x H' → g x σ H' fun σ2 H2 => tb { D with nx := N, ct := N, bk := D.nx } σ2 H2))) := by
  rcases hk with hk | hk
  · exact .inl ⟨⟨_, sqL_same (keep _ _ _ h0) hk⟩, for_list (K := K) (a := a) (xs := xs) Pv h0 (fun i σ' H' _ p => sqL_same (keep i σ' H' p) hk) hs hd⟩
  · exact .inr ⟨⟨_, sqT_same (keep _ _ _ h0) hk⟩, for_tup (K := K) (a := a) (xs := xs) Pv h0 (fun i σ' H' _ p => sqT_same (keep i σ' H' p) hk) hs hd⟩
/-! ### dicts from texts to lists of texts -/
abbrev rSortedDK : List V → Hp → VK → Prop := fun xs H Q => ∃ (a : Addr) (kvs : List (Key × V)) (ks : List Str), xs = [.ref a] ∧ L2.Rd H a (.dK kvs) ∧ kvs.map (·.1) = ks.map Sum.inr ∧ ks.length < 64 ∧ ∀ ys p, ys.Perm ks → sortedS ys = true → H p = none → Q (.ref p) (L2.upd H p (.lst (ys.map V.str)))
def kvOf (m : List (Str × Addr)) : List (Key × V) := m.map fun p => (Sum.inr p.1, V.ref p.2)
structure Dl (H : Hp) (d : Addr) (m : List (Str × Addr)) (f : Str → List Str) : Prop where
  at_ : H d = some (.dK (kvOf m))
  nd : (m.map (·.1)).Nodup
  ls : ∀ p ∈ m, H p.2 = some (.lst ((f p.1).map V.str))
theorem kvOf_val {m : List (Str × Addr)} {k : Str} {v : V} (h : valV (kvOf m) (Sum.inr k) = some v) : ∃ a, v = .ref a ∧ (k, a) ∈ m := by
  induction m with
  | nil => cases h
  | cons p m ih =>
    by_cases e : p.1 = k
    · have z : valV (kvOf (p :: m)) (Sum.inr k) = some (V.ref p.2) := valV_pos (p := (Sum.inr p.1, V.ref p.2)) (r := kvOf m) (by rw [e])
      rw [z] at h
      cases h
      exact ⟨p.2, rfl, by rw [← e]; exact List.mem_cons_self⟩
    · have z : valV (kvOf (p :: m)) (Sum.inr k) = valV (kvOf m) (Sum.inr k) := valV_neg (p := (Sum.inr p.1, V.ref p.2)) (r := kvOf m) (fun q => e (Sum.inr.inj q))
      rw [z] at h
      obtain ⟨a, h1, h2⟩ := ih h
      exact ⟨a, h1, List.mem_cons_of_mem _ h2⟩
theorem kvOf_no {m : List (Str × Addr)} {k : Str} (h : valV (kvOf m) (Sum.inr k) = none) : k ∉ m.map (·.1) := by
  induction m with
  | nil => simp
  | cons p m ih =>
    by_cases e : p.1 = k
    · have z : valV (kvOf (p :: m)) (Sum.inr k) = some (V.ref p.2) := valV_pos (p := (Sum.inr p.1, V.ref p.2)) (r := kvOf m) (by rw [e])
      rw [z] at h
      cases h
    · have z : valV (kvOf (p :: m)) (Sum.inr k) = valV (kvOf m) (Sum.inr k) := valV_neg (p := (Sum.inr p.1, V.ref p.2)) (r := kvOf m) (fun q => e (Sum.inr.inj q))
      rw [z] at h
      intro q
      rcases List.mem_cons.mp q with q | q
      · exact e q.symm
      · exact ih h q
theorem kvOf_get {m : List (Str × Addr)} {k : Str} {a : Addr} (nd : (m.map (·.1)).Nodup) (h : (k, a) ∈ m) : valV (kvOf m) (Sum.inr k) = some (.ref a) := by
  induction m with
  | nil => cases h
  | cons p m ih =>
    obtain ⟨n1, n2⟩ := List.nodup_cons.mp nd
    by_cases e : p.1 = k
    · have z : valV (kvOf (p :: m)) (Sum.inr k) = some (V.ref p.2) := valV_pos (p := (Sum.inr p.1, V.ref p.2)) (r := kvOf m) (by rw [e])
      rw [z]
      rcases List.mem_cons.mp h with h | h
      · rw [← h]
      · exact absurd (show p.1 ∈ m.map (·.1) from List.mem_map.mpr ⟨_, h, e.symm⟩) n1
    · have z : valV (kvOf (p :: m)) (Sum.inr k) = valV (kvOf m) (Sum.inr k) := valV_neg (p := (Sum.inr p.1, V.ref p.2)) (r := kvOf m) (fun q => e (Sum.inr.inj q))
      rw [z]
      rcases List.mem_cons.mp h with h | h
      · exact absurd (by rw [← h]) e
      · exact ih n2 h
theorem kvOf_keys (m : List (Str × Addr)) : (kvOf m).map (·.1) = (m.map (·.1)).map Sum.inr := by
  unfold kvOf
  rw [List.map_map, List.map_map]
  rfl
theorem kvOf_put {m : List (Str × Addr)} {k : Str} {a : Addr} (h : valV (kvOf m) (Sum.inr k) = none) : putK (kvOf m) (Sum.inr k) (.ref a) = kvOf (m ++ [(k, a)]) := by
  rw [putK_new _ h]
  unfold kvOf
  rw [List.map_append]
  rfl
theorem kvOf_len (m : List (Str × Addr)) : (kvOf m).length = m.length := List.length_map _
theorem Dl.same {H H' : Hp} {d : Addr} {m : List (Str × Addr)} {f : Str → List Str} (x : Same H H') (h : Dl H d m f) : Dl H' d m f := ⟨x _ _ h.at_, h.nd, fun p hp => x _ _ (h.ls p hp)⟩
theorem Dl.other {H : Hp} {d a : Addr} {m : List (Str × Addr)} {f : Str → List Str} (h : Dl H d m f) (na : a ≠ d) (nm : a ∉ m.map (·.2)) (o : HO) : Dl (upd H a o) d m f :=
  ⟨by rw [upd_ne na.symm]; exact h.at_, h.nd, fun p hp => by rw [upd_ne (fun e => nm (by rw [← e]; exact List.mem_map.mpr ⟨p, hp, rfl⟩))]; exact h.ls p hp⟩
def addF (f : Str → List Str) (k x : Str) : Str → List Str := fun j => f j ++ (if k = j then [x] else [])
theorem pair_snd {m : List (Str × Addr)} (nd : (m.map (·.2)).Nodup) {p q : Str × Addr} (hp : p ∈ m) (hq : q ∈ m) (e : p.2 = q.2) : p = q := by
  induction m with
  | nil => cases hp
  | cons r m ih =>
    obtain ⟨n1, n2⟩ := List.nodup_cons.mp nd
    rcases List.mem_cons.mp hp with rfl | hp2
    · rcases List.mem_cons.mp hq with rfl | hq2
      · rfl
      · exact absurd (show p.2 ∈ m.map (·.2) from List.mem_map.mpr ⟨q, hq2, e.symm⟩) n1
    · rcases List.mem_cons.mp hq with rfl | hq2
      · exact absurd (show q.2 ∈ m.map (·.2) from List.mem_map.mpr ⟨p, hp2, e⟩) n1
      · exact ih n2 hp2 hq2
theorem pair_fst {m : List (Str × Addr)} (nd : (m.map (·.1)).Nodup) {p q : Str × Addr} (hp : p ∈ m) (hq : q ∈ m) (e : p.1 = q.1) : p = q := by
  induction m with
  | nil => cases hp
  | cons r m ih =>
    obtain ⟨n1, n2⟩ := List.nodup_cons.mp nd
    rcases List.mem_cons.mp hp with rfl | hp2
    · rcases List.mem_cons.mp hq with rfl | hq2
      · rfl
      · exact absurd (show p.1 ∈ m.map (·.1) from List.mem_map.mpr ⟨q, hq2, e.symm⟩) n1
    · rcases List.mem_cons.mp hq with rfl | hq2
      · exact absurd (show q.1 ∈ m.map (·.1) from List.mem_map.mpr ⟨p, hp2, e⟩) n1
      · exact ih n2 hp2 hq2
theorem Dl.found {H : Hp} {d a : Addr} {m : List (Str × Addr)} {f : Str → List Str} {k x : Str} (h : Dl H d m f) (ha : (k, a) ∈ m) (nd : (m.map (·.2)).Nodup) : Dl (upd H a (.lst ((f k).map V.str ++ [.str x]))) d m (addF f k x) := by
  have nad : d ≠ a := fun e => by
    have z := h.ls _ ha
    rw [← e, h.at_] at z
    cases z
  refine ⟨by rw [upd_ne nad]; exact h.at_, h.nd, fun p hp => ?_⟩
  unfold addF
  by_cases e : p.2 = a
  · have z := pair_snd nd hp ha e
    subst z
    rw [upd_same, if_pos rfl, List.map_append]
    rfl
  · have n : ¬ k = p.1 := fun q => e (by rw [pair_fst h.nd hp ha q.symm])
    rw [upd_ne e, if_neg n, List.append_nil]
    exact h.ls p hp
theorem Dl.newK {H : Hp} {d z : Addr} {m : List (Str × Addr)} {f : Str → List Str} {k x : Str} (h : Dl H d m f) (no : k ∉ m.map (·.1)) (hk : f k = []) (nz : z ∉ m.map (·.2)) (nd : z ≠ d) : Dl (upd (upd H d (.dK (kvOf (m ++ [(k, z)])))) z (.lst [.str x])) d (m ++ [(k, z)]) (addF f k x) := by
  refine ⟨by rw [upd_ne nd.symm, upd_same], ?_, fun p hp => ?_⟩
  · rw [List.map_append]
    exact List.nodup_append.mpr ⟨h.nd, List.nodup_cons.mpr ⟨by simp, List.nodup_nil⟩, fun a ha b hb e => by
      rw [e, List.mem_singleton.mp hb] at ha
      exact no ha⟩
  unfold addF
  rcases List.mem_append.mp hp with hp | hp
  · have n1 : p.2 ≠ z := fun e => nz (by rw [← e]; exact List.mem_map.mpr ⟨p, hp, rfl⟩)
    have n2 : p.2 ≠ d := fun e => by
      have q := h.ls p hp
      rw [e, h.at_] at q
      cases q
    have n3 : ¬ k = p.1 := fun e => no (by rw [e]; exact List.mem_map.mpr ⟨p, hp, rfl⟩)
    rw [upd_ne n1, upd_ne n2, if_neg n3, List.append_nil]
    exact h.ls p hp
  · rw [List.mem_singleton.mp hp]
    show upd _ z _ z = _
    rw [upd_same, if_pos rfl, hk]
    rfl
/-- two dicts of lists, side by side -/
structure P2 (H0 H : Hp) (d1 d2 : Addr) (m1 m2 : List (Str × Addr)) (f1 f2 : Str → List Str) : Prop where
  s : Same H0 H
  a : Dl H d1 m1 f1
  b : Dl H d2 m2 f2
  nd : (m1.map (·.2) ++ m2.map (·.2)).Nodup
  fr : ∀ x ∈ m1.map (·.2) ++ m2.map (·.2), H0 x = none
  g1 : H0 d1 = none
  g2 : H0 d2 = none
  ne : d1 ≠ d2
theorem P2.swap {H0 H : Hp} {d1 d2 : Addr} {m1 m2 : List (Str × Addr)} {f1 f2 : Str → List Str} (p : P2 H0 H d1 d2 m1 m2 f1 f2) : P2 H0 H d2 d1 m2 m1 f2 f1 :=
  ⟨p.s, p.b, p.a, by
    obtain ⟨h1, h2, h3⟩ := List.nodup_append.mp p.nd
    exact List.nodup_append.mpr ⟨h2, h1, fun a ha b hb e => h3 b hb a ha e.symm⟩, fun x hx => p.fr x (by
    rcases List.mem_append.mp hx with h | h
    · exact List.mem_append_right _ h
    · exact List.mem_append_left _ h), p.g2, p.g1, p.ne.symm⟩
theorem P2.same {H0 H H' : Hp} {d1 d2 : Addr} {m1 m2 : List (Str × Addr)} {f1 f2 : Str → List Str} (p : P2 H0 H d1 d2 m1 m2 f1 f2) (x : Same H H') : P2 H0 H' d1 d2 m1 m2 f1 f2 :=
  ⟨p.s.trans x, p.a.same x, p.b.same x, p.nd, p.fr, p.g1, p.g2, p.ne⟩
theorem P2.found {H0 H : Hp} {d1 d2 a : Addr} {m1 m2 : List (Str × Addr)} {f1 f2 : Str → List Str} {k x : Str} (p : P2 H0 H d1 d2 m1 m2 f1 f2) (ha : (k, a) ∈ m1) : P2 H0 (upd H a (.lst ((f1 k).map V.str ++ [.str x]))) d1 d2 m1 m2 (addF f1 k x) f2 := by
  obtain ⟨h1, h2, h3⟩ := List.nodup_append.mp p.nd
  have hm : a ∈ m1.map (·.2) := List.mem_map.mpr ⟨_, ha, rfl⟩
  have n2 : a ≠ d2 := fun e => by
    have z := p.a.ls _ ha
    have z2 : H a = some (.lst ((f1 k).map V.str)) := z
    rw [e, p.b.at_] at z2
    cases z2
  exact ⟨same_mut p.s (p.fr a (List.mem_append_left _ hm)) _, p.a.found ha h1, p.b.other n2 (fun z => h3 a hm a z rfl) _, p.nd, p.fr, p.g1, p.g2, p.ne⟩
theorem P2.newK {H0 H : Hp} {d1 d2 z : Addr} {m1 m2 : List (Str × Addr)} {f1 f2 : Str → List Str} {k x : Str} (p : P2 H0 H d1 d2 m1 m2 f1 f2) (no : k ∉ m1.map (·.1)) (hk : f1 k = []) (hz : H z = none) :
    P2 H0 (upd (upd (upd H z (.lst [])) d1 (.dK (kvOf (m1 ++ [(k, z)])))) z (.lst [.str x])) d1 d2 (m1 ++ [(k, z)]) m2 (addF f1 k x) f2 := by
  have sz := same_new hz (.lst [])
  have pz := p.same sz
  have hz0 : H0 z = none := by
    cases q : H0 z with
    | none => rfl
    | some o =>
      have y := p.s _ _ q
      rw [hz] at y
      cases y
  have n1 : z ≠ d1 := fun e => by rw [e, p.a.at_] at hz; cases hz
  have n2 : z ≠ d2 := fun e => by rw [e, p.b.at_] at hz; cases hz
  have nm : z ∉ m1.map (·.2) ++ m2.map (·.2) := fun hm => by
    rcases List.mem_append.mp hm with hm | hm
    · obtain ⟨q, hq, e⟩ := List.mem_map.mp hm
      have y := p.a.ls q hq
      have e' : q.2 = z := e
      rw [e', hz] at y
      cases y
    · obtain ⟨q, hq, e⟩ := List.mem_map.mp hm
      have y := p.b.ls q hq
      have e' : q.2 = z := e
      rw [e', hz] at y
      cases y
  have na : z ∉ m1.map (·.2) := fun h => nm (List.mem_append_left _ h)
  have nb : z ∉ m2.map (·.2) := fun h => nm (List.mem_append_right _ h)
  have d1m2 : d1 ∉ m2.map (·.2) := fun hm => by
    obtain ⟨q, hq, e⟩ := List.mem_map.mp hm
    have y := p.b.ls q hq
    have e' : q.2 = d1 := e
    rw [e', p.a.at_] at y
    cases y
  obtain ⟨h1, h2, h3⟩ := List.nodup_append.mp p.nd
  refine ⟨same_mut (same_mut pz.s p.g1 _) hz0 _, pz.a.newK no hk na n1, (pz.b.other p.ne d1m2 _).other n2 nb _, ?_, ?_, p.g1, p.g2, p.ne⟩
  · rw [List.map_append]
    refine List.nodup_append.mpr ⟨List.nodup_append.mpr ⟨h1, List.nodup_cons.mpr ⟨by simp, List.nodup_nil⟩, fun a ha b hb e => ?_⟩, h2, fun a ha b hb e => ?_⟩
    · rw [e, List.mem_singleton.mp hb] at ha
      exact na ha
    · rcases List.mem_append.mp ha with ha | ha
      · exact h3 a ha b hb e
      · rw [← e, List.mem_singleton.mp ha] at hb
        exact nb hb
  · intro y hy
    rw [List.map_append] at hy
    rcases List.mem_append.mp hy with hy | hy
    · rcases List.mem_append.mp hy with hy | hy
      · exact p.fr y (List.mem_append_left _ hy)
      · rw [List.mem_singleton.mp hy]
        exact hz0
    · exact p.fr y (List.mem_append_right _ hy)
theorem keys_found {m : List (Str × Addr)} {l : List Str} {k : Str} (h : ∀ x, x ∈ m.map (·.1) ↔ x ∈ l) {a : Addr} (ha : (k, a) ∈ m) : ∀ x, x ∈ m.map (·.1) ↔ x ∈ l ++ [k] := fun x => by
  rw [h x, List.mem_append, List.mem_singleton]
  exact ⟨.inl, fun z => z.elim id fun e => by rw [e]; exact (h k).mp (List.mem_map.mpr ⟨_, ha, rfl⟩)⟩
theorem keys_new {m : List (Str × Addr)} {l : List Str} {k : Str} (h : ∀ x, x ∈ m.map (·.1) ↔ x ∈ l) {a : Addr} : ∀ x, x ∈ (m ++ [(k, a)]).map (·.1) ↔ x ∈ l ++ [k] := fun x => by
  rw [List.map_append, List.mem_append, h x, List.mem_append]
  rfl
theorem keys_len {m : List (Str × Addr)} {l : List Str} (nd : (m.map (·.1)).Nodup) (h : ∀ x, x ∈ m.map (·.1) ↔ x ∈ l) : m.length ≤ l.length := by
  have z := nodup_sub nd fun x hx => (h x).mp hx
  rw [List.length_map] at z
  exact z
theorem srt_keys {m : List (Str × Addr)} {l : List Str} (h : ∀ x, x ∈ m.map (·.1) ↔ x ∈ l) : srt (m.map (·.1)) = srt l := asc_unique (srt_asc _) (srt_asc _) fun x => by rw [srt_mem, srt_mem]; exact h x
theorem addF_dOf (l : List Deed) (p : Deed) : addF (dOf l) p.1 p.2 = dOf (l ++ [p]) := funext fun j => by
  rw [dOf_snoc]
  rfl
theorem addF_wOf (l : List Deed) (p : Deed) : addF (wOf l) p.2 p.1 = wOf (l ++ [p]) := funext fun j => by
  rw [wOf_snoc]
  rfl
/-! ### promises -/
def spAsc : Sp := fun vs H Q _ => ∃ (d : Addr) (m : List (Str × Addr)) (f : Str → List Str), vs = [.ref d] ∧ Dl H d m f ∧ m.length < 64 ∧ (∀ k, (f k).length ≤ 1000) ∧
  ∀ p as H', Same H H' → H' p = some (.tup (as.map V.ref)) → SeqsAt H' as (srt (m.map (·.1))) f → Q (.ref p) H'
def spProj (K : PySem.W.Frag) : Sp := fun vs H Q _ => ∃ (r : Addr) (l : List Deed), vs = [.ref r] ∧ Rw K H r l ∧ l.length < 64 ∧ ∀ p H', Same H H' → DR H' 5 (.ref p) (projD l) → Q (.ref p) H'
def RowL (H : Hp) (p : Addr) (l : List Deed) : Prop := ∃ as : List Addr, H p = some (.lst (as.map V.ref)) ∧ RowsAt H as (l.map pr)
def NmD (l : List Deed) : Prop := ∀ q ∈ l, Nm q.1 ∧ Nm q.2
def spRow : Sp := fun vs H Q _ => ∃ (b : Addr) (n1 n2 m : Int), vs = [.ref b, .int n1, .int n2, .int m] ∧ Box H b ∧ 1 ≤ n1 ∧ n1 ≤ 26 ∧ 1 ≤ n2 ∧ n2 ≤ 26 ∧ 0 ≤ m ∧ m ≤ 60 ∧
  ∀ p l H', H p = none → RowL H' p l → NmD l → (l.length : Int) ≤ m → Box H' b → Ch b H H' → Q (.ref p) H'
def spCrowd2 : Sp := fun vs H Q _ => ∃ b : Addr, vs = [.ref b] ∧ Box H b ∧ ∀ p l H', H p = none → RowL H' p l → NmD l → l.length ≤ 60 → Box H' b → Ch b H H' → Q (.ref p) H'
def spSrt : Sp := fun vs H Q _ => ∃ (a : Addr) (ss : List Str), vs = [.ref a] ∧ H a = some (.lst (ss.map V.str)) ∧ ss.length ≤ 64 ∧ ∀ p H', Same H H' → H' p = some (.lst ((srt ss).map V.str)) → Q (.ref p) H'
def spDue : Sp := fun vs H Q _ => ∃ (a : Addr) (l : List Deed), vs = [.ref a] ∧ RowL H a l ∧ l.length < 64 ∧ ∀ p H', Same H H' → DR H' 5 (.ref p) (projD l) → Q (.ref p) H'
theorem RowL.same {H H' : Hp} {p : Addr} {l : List Deed} (x : Same H H') (h : RowL H p l) : RowL H' p l := by
  obtain ⟨as, h1, h2⟩ := h
  exact ⟨as, x _ _ h1, h2.tu (Tu.same x)⟩
theorem atSn {ss : List Str} {j : Int} (h0 : 0 ≤ j) (h1 : j < (ss.length : Int)) (hn : ∀ x ∈ ss, Nm x) : ∃ x, Nm x ∧ atI (ss.map V.str) j = some (.str x) := by
  obtain ⟨x, h2, h3⟩ := atS h0 h1
  exact ⟨x, hn x (List.mem_of_getElem? h2), h3⟩
end Td
set_option maxHeartbeats 4000000
namespace Td
open PySem PySem.Spec PyProof.Rows L2
/-! ### an own class over ValueError with its own __init__, one field -/
def veB (K : PySem.W.Frag) (C : Addr) : Bool := match K.lookup C with
  | some ⟨.type ty, _, .cls cd, sl⟩ => decide (ty = "type") && (cd.hasDict && (!cd.hasDel && (match cd.mro, sl.toList with
    | .ref C' :: bm, [_, _, _, _, some (.builtin n), _] => decide (C' = C) && (decide (n = "ValueError.__new__") && PySem.HandSPX.refsVE bm)
    | _, _ => false)))
  | _ => false
theorem veB_ok {K : PySem.W.Frag} {C : Addr} (h : veB K C = true) : ∃ nm q N bs bm sn sub ab col dd k0 k1 k2 k3 k5, K.lookup C = some (excClassObj nm q C N bs bm true sn sub ab col dd k0 k1 k2 k3 k5 "ValueError.__new__") ∧ PySem.HandSPX.refsVE bm = true := by
  unfold veB at h
  split at h
  · rename_i ty dd cd sl ho
    simp only [Bool.and_eq_true, decide_eq_true_eq, Bool.not_eq_true'] at h
    obtain ⟨rfl, hd, hx, hs⟩ := h
    split at hs
    · rename_i C' bm k0 k1 k2 k3 n k5 hm hl
      simp only [Bool.and_eq_true, decide_eq_true_eq] at hs
      obtain ⟨rfl, rfl, hr⟩ := hs
      obtain ⟨nm, bs, mro, ns, qn, hdc, sn, sub, ab, col, del⟩ := cd
      dsimp only at hm hd hx
      subst hm hd hx
      obtain ⟨l⟩ := sl
      simp only at hl
      subst hl
      exact ⟨nm, qn, ns, bs, bm, sn, sub, ab, col, dd, k0, k1, k2, k3, k5, ho, hr⟩
    · cases hs
  · cases h
structure ErrV (K : PySem.W.Frag) (x fl : Str) : Prop where
  ox : OexC K (He.ga K x)
  xf : XfC K (He.ga K x)
  no : PySem.W.findIn K (.ref (He.ga K x)) fl = some none
  iC : PySem.W.findIn K (.ref (He.ga K x)) "__init__" = some (some (.ref (He.ma K (He.ga K x) "__init__")))
  tI : PySem.W.typeIn K (.ref (He.ma K (He.ga K x) "__init__")) = some (.type "function")
  me : PySem.W.exmOne K (.ref (He.ga K x)) (.ref (He.ga K x)) = some true
def errVB (K : PySem.W.Frag) (x fl : Str) : Bool := veB K (He.ga K x) && (decide (PySem.W.findIn K (.ref (He.ga K x)) "__setattr__" = some (some (.builtin "object.__setattr__"))) && (decide (PySem.W.subIn K (.ref (He.ga K x)) (.type "BaseException") = some true) &&
  (decide (PySem.W.typeIn K (.ref (He.ga K x)) = some (.type "type")) && (PySem.W.keepIn K (.ref (He.ga K x)) && (xfB K (He.ga K x) && (decide (PySem.W.findIn K (.ref (He.ga K x)) fl = some none) &&
  (decide (PySem.W.findIn K (.ref (He.ga K x)) "__init__" = some (some (.ref (He.ma K (He.ga K x) "__init__")))) && (decide (PySem.W.typeIn K (.ref (He.ma K (He.ga K x) "__init__")) = some (.type "function")) &&
  decide (PySem.W.exmOne K (.ref (He.ga K x)) (.ref (He.ga K x)) = some true)))))))))
theorem errVB_ok {K : PySem.W.Frag} {x fl : Str} (h : errVB K x fl = true) : ErrV K x fl := by
  unfold errVB at h
  simp only [Bool.and_eq_true, decide_eq_true_eq] at h
  obtain ⟨h1, h2, h3, h4, h5, h6, h7, h8, h9, h10⟩ := h
  exact ⟨⟨veB_ok h1, h2, h3, h4, h5⟩, xfB_ok h6, h7, h8, h9, h10⟩
def spErrV (C : Addr) (fl : Str) : Sp := fun vs H Q _ => ∃ (a : Addr) (v : V), vs = [.ref a, v] ∧ H a = some (exo a C none) ∧ ∀ dx, H dx = none → dx ≠ a → Q .non (upd (upd H dx (exd dx [(fl, v)])) a (exo a C (some dx)))
theorem mk_end_v {C : Addr} {fl : Str} {H : Hp} {Q : XK} {v : V} (h : ∀ d, H d = none → Q (.ref C) (some d) (upd H d (.xd [(fl, v)]))) :
    ([v] : List V).length ≤ 1000 ∧ ∀ a, H a = none → spErrV C fl (.ref a :: ([v] ++ [])) (upd H a (exo a C none)) (fun u H2 => u = .non ∧ ∃ (d : Addr) (fs : List (Str × V)), H2 a = some (exo a C (some d)) ∧ H2 d = some (exd d fs) ∧ H d = none ∧ Q (.ref C) (some d) (upd (del H2 a) d (.xd fs))) (fun _ _ _ => False) := by
  refine ⟨by show 1 ≤ 1000; decide, fun a ha => ⟨a, v, rfl, upd_same, fun dx hd ne => ⟨rfl, dx, [(fl, v)], upd_same, by rw [upd_ne ne]; exact upd_same, by rw [upd_ne ne] at hd; exact hd, ?_⟩⟩⟩
  rw [upd_ne ne] at hd
  have e : upd (del (upd (upd (upd H a (exo a C none)) dx (exd dx [(fl, v)])) a (exo a C (some dx))) a) dx (.xd [(fl, v)]) = upd H dx (.xd [(fl, v)]) := by
    funext b
    by_cases hb : b = dx
    · rw [hb, upd_same, upd_same]
    · rw [upd_ne hb, upd_ne hb]
      by_cases hb2 : b = a
      · rw [hb2, del_same, ha]
      · rw [del_ne hb2, upd_ne hb2, upd_ne hb, upd_ne hb2]
  rw [e]
  exact h dx hd
structure ErrMV (P : Program) (w : World) (K : PySem.W.Frag) (mg : Str → Option Value) (base : Heap) (x fl : Str) : Prop where
  t : ErrV K x fl
  g : mg x = some (.ref (He.ga K x))
  i : ∃ (fd : FuncData) (ps : List Str), FnOk P w K mg base C8.CX0 1 (He.ma K (He.ga K x) "__init__") fd ps (spErrV (He.ga K x) fl) ∧ Binds K fd ps []
theorem pmk_errV {X : Cx} {x fl : Str} {p pos : Pos} {e : Expr} {es : List Expr} {t : TA} {k : Nat} (M : ErrMV X.prog X.w X.K X.mg X.base x fl) (hr : Room k X.A) (hk : 2 ≤ k) (hg : Gl X x) (ha : PA X (e :: es) t) (hdb : (x == ("__debug__" : Str)) = false := by decide)
    (he : starEach (e :: es) X.env = (false, eval e X.env) :: starEach es X.env := by rfl) (hpl : (backTo pos (starEach es X.env)).any (·.1) = false := by rfl) :
    PMk X (.Call (.Name x p) (e :: es) [] pos) (tMkO (He.ga X.K x) (spErrV (He.ga X.K x) fl) [] t) := by
  obtain ⟨fd, ps, F, hb⟩ := M.i
  exact pmk_oex (CX := C8.CX0) (ds := []) (dvs := []) M.t.ox M.t.iC M.t.tI F (hr.mono hk) hb .nil C8.pass0 hg M.g ha hdb he hpl
end Td
set_option maxHeartbeats 4000000
namespace Td
open PySem PySem.Spec PyProof.Rows L2
/-! ### any text's lines and words -/
def tot (ws : List Str) : Nat := (ws.map fun x => x.length + 1).sum
theorem cs_len (x : Str) : (cs x).length = x.length := by unfold cs Str.length; simp
theorem spl_tot (c : Nat) : ∀ (l acc : List Nat), TL.spl [c] 0 acc l ≠ [] ∧ ((TL.spl [c] 0 acc l).map fun p => p.length + 1).sum = acc.length + l.length + 1
  | [], acc => by rw [TL.spl_nil]; exact ⟨List.cons_ne_nil _ _, by simp⟩
  | x :: l, acc => by
    cases h : TL.pre [c] (x :: l) with
    | true =>
      obtain ⟨h1, h2⟩ := spl_tot c l []
      rw [TL.spl_hit h]
      refine ⟨List.cons_ne_nil _ _, ?_⟩
      have e : ([c] : List Nat).length - 1 = 0 := rfl
      rw [e, List.map_cons, List.sum_cons, h2, List.length_cons, List.length_nil]
      omega
    | false =>
      obtain ⟨h1, h2⟩ := spl_tot c l (acc ++ [x])
      rw [TL.spl_miss h]
      refine ⟨h1, ?_⟩
      rw [h2, List.length_append, List.length_cons, List.length_cons, List.length_nil]
      omega
theorem split_tot {c : Nat} (hc : c < 256) (t : Str) : Txt.split t (SX.S [c]) ≠ [] ∧ tot (Txt.split t (SX.S [c])) = t.length + 1 := by
  have e := SX.split_S (a := cs t) (b := [c]) (List.cons_ne_nil _ _) (by simpa using hc)
  rw [S_cs] at e
  obtain ⟨h1, h2⟩ := spl_tot c (cs t) []
  rw [e]
  refine ⟨fun z => h1 (List.map_eq_nil_iff.mp z), ?_⟩
  unfold tot
  rw [List.map_map]
  have f : ((fun x : Str => x.length + 1) ∘ SX.S) = fun p => p.length + 1 := funext fun p => by
    show (SX.S p).length + 1 = p.length + 1
    rw [SX.S_len]
  rw [f, h2, cs_len, List.length_nil]
  omega
theorem tot_mem : ∀ {ws : List Str} {x : Str}, x ∈ ws → x.length + 1 ≤ tot ws
  | y :: ys, x, h => by
    have e : tot (y :: ys) = y.length + 1 + tot ys := by unfold tot; rw [List.map_cons, List.sum_cons]
    rcases List.mem_cons.mp h with rfl | h
    · omega
    · have := tot_mem h
      omega
theorem tot_len : ∀ ws : List Str, ws.length ≤ tot ws
  | [] => Nat.zero_le _
  | y :: ys => by
    have e : tot (y :: ys) = y.length + 1 + tot ys := by unfold tot; rw [List.map_cons, List.sum_cons]
    have := tot_len ys
    rw [List.length_cons]
    omega
def wordsL (l : Str) : List Str := Txt.split l " "
def linesT (t : Str) : List Str := Txt.split t "\n"
def wordsOf (t : Str) : List (List Str) := (linesT t).map wordsL
theorem linesT_tot (t : Str) : linesT t ≠ [] ∧ tot (linesT t) = t.length + 1 := by
  unfold linesT
  rw [nl_S]
  exact split_tot (by decide) t
theorem wordsL_tot (l : Str) : wordsL l ≠ [] ∧ tot (wordsL l) = l.length + 1 := by
  unfold wordsL
  rw [sp_S]
  exact split_tot (by decide) l
structure WOk (n : Nat) (ls : List (List Str)) : Prop where
  ne : ls ≠ []
  len : ls.length ≤ n + 1
  ok : ∀ l ∈ ls, l ≠ [] ∧ l.length ≤ n + 1 ∧ ∀ x ∈ l, x.length ≤ n
theorem wOk (t : Str) : WOk t.length (wordsOf t) := by
  obtain ⟨h1, h2⟩ := linesT_tot t
  refine ⟨fun z => h1 (List.map_eq_nil_iff.mp z), ?_, fun l hl => ?_⟩
  · unfold wordsOf
    rw [List.length_map]
    have := tot_len (linesT t)
    omega
  · obtain ⟨y, hy, rfl⟩ := List.mem_map.mp hl
    have e1 := tot_mem hy
    obtain ⟨g1, g2⟩ := wordsL_tot y
    refine ⟨g1, ?_, fun x hx => ?_⟩
    · have := tot_len (wordsL y)
      omega
    · have := tot_mem hx
      omega
/-! ### what a text of a state says -/
def fcB (ws : List Str) (rows : List (List Str)) : Bool := decide (ws.headD "" = "faces") && (decide (ws.tail.length = rows.length) && (ws.tail.zip rows).all fun p => decide (p.1 ∈ p.2.drop 1))
def wkB (ws : List Str) (before : Str) (rooms : List Str) : Bool := decide (ws.length = 3) && (decide (ws.headD "" = "walker") && (decide (Nm (ws.getD 1 "")) && (decide (before.cps.toList < (ws.getD 1 "").cps.toList) && decide (ws.getD 2 "" ∈ rooms))))
inductive Rd where
  | line (k : Nat)
  | data (ss : List Str) (rows : List (List Str))
def Rd.pre (ss : List Str) (pl : List (List Str)) : Rd → Rd
  | .line k => .line k
  | .data _ rows => .data ss (pl ++ rows)
def goS (rooms : List Str) : Nat → Str → List (List Str) → Rd
  | _, _, [] => .data [] []
  | k, before, w :: ls => if 5 < k then .line k else if wkB w before rooms then (goS rooms (k + 1) (w.getD 1 "") ls).pre [] [[w.getD 1 "", w.getD 2 ""]] else .line k
def rdS (rooms : List Str) (rows : List (List Str)) (ls : List (List Str)) : Rd := if fcB (ls.headD []) rows then (goS rooms 1 "" ls.tail).pre (ls.headD []).tail [] else .line 0
def dRd (w : Str) : Rd → PyData
  | .line k => .tuple [.str "line", .int (k : Nat)]
  | .data ss rows => .tuple [.str w, hsD ss rows]
/-! ### the promises -/
def spSplitG : Sp := fun vs H Q _ => ∃ t : Str, vs = [.str t] ∧ t.length ≤ 100000 ∧ ∀ p as H', Same H H' → H' p = some (.lst (as.map V.ref)) → LinesAt H' as (wordsOf t) → Q (.ref p) H'
def spFacesG : Sp := fun vs H Q _ => ∃ (l d : Addr) (ws : List Str) (rows : List (List Str)), vs = [.ref l, .ref d] ∧ H l = some (.lst (ws.map V.str)) ∧ ws ≠ [] ∧ ws.length ≤ 100001 ∧ Rows H d rows ∧ rows.length ≤ 12 ∧ (∀ r ∈ rows, ∃ n a b : Str, r = [n, a, b]) ∧ ∀ H', Same H H' → Q (.bl (fcB ws rows)) H'
def spWalkerG : Sp := fun vs H Q _ => ∃ (l r : Addr) (before : Str) (ws rooms : List Str), vs = [.ref l, .str before, .ref r] ∧ H l = some (.lst (ws.map V.str)) ∧ ws ≠ [] ∧ (∀ x ∈ ws, x.length ≤ 100000) ∧ H r = some (.tup (rooms.map V.str)) ∧ ∀ H', Same H H' → Q (.bl (wkB ws before rooms)) H'
def spParseS (K : PySem.W.Frag) : Sp := fun vs H Q E => ∃ (h : Addr) (t : Str) (rooms : List Str) (rows : List (List Str)), vs = [.ref h, .str t] ∧ HS H h rooms rows ∧ HallV rooms rows ∧ t.length ≤ 100000 ∧
  (∀ ss pl, rdS rooms rows (wordsOf t) = .data ss pl → ∀ p H', Same H H' → HS H' p ss pl → Q (.ref p) H') ∧
  (∀ k, rdS rooms rows (wordsOf t) = .line k → ∀ H', Same H H' → ∀ d, H' d = none → E (.ref (He.ga K "InvalidText")) (some d) (upd H' d (.xd [("line", .int (k : Nat))])))
def spReadS : Sp := fun vs H Q _ => ∃ (h : Addr) (t : Str) (rooms : List Str) (rows : List (List Str)), vs = [.ref h, .str t] ∧ HS H h rooms rows ∧ HallV rooms rows ∧ t.length ≤ 100000 ∧ ∀ p H', Same H H' → DR H' 5 (.ref p) (dRd "state" (rdS rooms rows (wordsOf t))) → Q (.ref p) H'
def spSign : Sp := fun vs H Q _ => ∃ b : Addr, vs = [.ref b] ∧ Box H b ∧ ∀ (c : Str) H', c.length ≤ 1 → Box H' b → Ch b H H' → Q (.str c) H'
def spLineCh : Sp := fun vs H Q _ => ∃ (b l kn : Addr) (ws ks : List Str), vs = [.ref b, .ref l, .ref kn] ∧ Box H b ∧ H l = some (.lst (ws.map V.str)) ∧ ws ≠ [] ∧ tot ws ≤ 100001 ∧ H kn = some (.lst (ks.map V.str)) ∧ ks.length ≤ 40 ∧ (∀ x ∈ ks, x.length ≤ 20) ∧
  ∀ p (us : List Str) H', H' p = some (.lst (us.map V.str)) → tot us ≤ 2 * tot ws + 30 → Box H' b → Ch b H H' → Q (.ref p) H'
def spChanged : Sp := fun vs H Q _ => ∃ (b kn : Addr) (t : Str) (ks : List Str), vs = [.ref b, .str t, .ref kn] ∧ Box H b ∧ t.length ≤ 100000 ∧ H kn = some (.lst (ks.map V.str)) ∧ ks.length ≤ 40 ∧ (∀ x ∈ ks, x.length ≤ 20) ∧
  ∀ (u : Str) H', u.length ≤ 3 * t.length + 40 → Box H' b → Ch b H H' → Q (.str u) H'
def spLawNm : Sp := fun vs H Q _ => ∃ x : Str, vs = [.str x] ∧ x.length ≤ 100000 ∧ ∀ H', Same H H' → Q (.bl (decide (Nm x))) H'
end Td
set_option maxHeartbeats 4000000
namespace Td
open PySem PySem.Spec PyProof.Rows L2
/-! ### xs == [], xs != [], whatever stands in xs -/
def rEqE (K : PySem.W.Frag) : R2 := fun x y H Q => ∃ (a b : Addr) (xs : List V), x = .ref a ∧ y = .ref b ∧ SqL K H a xs ∧ SqL K H b [] ∧ Q (.bl xs.isEmpty) H
def rNeE (K : PySem.W.Frag) : R2 := fun x y H Q => ∃ (a b : Addr) (xs : List V), x = .ref a ∧ y = .ref b ∧ SqL K H a xs ∧ SqL K H b [] ∧ Q (.bl (!xs.isEmpty)) H
section
variable {X : Cx}
theorem op_eqE (hu : X.A.units + 64 < cLine) : OpR X (compareOp .Eq) (rEqE X.K) := by
  intro pins s σ H x y v u Q I rx ry h
  obtain ⟨a, b, xs, rfl, rfl, ha, hb, q⟩ := h
  cases rx
  cases ry
  obtain ⟨i1, r1, p1, _⟩ := I.list ha
  obtain ⟨i2, r2, p2, _⟩ := I.list hb
  have l1 := r1.length
  have l2 := r2.length
  cases xs with
  | nil =>
    have e : i1.toArray.size = i2.toArray.size := by rw [List.size_toArray, List.size_toArray, ← l1, ← l2]
    refine SeqAt.RcAt.lists (e := fun _ => true) p1.isList p2.isList e (by omega) (fun j h1 h2 => ?_) X.prog X.w _ _ ⟨.bl true, H, I, ?_, q⟩
    · rw [List.size_toArray, ← l1] at h1
      cases h1
    · show Value.bool _ = Value.bool true
      rw [List.size_toArray, ← l1]
      rfl
  | cons x xs =>
    refine SeqAt.RcAt.lists_lengths p1.isList p2.isList ?_ (by omega) X.prog X.w _ _ ⟨.bl false, H, I, rfl, q⟩
    rw [List.size_toArray, List.size_toArray, ← l1, ← l2]
    rfl
theorem op_neE (hu : X.A.units + 64 < cLine) : OpR X (compareOp .NotEq) (rNeE X.K) := by
  intro pins s σ H x y v u Q I rx ry h
  obtain ⟨a, b, xs, rfl, rfl, ha, hb, q⟩ := h
  cases rx
  cases ry
  obtain ⟨i1, r1, p1, _⟩ := I.list ha
  obtain ⟨i2, r2, p2, _⟩ := I.list hb
  have l1 := r1.length
  have l2 := r2.length
  cases xs with
  | nil =>
    have e : i1.toArray.size = i2.toArray.size := by rw [List.size_toArray, List.size_toArray, ← l1, ← l2]
    refine SeqAt.RcNeAt.lists (e := fun _ => true) p1.isList p2.isList e (by omega) (fun j h1 h2 => ?_) X.prog X.w _ _ ⟨.bl false, H, I, ?_, q⟩
    · rw [List.size_toArray, ← l1] at h1
      cases h1
    · show Value.bool _ = Value.bool false
      rw [List.size_toArray, ← l1]
      rfl
  | cons x xs =>
    refine SeqAt.RcNeAt.lists_lengths p1.isList p2.isList ?_ (by omega) X.prog X.w _ _ ⟨.bl true, H, I, rfl, q⟩
    rw [List.size_toArray, List.size_toArray, ← l1, ← l2]
    rfl
end
end Td
set_option maxHeartbeats 4000000
namespace Td
open PySem PySem.Spec PyProof.Rows L2
/-! ### how long texts get -/
theorem tot_cons (x : Str) (l : List Str) : tot (x :: l) = x.length + 1 + tot l := by unfold tot; rw [List.map_cons, List.sum_cons]
theorem tot_app (l m : List Str) : tot (l ++ m) = tot l + tot m := by unfold tot; rw [List.map_append, List.sum_append]
theorem tot_split (l : List Str) (n : Nat) : tot (l.take n) + tot (l.drop n) = tot l := by rw [← tot_app, List.take_append_drop]
theorem tot_take (l : List Str) (n : Nat) : tot (l.take n) ≤ tot l := by have := tot_split l n; omega
theorem tot_drop (l : List Str) (n : Nat) : tot (l.drop n) ≤ tot l := by have := tot_split l n; omega
theorem tot_drop_le (l : List Str) {m n : Nat} (h : m ≤ n) : tot (l.drop n) ≤ tot (l.drop m) := by
  obtain ⟨k, rfl⟩ : ∃ k, n = m + k := ⟨n - m, by omega⟩
  rw [← List.drop_drop]
  exact tot_drop _ _
theorem tot_rev (l : List Str) : tot l.reverse = tot l := by
  unfold tot
  rw [List.map_reverse, List.sum_reverse]
theorem tot_nil : tot [] = 0 := rfl
theorem tot_sum (l : List Str) : (l.map (·.length)).sum + l.length * 1 = tot l := by
  induction l with
  | nil => rfl
  | cons x l ih =>
    rw [tot_cons, List.map_cons, List.sum_cons, List.length_cons]
    omega
theorem joinL_le (c : Nat) : ∀ ps : List (List Nat), (TL.joinL [c] ps).length ≤ (ps.map fun p => p.length + 1).sum
  | [] => Nat.zero_le _
  | [p] => by
    show p.length ≤ _
    simp
  | p :: q :: r => by
    have ih := joinL_le c (q :: r)
    have e2 : (TL.joinL [c] (p :: q :: r)).length = p.length + (1 + (TL.joinL [c] (q :: r)).length) := by
      show (p ++ ([c] ++ TL.joinL [c] (q :: r))).length = _
      rw [List.length_append, List.length_append, List.length_singleton]
    rw [e2, List.map_cons, List.sum_cons]
    omega
theorem join_tot (c : Nat) (ys : List Str) : (Txt.join (SX.S [c]) ys).length ≤ tot ys := by
  rw [join_cs, SX.S_len]
  refine Nat.le_trans (joinL_le c _) ?_
  unfold tot
  rw [List.map_map]
  refine Nat.le_of_eq (congrArg List.sum (List.map_congr_left fun x _ => ?_))
  show (cs x).length + 1 = x.length + 1
  rw [cs_len]
theorem lineJ_tot (ys : List Str) : (Txt.join "\n" ys).length ≤ tot ys := by rw [nl_S]; exact join_tot 10 ys
theorem wordJ_tot (ys : List Str) : (Txt.join " " ys).length ≤ tot ys := by rw [sp_S]; exact join_tot 32 ys
/-- a cut of texts is texts -/
theorem cut_strs (ss : List Str) (lo hi : Option Int) : ∃ us : List Str, cutV (ss.map V.str) lo hi = us.map V.str ∧ tot us ≤ tot ss := by
  have e : ∀ i n : Nat, ((ss.map V.str).drop i).take n = ((ss.drop i).take n).map V.str := fun i n => by rw [List.map_take, List.map_drop]
  unfold cutV
  exact ⟨_, e _ _, Nat.le_trans (tot_take _ _) (tot_drop _ _)⟩
theorem cut_hi (ss : List Str) {n : Nat} (h : n ≤ ss.length) : cutV (ss.map V.str) none (some (n : Int)) = (ss.take n).map V.str := by
  rw [cut_to (by omega), Int.toNat_natCast, List.map_take]
theorem cut_lo (ss : List Str) (n : Nat) : cutV (ss.map V.str) (some (n : Int)) none = (ss.drop n).map V.str := by rw [cut_from, List.map_drop]
end Td
set_option maxHeartbeats 4000000
namespace Td
open PySem PySem.Spec PyProof.Rows L2
theorem neF {a b : V} (h : a ≠ b) : (!decide (a = b)) = true := by rw [decide_eq_false h]; rfl
section
variable {P : Program} {w : World} {K : PySem.W.Frag} {mg : Str → Option Value} {base : Heap} {f : Addr} {fd : FuncData}
theorem box_ne {H : Hp} {b l : Addr} {ss : List Str} (B : Box H b) (h : H l = some (.lst (ss.map V.str))) : l ≠ b := fun e => by
  obtain ⟨c, s, n, hb, _⟩ := B
  rw [e, hb] at h
  have z := Option.some.inj h
  injection z with z
  cases ss with
  | nil => cases z
  | cons x xs => cases z
theorem map_one (xs : List Str) (y : Str) : xs.map V.str ++ [V.str y] = (xs ++ [y]).map V.str := by rw [List.map_append]; rfl
theorem map_two (xs ys : List Str) : xs.map V.str ++ ys.map V.str = (xs ++ ys).map V.str := by rw [List.map_append]
theorem slE {K : PySem.W.Frag} {H : Hp} {l : Addr} {ss us : List Str} {lo hi : Option Int} {Q : VK} (h : H l = some (.lst (ss.map V.str))) (e : cutV (ss.map V.str) lo hi = us.map V.str) (q : ∀ p H', H' p = some (.lst (us.map V.str)) → Same H H' → Q (.ref p) H') : rSlL K (.ref l) lo hi H Q :=
  ⟨l, _, rfl, SqL.of h, fun p hp => q p _ (by rw [e]; exact upd_same) (same_new hp _)⟩
theorem slN {K : PySem.W.Frag} {σ : L2.St} {H : Hp} {l : Addr} {ss us : List Str} {lo : Option Int} {Q : VK} (h : H l = some (.lst (ss.map V.str))) (e : cutV (ss.map V.str) lo none = us.map V.str) (q : ∀ p H', H' p = some (.lst (us.map V.str)) → Same H H' → Q (.ref p) H') : tNoPart σ H (fun u H3 => rSlL K (.ref l) lo u H3 Q) := slE h e q
theorem catL {H : Hp} {a c : Addr} {us ws : List Str} {Q : VK} (ha : H a = some (.lst (us.map V.str))) (hc : H c = some (.lst (ws.map V.str))) (hz : us.length + ws.length ≤ 1000) (q : ∀ p H', H' p = some (.lst ((us ++ ws).map V.str)) → Same H H' → Q (.ref p) H') : rCat (.ref a) (.ref c) H Q := by
  refine ⟨a, c, _, _, rfl, rfl, ha, hc, ?_, fun p hp => q p _ (by rw [map_two]; exact upd_same) (same_new hp _)⟩
  rw [List.length_map, List.length_map]
  exact Nat.le_trans hz (by decide)
theorem catE {H : Hp} {a c : Addr} {us ws : List Str} {Q : VK} (ha : H a = some (.lst (us.map V.str))) (hc : H c = some (.lst (ws.map V.str))) (hz : tot us + tot ws ≤ 1000000) (q : ∀ p H', H' p = some (.lst ((us ++ ws).map V.str)) → Same H H' → Q (.ref p) H') : rCat (.ref a) (.ref c) H Q := by
  have h1 := tot_len us
  have h2 := tot_len ws
  refine ⟨a, c, _, _, rfl, rfl, ha, hc, ?_, fun p hp => q p _ (by rw [map_two]; exact upd_same) (same_new hp _)⟩
  rw [List.length_map, List.length_map]
  exact Nat.le_trans (show us.length + ws.length ≤ 1000000 by omega) (by decide)
theorem bxs {H H' : Hp} {b : Addr} (B : Box H b) (z : Same H H') : Box H' b := by
  obtain ⟨c, s, m, e, x⟩ := B
  exact ⟨c, s, m, z _ _ e, x⟩
theorem str_len_app (x y : Str) : (x ++ y).length = x.length + y.length := Array.size_append
theorem S_cs' (t : Str) : SX.S (cs t) = t := rfl
theorem sl_to_len (t : Str) {i : Int} (h : 0 ≤ i) : (Txt.slice t none (some i)).length ≤ t.length := by
  rw [← S_cs' t, SX.slice_to h, SX.S_len, SX.S_len, List.length_take]
  omega
theorem sl_fr_len (t : Str) {i : Int} (h : 0 ≤ i) : (Txt.slice t (some i) none).length ≤ t.length := by
  rw [← S_cs' t, SX.slice_from h, SX.S_len, SX.S_len, List.length_drop]
  omega
theorem int_nat {r m : Int} (h0 : 0 ≤ r) (h1 : r < m) : ∃ n : Nat, r = (n : Int) ∧ (n : Int) < m := ⟨r.toNat, by omega, by omega⟩
theorem dint_f {i j : Int} (h : i ≠ j) : decide (V.int i = V.int j) = false := by rw [dec_int]; exact beq_false_of_ne h
theorem dint_t {i j : Int} (h : i = j) : decide (V.int i = V.int j) = true := by rw [dec_int]; exact beq_iff_eq.mpr h
end
end Td
set_option maxHeartbeats 4000000
namespace Td
open PySem PySem.Spec PyProof.Rows L2
/-! ### a row, as repr shows it -/
def rowD (l : List Deed) : PyData := .list ((l.map pr).map sD)
theorem RowL.dp {K : PySem.W.Frag} {H : Hp} {p : Addr} {l : List Deed} (h : RowL H p l) : Dp K H (.ref p) (rowD l) := by
  obtain ⟨as, h1, h2⟩ := h
  exact .lst (SqL.of h1) (dp_rows h2)
theorem NmD.shows {l : List Deed} (h : NmD l) (h64 : l.length ≤ 64) : Shows (rowD l) := by
  have hn : ∀ r ∈ l.map pr, (∀ x ∈ r, Nm x) ∧ r.length = 2 := fun r hr => by
    obtain ⟨p, hp, rfl⟩ := List.mem_map.mp hr
    refine ⟨fun x hx => ?_, rfl⟩
    rcases List.mem_cons.mp hx with rfl | hx
    · exact (h p hp).1
    · rw [List.mem_singleton.mp hx]
      exact (h p hp).2
  have hl : (l.map pr).length ≤ 64 := by rw [List.length_map]; exact h64
  unfold rowD
  generalize l.map pr = rows at hn hl
  have d2 := depth_map sD 3 depth_sD rows
  have w2 := weightAll_map sD 14 rows fun r hr => Nat.le_trans (weight_sD (hn r hr).1) (by have := (hn r hr).2; omega)
  have s1 : ∀ ss : List Str, (sD ss).showable = true := fun ss => by unfold sD; rw [PyData.showable]; exact showAll_map _ ss fun a _ => by rw [PyData.showable]
  have n1 : ∀ ss : List Str, (sD ss).hasDict = false := fun ss => by unfold sD; rw [PyData.hasDict]; exact noDictAll_map _ ss fun a _ => by rw [PyData.hasDict]
  refine ⟨?_, ?_, ?_, PyData.shown_fits (B := 8) (by decide) (by decide) ?_ ?_⟩
  · simp only [PyData.showable, showAll_map sD rows fun r _ => s1 r]
  · simp only [PyData.hasDict, noDictAll_map sD rows fun r _ => n1 r]
  · simp only [PyData.depth]
    omega
  · simp only [PyData.leavesShort, shortAll_map sD rows fun r hr => short_sD (hn r hr).1]
  · simp only [PyData.weight]
    omega
theorem rowL_eqv {H : Hp} {a : Addr} {xs : List V} {l : List Deed} (h : RowL H a l) : True := trivial
end Td
set_option maxHeartbeats 4000000
namespace Td
open PySem PySem.Spec PyProof.Rows L2
/-! ### a tuple of which the whole object is known: tuple(list) gives one, its methods can be called -/
def TZ (H : Hp) (a : Addr) (xs : List V) : Prop := ∃ o : Obj, (o.cls = .type "tuple" ∧ o.dict = none) ∧ H a = some (.frz o (.tup xs))
theorem TZ.sq {K : PySem.W.Frag} {H : Hp} {a : Addr} {xs : List V} (h : TZ H a xs) : SqT K H a xs := by
  obtain ⟨o, _, h⟩ := h
  exact .inl (.inr ⟨o, h⟩)
theorem TZ.same {H H' : Hp} {a : Addr} {xs : List V} (s : Same H H') (h : TZ H a xs) : TZ H' a xs := by
  obtain ⟨o, z, h⟩ := h
  exact ⟨o, z, s _ _ h⟩
theorem TZ.ne {H : Hp} {a b : Addr} {xs : List V} {u : HO} (h : TZ H a xs) (hb : H b = some u) (hu : ∀ o y, u ≠ .frz o y) : a ≠ b := fun e => by
  obtain ⟨o, _, h⟩ := h
  rw [e, hb] at h
  exact hu _ _ (Option.some.inj h)
theorem TZ.ch {H H' : Hp} {a b : Addr} {xs : List V} (c : Ch b H H') (B : Box H b) (h : TZ H a xs) : TZ H' a xs := by
  have n : a ≠ b := by
    obtain ⟨x, y, z, hb, _⟩ := B
    exact h.ne hb fun o y e => by cases e
  obtain ⟨o, z, h⟩ := h
  exact ⟨o, z, c _ _ n h⟩
theorem TZ.mut {H : Hp} {a p : Addr} {xs : List V} {u : HO} (h : TZ H a xs) (hp : H p = some u) (hu : ∀ o y, u ≠ .frz o y) (u' : HO) : TZ (upd H p u') a xs := by
  have n := h.ne hp hu
  obtain ⟨o, z, h⟩ := h
  exact ⟨o, z, by rw [upd_ne n]; exact h⟩
/-- a state (or a hall) whose first tuple is so -/
def HZ (H : Hp) (h : Addr) (ss : List Str) (rows : List (List Str)) : Prop := ∃ r d : Addr, H h = some (.tup [.ref r, .ref d]) ∧ TZ H r (ss.map V.str) ∧ Rows H d rows
theorem HZ.same {H H' : Hp} {h : Addr} {ss : List Str} {rows : List (List Str)} (s : Same H H') (x : HZ H h ss rows) : HZ H' h ss rows := by
  obtain ⟨r, d, h1, h2, h3⟩ := x
  exact ⟨r, d, s _ _ h1, h2.same s, h3.tu (Tu.same s)⟩
theorem HZ.ch {H H' : Hp} {h b : Addr} {ss : List Str} {rows : List (List Str)} (c : Ch b H H') (B : Box H b) (x : HZ H h ss rows) : HZ H' h ss rows := by
  obtain ⟨r, d, h1, h2, h3⟩ := x
  exact ⟨r, d, Tu.of c B _ _ h1, h2.ch c B, h3.tu (Tu.of c B)⟩
theorem HZ.mut {H : Hp} {h p : Addr} {ss : List Str} {rows : List (List Str)} {us : List V} (x : HZ H h ss rows) (hp : H p = some (.lst us)) (us' : List V) : HZ (upd H p (.lst us')) h ss rows := by
  obtain ⟨r, d, h1, h2, h3⟩ := x
  have t : Tu H (upd H p (.lst us')) := fun a xs h => by
    rw [upd_ne (fun e => by rw [e, hp] at h; cases h)]
    exact h
  exact ⟨r, d, t _ _ h1, h2.mut hp (fun o y e => by cases e) _, h3.tu t⟩
section
variable {X : Cx}
def rTpZ (K : PySem.W.Frag) : List V → Hp → VK → Prop := fun xs H Q => ∃ p ys, xs = [.ref p] ∧ SqL K H p ys ∧ ∀ (l : Addr) (o : Obj), H l = none → (o.cls = .type "tuple" ∧ o.dict = none) → Q (.ref l) (upd H l (.frz o (.tup ys)))
theorem call_tuple_ofZ : CallR X (.type "tuple") (rTpZ X.K) := by
  intro pins s σ H xs us Q I r h
  obtain ⟨p, ys, rfl, hq, q⟩ := h
  obtain ⟨u, rfl, rx⟩ := vals1 r
  cases rx
  obtain ⟨its, r', pl, hz⟩ := I.list hq
  have hlen := r'.length
  have hn := line63
  refine call_tuple_list pl.isList (fun h' kp => ?_) (by simp only [List.size_toArray] <;> omega)
  have I1 : Inv X pins σ H { s with heap := h' } := I.kept (t' := s.toks) kp
  have I2 : Inv X pins σ (upd H h'.objs.size (.frz { cls := .type "tuple", data := .seq its.toArray } (.tup ys))) { s with heap := h'.push { cls := .type "tuple", data := .seq its.toArray } } :=
    I1.laid (t' := s.toks) (fun b o e => Heap.get?_push_of_some _ e) (Nat.le_refl _) (show ObjOk X.prog X.w _ _ _ (.frz _ (.tup ys)) from ⟨Heap.get?_push_size _ rfl, hz, its, r', IsTup.new _ _⟩)
  exact ⟨.ref h'.objs.size, _, I2, rfl, q _ _ (I1.hok.fresh (Nat.le_refl _)) ⟨rfl, rfl⟩⟩
theorem tz_is {pins : List (Addr × Obj)} {σ : L2.St} {H : Hp} {s : Shared} {a : Addr} {xs : List V} {v : Value} (I : Inv X pins σ H s) (r : RelV (.ref a) v) (h : TZ H a xs) :
    s.TypeIs v "tuple" ∧ ∀ a, v = .ref a → ∃ ob, s.heap.get? a = some ob ∧ ob.dict = none := by
  cases r
  obtain ⟨o, ⟨h1, h2⟩, h⟩ := h
  obtain ⟨e, _⟩ := (show ObjOk X.prog X.w H s.heap a (.frz o (.tup xs)) from I.hok a _ h)
  exact ⟨⟨o, e, h1⟩, fun a' e' => by cases e'; exact ⟨o, e, h2⟩⟩
def tCntZ (K : PySem.W.Frag) (to : TE) (t : TA) : TE := fun σ H Q => to σ H fun x H1 => (∃ a xs, x = .ref a ∧ TZ H1 a xs) ∧ t σ H1 fun zs H2 => rCntST K x zs H2 Q
variable {o e : Expr} {es : List Expr} {to : TE} {t : TA} {apos cpos : Pos}
theorem pe_cntZ (ho : PE X o to) (ha : PA X (e :: es) t)
    (hbase : attributeBase o "count" X.env (eval o X.env) = eval o X.env := by rfl)
    (hfew : ((backTo cpos (starEach (e :: es) X.env)).all (fun x => !x.1) && (backToKw cpos (keywordEach [] X.env)).all (fun x => x.1.isSome)
      && decide ((e :: es).length + ([] : List Keyword).length + (if ([] : List Keyword).isEmpty then 0 else 1) < 30)) = true := by rfl)
    (hline : (apos.endLine == cpos.line) = true := by rfl) (hs : starEach (e :: es) X.env = (false, eval e X.env) :: starEach es X.env := by rfl) (hplain : (backTo cpos (starEach es X.env)).any (·.1) = false := by rfl) :
    PE X (.Call (.Attribute o "count" apos) (e :: es) [] cpos) (tCntZ X.K to t) := by
  refine ⟨fun pins s σ H Q I h => ?_⟩
  refine wpAny_Call_method_late hbase hfew hline rfl (thn (ho.run pins s σ H _ I h) fun v s1 ⟨x, H1, I1, r1, ty, q1⟩ => ?_)
  obtain ⟨a, xs, rfl, hz⟩ := ty
  obtain ⟨h1, h2⟩ := tz_is I1 r1 hz
  refine ⟨"tuple", "tuple.count", PySem.F.plainAttrs_tuple, PySem.F.slot_tuple_count, PySem.F.type_tuple_count, h1, h2, ?_⟩
  have hA := ha.run cpos pins s1 σ H1 _ I1 q1
  rw [hs] at hA ⊢
  refine Calls.callWith_builtin (by show (false || (backTo cpos (starEach es X.env)).any (·.1)) = false; rw [hplain] <;> rfl) (Calls.evalArgs_plain ?_)
  exact thn hA fun us s2 ⟨vs, H2, I2, r2, q2⟩ => mt_countST pins s2 σ H2 (.ref a) vs v us Q I2 r1 r2 q2
end
/-! ### the promises of counts and crowds, for states that have such faces -/
def spStateZ : Sp := fun vs H Q _ => ∃ (b h : Addr) (m : Int) (rooms : List Str) (rows : List (List Str)), vs = [.ref b, .ref h, .int m] ∧ Box H b ∧ HS H h rooms rows ∧ HallV rooms rows ∧ 0 ≤ m ∧ m ≤ 5 ∧
  ∀ p faces places H', HZ H' p faces places → StV rooms rows faces places → (places.length : Int) ≤ m → Box H' b → Ch b H H' → Q (.ref p) H'
def spCrowdZ : Sp := fun vs H Q _ => ∃ (h st : Addr) (rooms : List Str) (rows : List (List Str)) (faces : List Str) (places : List (List Str)), vs = [.ref h, .ref st] ∧ HS H h rooms rows ∧ HallV rooms rows ∧ HZ H st faces places ∧ StV rooms rows faces places ∧
  ∀ p H', Same H H' → H' p = some (.tup ((crN rooms places).map V.int)) → Q (.ref p) H'
def spCountsZ : Sp := fun vs H Q _ => ∃ (h st : Addr) (rooms : List Str) (rows : List (List Str)) (faces : List Str) (places : List (List Str)), vs = [.ref h, .ref st] ∧ HS H h rooms rows ∧ HallV rooms rows ∧ HZ H st faces places ∧ StV rooms rows faces places ∧
  ∀ p H', Same H H' → H' p = some (.tup ((coN rooms faces places).map V.int)) → Q (.ref p) H'
def spRoomZ (C : Addr) : Sp := fun vs H Q E => ∃ (st : Addr) (x : Str) (faces : List Str) (places : List (List Str)), vs = [.ref st, .str x] ∧ HZ H st faces places ∧ (∀ p ∈ places, ∃ w r : Str, p = [w, r]) ∧
  (∀ r, rmOf places x = some r → ∀ H', Same H H' → Q (.str r) H') ∧ (rmOf places x = none → ∀ H', Same H H' → ∀ d, H' d = none → E (.ref C) (some d) (upd H' d (.xd [("name", .str x)])))
def spPassedZ : Sp := fun vs H Q _ => ∃ (h st : Addr) (w n : Str) (rooms : List Str) (rows : List (List Str)) (faces : List Str) (places : List (List Str)), vs = [.ref h, .ref st, .str w, .str n] ∧ HS H h rooms rows ∧ HallV rooms rows ∧ HZ H st faces places ∧ StV rooms rows faces places ∧
  WayOk rows faces places w n ∧ ∀ p faces' places' H', Same H H' → HZ H' p faces' places' → StV rooms rows faces' places' → Q (.ref p) H'
def spDeedsZ : Sp := fun vs H Q _ => ∃ (h st : Addr) (rooms : List Str) (rows : List (List Str)) (faces : List Str) (places : List (List Str)), vs = [.ref h, .ref st] ∧ HS H h rooms rows ∧ HallV rooms rows ∧ HZ H st faces places ∧ StV rooms rows faces places ∧
  ∀ p (as : List Addr) (ws : List (List Str)) H', H p = none → Same H H' → H' p = some (.lst (as.map V.ref)) → RowsAt H' as ws → ws.length ≤ 60 → (∀ x ∈ ws, ∃ w n : Str, x = [w, n] ∧ WayOk rows faces places w n) → Q (.ref p) H'
def spWalkZ : Sp := fun vs H Q _ => ∃ (b h st : Addr) (m : Int) (rooms : List Str) (rows : List (List Str)) (faces : List Str) (places : List (List Str)), vs = [.ref b, .ref h, .ref st, .int m] ∧ Box H b ∧ HS H h rooms rows ∧ HallV rooms rows ∧ HZ H st faces places ∧ StV rooms rows faces places ∧ 0 ≤ m ∧ m ≤ 40 ∧
  ∀ p row s2 faces' places' H', H' p = some (.tup [.ref row, .ref s2]) → HZ H' s2 faces' places' → StV rooms rows faces' places' → Box H' b → Ch b H H' → Q (.ref p) H'
def spRightZ : Sp := fun vs H Q _ => ∃ (h st : Addr) (rooms : List Str) (rows : List (List Str)) (faces : List Str) (places : List (List Str)), vs = [.ref h, .ref st] ∧ HS H h rooms rows ∧ HallV rooms rows ∧ HZ H st faces places ∧ StV rooms rows faces places ∧
  ∀ H', Same H H' → Q (.bl true) H'
def spUnkZ : Sp := fun vs H Q _ => ∃ (st : Addr) (x : Str) (faces : List Str) (places : List (List Str)), vs = [.ref st, .str x] ∧ HZ H st faces places ∧ (∀ p ∈ places, ∃ w r : Str, p = [w, r]) ∧ rmOf places x = none ∧ ∀ H', Same H H' → Q (.str x) H'
def spStrZ : Sp := fun vs H Q _ => ∃ (b h st l : Addr) (rooms : List Str) (rows : List (List Str)) (faces : List Str) (places : List (List Str)) (ts : List Str), vs = [.ref b, .ref h, .ref st, .ref l] ∧ Box H b ∧ HS H h rooms rows ∧ HallV rooms rows ∧ HZ H st faces places ∧ StV rooms rows faces places ∧
  H l = some (.lst (ts.map V.str)) ∧ l ≠ b ∧ ∀ p (ss : List Str) H', H' p = some (.lst (ss.map V.str)) → p ≠ b → ss.length ≤ 60 → (∀ x ∈ ss, x ∉ ts) → Box H' b → Ch b H H' → Q (.ref p) H'
end Td
set_option maxHeartbeats 4000000
namespace Td
open PySem PySem.Spec PyProof.Rows L2
def spSomeSt : Sp := fun vs H Q _ => ∃ (b h : Addr) (rooms : List Str) (rows : List (List Str)), vs = [.ref b, .ref h] ∧ Box H b ∧ HS H h rooms rows ∧ HallV rooms rows ∧
  ∀ p faces places H', HZ H' p faces places → StV rooms rows faces places → Box H' b → Ch b H H' → Q (.ref p) H'
section
variable {P : Program} {w : World} {K : PySem.W.Frag} {mg : Str → Option Value} {base : Heap} {f : Addr} {fd : FuncData}
abbrev s_law_some_state : Stmt := top 52
abbrev n_law_some_state : List Str := ["box", "hall", "door", "places", "faces", "titles", "name", "title"]
theorem sc_law_some_state : FnScope n_law_some_state ["box", "hall"] (defScope s_law_some_state) := ⟨rfl, rfl, rfl, by decide +kernel, rfl, by decide +kernel, by decide +kernel⟩
theorem ok_law_some_state (F : FnP K "_law_some_state" s_law_some_state f fd) (hm : mg "_law_some_state" = some (.ref f)) (c_law_names : Cal P w K mg base 2 "_law_names" spNames) (c_law_take : Cal P w K mg base 1 "_law_take" spTake) (m_len : mg "len" = none) (m_list : mg "list" = none) (m_sorted : mg "sorted" = none) (m_tuple : mg "tuple" = none) :
    Cal P w K mg base 3 "_law_some_state" spSomeSt := by
  refine cal_of (F.ok sc_law_some_state (fun vs H Q E h => ?_) (fun cdv A outer s H vs Q E hr h => ?_)) hm F.kp (F.bindsN (ps := ["box", "hall"]) fun _ _ _ _ _ _ us hl => match us, hl with | [_, _], _ => rfl)
  · obtain ⟨b, hl, rooms, rows, rfl, hB, hHS, hV, q⟩ := h
    rfl
  obtain ⟨b, hl, rooms, rows, rfl, hB, hHS, hV, q⟩ := h
  have nd := sc_law_some_state.nd
  refine ⟨_, PSs.nox (pss_cons (ps_par (i := 4) (j := 5) (by rfl) nd rfl rfl (by decide) rfl rfl (pa_cons (pe_lst pa_nil) (pa_cons (C8.pe_c c_law_names hr (by omega) (by rfl) (pa_cons (pv 0) (pa_cons (pe_op op_add pe_int (C8.pe_c c_law_take hr (by omega) (by rfl) (pa_cons (pv 0) (pa_cons pe_int pa_nil)))) pa_nil))) pa_nil)) (by rfl))
    (C8.pss_cut (ps_if (pt_cmpR op_eq (C8.pe_c c_law_take hr (by omega) (by rfl) (pa_cons (pv 0) (pa_cons pe_int pa_nil))) pe_int (nomark _)) (pss_one (ps_set (i := 5) nd rfl (Or.inl rfl) (pe_slice (r := rSlL K) sl_list (pe_op op_cat (pe_callTy (r := rLsOf K) call_list_of (by rfl) m_list (by decide +kernel) (pa_cons (pe_ix (r := rIxT K) ix_tup (pv 1) pe_int (fun _ _ => rfl)) pa_nil)) (pe_lc (own := [("title", 7)]) (g := (gName 7)) (by rfl) nd (pi_list (pv 5)) (blkOk_by (own := [("title", 7)]) (N := n_law_some_state) (sc := defScope s_law_some_state) (by decide +kernel)) (fun _ _ _ _ _ => (pg_name (i := 7) nd rfl (Or.inl rfl))) (fun _ _ _ _ _ => (pts_one (pt_cmpR (r := rIn K true) op_notIn_seq (pv 7) (pe_ix (r := rIxT K) ix_tup (pv 1) pe_int (fun _ _ => rfl)) (by rfl)))) (fun _ _ _ _ _ => (pv 7)))) po_none (po_some (pe_callB (r := rLn K) call_len_seq (by rfl) m_len PySem.boot_len (pa_cons (pv 5) pa_nil)))))) pss_nil)
    (C8.pss_cut (ps_for PassesOwn.never rfl (pi_tup (pe_ix (r := rIxT K) ix_tup (pv 1) pe_int (fun _ _ => rfl))) (pg_name (i := 2) nd rfl (Or.inl rfl)) (pss_one (ps_expr (show PE _ _ (tBM K _ _ _ _) from pe_bm PySem.F.plainAttrs_list PySem.F.slot_list_append PySem.F.type_list_append mt_append (pv 4) (pa_cons (pe_ix (r := rIxT K) ix_tup (pv 2) (pe_op op_add pe_int (C8.pe_c c_law_take hr (by omega) (by rfl) (pa_cons (pv 0) (pa_cons pe_int pa_nil)))) (fun _ _ => rfl)) pa_nil)))))
    (pss_cons (ps_setLc (i := 3) (own := [("name", 6)]) (g := (gName 6)) (by rfl) nd rfl rfl (sw_true rfl rfl rfl (by decide +kernel)) (pi_list (pe_callB (r := rSortedS K) cr_sortedS (by rfl) m_sorted (by decide +kernel) (pa_cons (pv 5) pa_nil))) (blkOk_by (own := [("name", 6)]) (N := n_law_some_state) (sc := defScope s_law_some_state) (by decide +kernel)) (fun _ _ _ _ _ => (pg_name (i := 6) nd rfl (Or.inl rfl))) (fun _ _ _ _ _ => pts_nil) (fun _ _ _ _ _ => (pe_tup (pa_cons (pv 6) (pa_cons (pe_ix (r := rIxT K) ix_tup (pe_ix (r := rIxT K) ix_tup (pv 1) pe_int (fun _ _ => rfl)) (C8.pe_c c_law_take hr (by omega) (by rfl) (pa_cons (pv 0) (pa_cons (pe_callB (r := rLn K) call_len_seq (by rfl) m_len PySem.boot_len (pa_cons (pe_ix (r := rIxT K) ix_tup (pv 1) pe_int (fun _ _ => rfl)) pa_nil)) pa_nil))) (fun _ _ => rfl)) pa_nil)))))
    (pss_one (ps_ret (pe_tup (pa_cons (pe_callTy (r := rTpZ K) call_tuple_ofZ (by rfl) m_tuple (by decide +kernel) (pa_cons (pv 4) pa_nil)) (pa_cons (pe_callTy (r := rTpOf K) call_tuple_of (by rfl) m_tuple (by decide +kernel) (pa_cons (pv 3) pa_nil)) pa_nil))))))))), ?_⟩
  obtain ⟨ra, da, h1, h2, as, h3, hR⟩ := hHS
  have hml : (rooms.map V.str).length = rooms.length := List.length_map _
  have hrl : (as.map V.ref).length = rows.length := by rw [List.length_map]; exact hR.1
  have r1' := hV.r1
  have r8' := hV.r8
  have d12 := hV.d12
  refine ⟨(by show 0 ≤ sizeLine; decide), fun F hF => ?_⟩
  have nFb : F ≠ b := hB.ne hF
  refine ⟨_, rfl, _, rfl, b, 4, rfl, hB.new hF _, by decide, by decide, fun r0 H0 r00 r01 B0 c0 => ⟨_, _, rfl, rfl, b, _, rfl, B0, by omega, by omega, fun tq ts H1 htn htq htl htnd htnm B1 c1 => ⟨_, _, rfl, ?_⟩⟩⟩
  have kF := c1 _ _ nFb (c0 _ _ nFb (show upd H F (.lst []) F = some (.lst ([] : List V)) from upd_same))
  have c01 : Ch b H H1 := (((Ch.refl b H).new hF _).trans c0).trans c1
  have ntb : tq ≠ b := B0.ne htn
  have ntF : F ≠ tq := ne_of_none (c0 _ _ nFb (show upd H F (.lst []) F = some (.lst ([] : List V)) from upd_same)) htn
  have tl5 : ts.length ≤ 5 := by omega
  clear htn htl
  refine ⟨fun σ' H' => ∃ (tq : Addr) (ts : List Str), σ' = [some (.ref b), some (.ref hl), none, none, some (.ref F), some (.ref tq), none, none] ∧ H' tq = some (.lst (ts.map V.str)) ∧ tq ≠ F ∧ tq ≠ b ∧ ts.Nodup ∧ (∀ x ∈ ts, Nm x) ∧ ts.length ≤ 5 ∧ H' F = some (.lst []) ∧ Box H' b ∧ Ch b H H', ?_, ?_⟩
  · refine ⟨_, rfl, b, 4, rfl, B1, by decide, by decide, fun r2 H5 r20 r21 B5 c5 => ⟨rfl, _, rfl, ?_⟩⟩
    have ht5 := c5 _ _ ntb htq
    have kF5 := c5 _ _ nFb kF
    have tu5 : Tu H H5 := (Tu.of c01 hB).trans (Tu.of c5 B1)
    refine ite2 (fun g => ?_) (fun g => ?_)
    · refine ⟨_, rfl, hl, _, _, _, rfl, rfl, SqT.of (tu5 _ _ h1), atI_nat (j := 0) rfl, ra, _, rfl, .inr (SqT.of (tu5 _ _ h2)), fun l1 hl1 => ?_⟩
      have s1 := same_new hl1 (.lst (rooms.map V.str))
      have k1 : upd H5 l1 (.lst (rooms.map V.str)) l1 = some (.lst (rooms.map V.str)) := upd_same
      have ht6 := s1 _ _ ht5
      have tu6 := tu5.trans (Tu.same s1)
      show tLc _ _ _ _ _ _ (upd H5 l1 (.lst (rooms.map V.str))) _
      generalize hg : upd H5 l1 (.lst (rooms.map V.str)) = H6 at s1 k1 ht6 tu6 ⊢
      refine ⟨_, rfl, tq, rfl, ⟨_, SqL.of ht6⟩, fun D hD => ?_⟩
      refine lc_list (K := K) (a := tq) (xs := ts.map V.str) (fun i Hx => Same H6 Hx ∧ Hx D = some (.lst (((ts.take i).filter fun t => !decide (t ∈ rooms)).map V.str))) ⟨same_new hD _, upd_same⟩ (fun i Hx _ ⟨sy, _⟩ => SqL.of (sy _ _ ht6)) (fun i x Hx hx ⟨sy, hDx⟩ => ?_) (fun Hx ⟨sy, hDx⟩ => ?_)
      · obtain ⟨t, ht, rfl⟩ := str_at hx
        have i1 := Tu.same sy _ _ (tu6 _ _ h1)
        have i2 := Tu.same sy _ _ (tu6 _ _ h2)
        refine ⟨rfl, _, rfl, _, rfl, hl, _, _, _, rfl, rfl, SqT.of i1, atI_nat (j := 0) rfl, ra, _, rfl, .inr (SqT.of i2), rfl, flat_strs _, _, rfl, ?_⟩
        rw [show (if true = true then !inV (.str t) (rooms.map V.str) else inV (.str t) (rooms.map V.str)) = !decide (t ∈ rooms) from by rw [if_pos rfl, inV_str], take_snoc ht, List.filter_append, List.map_append]
        by_cases hin : t ∈ rooms
        · rw [decide_eq_true hin]
          refine iteF ⟨sy, ?_⟩
          rw [List.filter_cons_of_neg (by simpa using hin), List.filter_nil, List.map_nil, List.append_nil]
          exact hDx
        · rw [decide_eq_false hin]
          refine iteT ⟨_, rfl, _, hDx, ?_, same_mut sy hD _, ?_⟩
          · rw [List.length_map]
            exact sz100 (Nat.le_trans (List.length_filter_le _ _) (by rw [List.length_take]; omega))
          · rw [upd_same, List.filter_cons_of_pos (by simpa using hin)]
            rfl
      rw [List.length_map, List.take_length] at hDx
      have kl := sy _ _ k1
      refine ⟨l1, D, _, _, rfl, rfl, kl, hDx, ?_, fun C hC => ?_⟩
      · rw [List.length_map, List.length_map]
        have z := List.length_filter_le (fun t => !decide (t ∈ rooms)) ts
        exact Nat.le_of_lt (sz100 (by omega))
      have sC := same_new hC (.lst (rooms.map V.str ++ (ts.filter fun t => !decide (t ∈ rooms)).map V.str))
      have kC : upd Hx C (.lst (rooms.map V.str ++ (ts.filter fun t => !decide (t ∈ rooms)).map V.str)) C = some (.lst ((rooms ++ ts.filter fun t => !decide (t ∈ rooms)).map V.str)) := by rw [upd_same, List.map_append]
      generalize upd Hx C (.lst (rooms.map V.str ++ (ts.filter fun t => !decide (t ∈ rooms)).map V.str)) = H7 at sC kC ⊢
      have s67 := (s1.trans sy).trans sC
      have ht7 := s67 _ _ ht5
      refine ⟨_, rfl, tq, _, rfl, .inl (SqL.of ht7), _, rfl, C, _, rfl, SqL.of kC, fun p hp => ?_⟩
      have sp := same_new hp (.lst (cutV ((rooms ++ ts.filter fun t => !decide (t ∈ rooms)).map V.str) none (some (((ts.map V.str).length : Nat) : Int))))
      have ec : cutV ((rooms ++ ts.filter fun t => !decide (t ∈ rooms)).map V.str) none (some (((ts.map V.str).length : Nat) : Int)) = ((rooms ++ ts.filter fun t => !decide (t ∈ rooms)).take ts.length).map V.str := by
        rw [cut_to (by omega), List.map_take, List.length_map, Int.toNat_natCast]
      have B7 := bxs B5 (s67.trans sp)
      have c7 := (c01.trans c5).trans (Ch.of (s67.trans sp))
      refine ⟨p, (rooms ++ ts.filter fun t => !decide (t ∈ rooms)).take ts.length, rfl, by rw [upd_same, ec], fun e => ?_, fun e => ?_, (titles_nd hV.nd htnd).sublist (List.take_sublist _ _), fun x hx => titles_nm hV.nm htnm x (List.mem_of_mem_take hx), ?_, (s67.trans sp) _ _ kF5, B7, c7⟩
      · rw [e, s67 _ _ kF5] at hp
        cases hp
      · exact (bxs B5 s67).ne hp e
      · rw [List.length_take]
        exact Nat.le_trans (Nat.min_le_left _ _) tl5
    · exact ⟨tq, ts, rfl, ht5, ntF.symm, ntb, htnd, htnm, tl5, kF5, B5, c01.trans c5⟩
  clear htq kF c01 B1 ntF ntb htnd htnm tl5 c1 c0 B0
  rintro σ' H2 ⟨tq, ts, rfl, htq, ntF, ntb, htnd, htnm, tl5, kF, B2, c2⟩
  have F0 : H F = none := hF
  have tu2 := Tu.of c2 hB
  refine ⟨fun σ' Hx => ∃ (v2 : Option V) (fs : List Str), σ' = [some (.ref b), some (.ref hl), v2, none, some (.ref F), some (.ref tq), none, none] ∧ Hx F = some (.lst (fs.map V.str)) ∧ fs.length = rows.length ∧ (∀ (j : Nat) (f : Str) (r : List Str), fs[j]? = some f → rows[j]? = some r → ∃ n a b : Str, r = [n, a, b] ∧ (f = a ∨ f = b)) ∧ Hx tq = some (.lst (ts.map V.str)) ∧ Box Hx b ∧ Ch b H Hx, ?_, ?_⟩
  · refine ⟨_, rfl, hl, _, _, _, rfl, rfl, SqT.of (tu2 _ _ h1), atI_nat (j := 1) rfl, da, rfl, ⟨_, SqT.of (tu2 _ _ h3)⟩, ?_⟩
    refine for_tup (K := K) (a := da) (xs := as.map V.ref) (fun i σ' Hx => ∃ (v2 : Option V) (fs : List Str), σ' = [some (.ref b), some (.ref hl), v2, none, some (.ref F), some (.ref tq), none, none] ∧ Hx F = some (.lst (fs.map V.str)) ∧ fs.length = i ∧ (∀ (j : Nat) (f : Str) (r : List Str), fs[j]? = some f → rows[j]? = some r → ∃ n a b : Str, r = [n, a, b] ∧ (f = a ∨ f = b)) ∧ Hx tq = some (.lst (ts.map V.str)) ∧ Box Hx b ∧ Ch b H Hx)
      ⟨_, [], rfl, kF, rfl, (fun j f r e => by simp at e), htq, B2, c2⟩ (fun i σ' Hx _ ⟨_, _, _, _, _, _, _, B, c⟩ => SqT.of (Tu.of c hB _ _ h3)) (fun i x σ' Hx hx hP => ?_) (fun σ' Hx hP => ?_)
    rotate_left
    · obtain ⟨v2, fs, rfl, hfs, hfl, hfv, ht, B, c⟩ := hP
      exact ⟨_, fs, rfl, hfs, by rw [hfl, hrl], hfv, ht, B, c⟩
    obtain ⟨v2, fs, rfl, hfs, hfl, hfv, htx, B, c⟩ := hP
    obtain ⟨a, r, rfl, hri, har⟩ := hR.row hx
    obtain ⟨n, x, y, rfl, _, hx1, hy1, hxy⟩ := hV.row r (List.mem_of_getElem? hri)
    have hil : i < rows.length := (List.getElem?_eq_some_iff.mp hri).1
    refine ⟨_, rfl, .inl ⟨rfl, _, SqL.of hfs⟩, _, rfl, _, rfl, b, 2, rfl, B, by decide, by decide, fun r1 H3 r10 r11 B3 c3 => ?_⟩
    have har3 := Tu.of c3 B _ _ (Tu.of c hB _ _ har)
    have hfs3 := c3 _ _ nFb hfs
    obtain ⟨v, hv, hvv⟩ : ∃ v : Str, atI ([n, x, y].map V.str) (1 + r1) = some (.str v) ∧ (v = x ∨ v = y) := by
      have z : r1 = 0 ∨ r1 = 1 := by omega
      rcases z with rfl | rfl
      · exact ⟨x, atI_nat (j := 1) rfl, .inl rfl⟩
      · exact ⟨y, atI_nat (j := 2) rfl, .inr rfl⟩
    refine ⟨_, _, rfl, rfl, a, _, _, _, rfl, rfl, SqT.of har3, hv, F, _, _, rfl, rfl, hfs3, ?_, ?_⟩
    · rw [List.length_map, hfl]
      exact sz100 (by omega)
    refine ⟨_, fs ++ [v], rfl, by rw [upd_same, List.map_append]; rfl, by rw [List.length_append, hfl]; rfl, fun j f r e1 e2 => ?_, by rw [upd_ne ntF]; exact c3 _ _ ntb htx, B3.upd nFb _, (c.trans c3).mut F0 _⟩
    by_cases hj : j < fs.length
    · rw [List.getElem?_append_left hj] at e1
      exact hfv j f r e1 e2
    · rw [List.getElem?_append_right (by omega)] at e1
      have hj2 : j = fs.length := by
        have z := (List.getElem?_eq_some_iff.mp e1).1
        rw [List.length_singleton] at z
        omega
      subst hj2
      rw [Nat.sub_self] at e1
      rw [hfl, hri] at e2
      cases e1
      cases e2
      exact ⟨n, x, y, rfl, hvv⟩
  clear htq kF B2 c2 tu2
  rintro σ' H3 ⟨v2, fs, rfl, hfs, hfl, hfv, htq, B3, c3⟩
  have tu3 := Tu.of c3 hB
  refine ⟨_, rfl, tq, ts, rfl, SqL.of htq, by omega, fun ys p2 perm srt hp2 => ?_⟩
  have ysnd : ys.Nodup := perm.nodup_iff.mpr htnd
  have ysnm : ∀ x ∈ ys, Nm x := fun x hx => htnm x (perm.mem_iff.mp hx)
  have ysl : ys.length ≤ 5 := by rw [perm.length_eq]; exact tl5
  have s9 := same_new hp2 (.lst (ys.map V.str))
  have B9 := bxs B3 s9
  have c9 := c3.trans (Ch.of s9)
  have np2b : p2 ≠ b := B3.ne hp2
  have hy9 : upd H3 p2 (.lst (ys.map V.str)) p2 = some (.lst (ys.map V.str)) := upd_same
  have hf9 := s9 _ _ hfs
  generalize upd H3 p2 (.lst (ys.map V.str)) = H9 at B9 c9 hy9 hf9 s9 ⊢
  have tu9 : Tu H H9 := Tu.of c9 hB
  have hyl : (ys.map V.str).length = ys.length := List.length_map _
  refine ⟨p2, rfl, ⟨_, SqL.of hy9⟩, fun D2 hD2 => ?_⟩
  have nD2 : D2 ≠ b := B9.ne hD2
  have nDF : F ≠ D2 := ne_of_none hf9 hD2
  refine lc_list (K := K) (a := p2) (xs := ys.map V.str) (fun i Hx => ∃ (as2 : List Addr) (pls : List (List Str)), Hx D2 = some (.lst (as2.map V.ref)) ∧ RowsAt Hx as2 pls ∧ pls.length = i ∧ (pls.map fun p => p.headD "") = ys.take i ∧ (∀ p ∈ pls, ∃ w r : Str, p = [w, r] ∧ w ∈ ys ∧ r ∈ rooms) ∧ Box Hx b ∧ Ch b H9 Hx)
    ⟨[], [], upd_same, RowsAt.nil, rfl, rfl, (fun p hp => by cases hp), B9.new hD2 _, (Ch.refl b H9).new hD2 _⟩ (fun i Hx _ ⟨_, _, _, _, _, _, _, _, c⟩ => SqL.of (c _ _ np2b hy9)) (fun i x Hx hx ⟨as2, pls, hD, hR2, hpl2, hph, hpv, B, c⟩ => ?_) (fun Hx ⟨as2, pls, hD, hR2, hpl2, hph, hpv, B, c⟩ => ?_)
  · obtain ⟨t, ht, rfl⟩ := str_at hx
    refine ⟨rfl, lcY ?_⟩
    have tux : Tu H Hx := tu9.trans (Tu.of c B9)
    have hil : i < ys.length := (List.getElem?_eq_some_iff.mp ht).1
    refine ⟨_, rfl, _, rfl, hl, _, _, _, rfl, rfl, SqT.of (tux _ _ h1), atI_nat (j := 0) rfl, _, rfl, _, rfl, hl, _, _, _, rfl, rfl, SqT.of (tux _ _ h1), atI_nat (j := 0) rfl, ra, _, rfl, .inr (SqT.of (tux _ _ h2)), b, _, rfl, B, (by rw [hml]; omega), (by rw [hml]; omega), fun r9 Ha r90 r91 Ba ca => ?_⟩
    rw [hml] at r91
    obtain ⟨rm, hrm, arm⟩ := atS (ss := rooms) (j := r9) r90 r91
    refine ⟨ra, _, _, _, rfl, rfl, SqT.of (Tu.of ca B _ _ (tux _ _ h2)), arm, (by show 2 ≤ sizeLine; decide), fun tp htp => ?_⟩
    have hDa := same_new htp (.tup [.str t, .str rm]) _ _ (ca _ _ nD2 hD)
    have nDt : D2 ≠ tp := ne_of_none (ca _ _ nD2 hD) htp
    refine ⟨_, hDa, ?_, as2 ++ [tp], pls ++ [[t, rm]], ?_, ?_, by rw [List.length_append, hpl2]; rfl, ?_, ?_, (Ba.new htp _).upd nD2 _, ((c.trans ca).new htp _).mut hD2 _⟩
    · rw [List.length_map, hR2.1, hpl2]
      exact sz100 (by omega)
    · rw [upd_same, List.map_append]
      rfl
    · have tua : Tu Hx (upd (upd Ha tp (.tup [.str t, .str rm])) D2 (.lst (as2.map V.ref ++ [.ref tp]))) := fun a xs h => by
        have z := Tu.new htp (.tup [.str t, .str rm]) _ _ (Tu.of ca B _ _ h)
        rw [upd_ne (fun e => by rw [e, hD] at h; cases h)]
        exact z
      refine (hR2.tu tua).snoc ?_
      rw [upd_ne nDt.symm]
      exact upd_same
    · rw [List.map_append, hph, take_snoc ht]
      rfl
    · intro p hp
      rcases List.mem_append.mp hp with hp | hp
      · exact hpv p hp
      · exact ⟨t, rm, List.mem_singleton.mp hp, List.mem_of_getElem? ht, List.mem_of_getElem? hrm⟩
  rw [hyl] at hpl2 hph
  rw [List.take_length] at hph
  refine ⟨_, rfl, F, _, rfl, SqL.of (c _ _ nFb hf9), fun tz oz htz hoz => ?_⟩
  have z1 := same_new htz (.frz oz (.tup (fs.map V.str)))
  have kz : TZ (upd Hx tz (.frz oz (.tup (fs.map V.str)))) tz (fs.map V.str) := ⟨oz, hoz, upd_same⟩
  refine ⟨_, rfl, D2, _, rfl, .inl ⟨SqL.of (z1 _ _ hD), fun t2 ht2 => ⟨(by show 2 ≤ sizeLine; decide), fun t3 ht3 => ?_⟩⟩⟩
  have z2 := same_new ht2 (.tup (as2.map V.ref))
  have k2 : upd (upd Hx tz (.frz oz (.tup (fs.map V.str)))) t2 (.tup (as2.map V.ref)) t2 = some (.tup (as2.map V.ref)) := upd_same
  have z3 := same_new ht3 (.tup [.ref tz, .ref t2])
  have z13 := (z1.trans z2).trans z3
  refine q t3 fs pls _ ⟨tz, t2, upd_same, (kz.same z2).same z3, as2, z3 _ _ k2, hR2.tu (Tu.same z13)⟩ ⟨hfl, hfv, by omega, fun p hp => ?_, ?_⟩ (bxs B z13) ((c9.trans c).trans (Ch.of z13))
  · obtain ⟨w, r, e, e1, e2⟩ := hpv p hp
    exact ⟨w, r, e, ysnm w e1, e2⟩
  · rw [hph]
    exact up_sorted srt ysnd ysnm
end
end Td
set_option maxHeartbeats 4000000
namespace Td
open PySem PySem.Spec PyProof.Rows L2
theorem sz_sm {a b : Str} (h1 : a.length ≤ 60) (h2 : b.length ≤ 60) : a.length + b.length ≤ sizeLine := Nat.le_trans (show a.length + b.length ≤ 120 by omega) (by decide)
section
def mth (i : Nat) : Stmt := match top i with
  | .ClassDef _ _ _ body _ _ _ _ _ _ _ => body.getD 0 (.Pass ⟨0, 0, 0, 0⟩)
  | _ => .Pass ⟨0, 0, 0, 0⟩
variable {P : Program} {w : World} {K : PySem.W.Frag} {mg : Str → Option Value} {base : Heap} {f : Addr} {fd : FuncData}
end
end Td
set_option maxHeartbeats 4000000
namespace Td
open PySem PySem.Spec PyProof.Rows L2
/-! ### moves: a hall, a state, by index -/
def hd0 (r : List Str) : Str := r.headD ""
def oth (a b f : Str) : Str := if f = a then b else a
def errW (K : PySem.W.Frag) (E : XK) (c fl : Str) (v : V) (H : Hp) : Prop := ∀ H', Same H H' → ∀ d, H' d = none → E (.ref (He.ga K c)) (some d) (upd H' d (.xd [(fl, v)]))
theorem errW.same {K : PySem.W.Frag} {E : XK} {c fl : Str} {v : V} {H H' : Hp} (x : Same H H') (h : errW K E c fl v H) : errW K E c fl v H' := fun H2 s d hd => h H2 (x.trans s) d hd
theorem up_asc : ∀ {l : List Str} {p : Str}, Up p l → AscS (p :: l)
  | [], _, _ => List.pairwise_cons.mpr ⟨fun a h => (by cases h), List.Pairwise.nil⟩
  | x :: l, p, h => by
    obtain ⟨h1, h2⟩ := h
    have t := up_asc h2
    refine List.pairwise_cons.mpr ⟨fun a ha => ?_, t⟩
    rcases List.mem_cons.mp ha with rfl | ha
    · exact h1
    · exact slt_tr h1 ((List.pairwise_cons.mp t).1 a ha)
theorem StV.asc {rooms faces : List Str} {rows places : List (List Str)} (h : StV rooms rows faces places) : AscS (places.map hd0) := (List.pairwise_cons.mp (up_asc h.up)).2
theorem StV.pnd {rooms faces : List Str} {rows places : List (List Str)} (h : StV rooms rows faces places) : (places.map hd0).Nodup := asc_nd h.asc
/-- one place of a name among different names -/
theorem at_one {l : List (List Str)} (nd : (l.map hd0).Nodup) {i j : Nat} {x y : List Str} (h : l[i]? = some x) (g : l[j]? = some y) (e : hd0 x = hd0 y) : i = j := by
  have h1 : (l.map hd0)[i]? = some (hd0 x) := by rw [List.getElem?_map, h]; rfl
  have h2 : (l.map hd0)[j]? = some (hd0 x) := by rw [List.getElem?_map, g, e]; rfl
  exact nd_ix nd h1 h2
/-- a part of the rows before -/
theorem no_before {l : List (List Str)} {i : Nat} {x : Str} {r : List Str} (h : l[i]? = some r) (hn : hd0 r ≠ x) (no : x ∉ (l.take i).map hd0) : x ∉ (l.take (i + 1)).map hd0 := by
  rw [take_snoc h, List.map_append]
  intro z
  rcases List.mem_append.mp z with z | z
  · exact no z
  · exact hn (List.mem_singleton.mp z).symm
theorem at_of_mem {l : List (List Str)} {x : Str} (h : x ∈ l.map hd0) : ∃ (i : Nat) (r : List Str), l[i]? = some r ∧ hd0 r = x := by
  obtain ⟨r, hr, e⟩ := List.mem_map.mp h
  obtain ⟨i, hi⟩ := List.getElem?_of_mem hr
  exact ⟨i, r, hi, e⟩
theorem row_at {rooms : List Str} {rows : List (List Str)} (hV : HallV rooms rows) {x : Str} (h : x ∈ rows.map hd0) : ∃ (i : Nat) (a b : Str), rows[i]? = some [x, a, b] ∧ a ∈ rooms ∧ b ∈ rooms ∧ a ≠ b := by
  obtain ⟨i, r, hi, e⟩ := at_of_mem h
  obtain ⟨n, a, b, rfl, _, ha, hb, hab⟩ := hV.row r (List.mem_of_getElem? hi)
  cases e
  exact ⟨i, a, b, hi, ha, hb, hab⟩
theorem place_at {rooms faces : List Str} {rows places : List (List Str)} (h : StV rooms rows faces places) {x : Str} (hx : x ∈ places.map hd0) : ∃ (j : Nat) (r : Str), places[j]? = some [x, r] ∧ r ∈ rooms := by
  obtain ⟨j, p, hj, e⟩ := at_of_mem hx
  obtain ⟨w, r, rfl, _, hr⟩ := h.pl p (List.mem_of_getElem? hj)
  cases e
  exact ⟨j, r, hj, hr⟩
theorem face_at {rooms faces : List Str} {rows places : List (List Str)} (h : StV rooms rows faces places) {i : Nat} {n a b : Str} (hi : rows[i]? = some [n, a, b]) : ∃ f, faces[i]? = some f ∧ (f = a ∨ f = b) := by
  have hl : i < faces.length := by rw [h.fl]; exact (List.getElem?_eq_some_iff.mp hi).1
  have e := List.getElem?_eq_getElem hl
  obtain ⟨n', a', b', e2, e3⟩ := h.fc i _ _ e hi
  cases e2
  exact ⟨_, e, e3⟩
theorem map_set {l : List (List Str)} (nd : (l.map hd0).Nodup) {j : Nat} {x y : List Str} {g : List Str → List Str} (h : l[j]? = some x) (hg : ∀ r, hd0 r = hd0 x → g r = y) (hn : ∀ r, hd0 r ≠ hd0 x → g r = r) : l.map g = l.set j y := by
  refine List.ext_getElem? fun k => ?_
  rw [List.getElem?_map, List.getElem?_set]
  have hj : j < l.length := (List.getElem?_eq_some_iff.mp h).1
  by_cases e : j = k
  · subst e
    rw [if_pos rfl, if_pos hj, h]
    exact congrArg some (hg x rfl)
  · rw [if_neg e]
    cases q : l[k]? with
    | none => rfl
    | some r => exact congrArg some (hn r fun z => e (at_one nd h q z.symm))
/-! ### the promises -/
def spRoomI (K : PySem.W.Frag) : Sp := fun vs H Q E => ∃ (st : Addr) (x : Str) (faces : List Str) (places : List (List Str)), vs = [.ref st, .str x] ∧ HS H st faces places ∧ (∀ p ∈ places, ∃ w r : Str, p = [w, r]) ∧
  (∀ (j : Nat) (r : Str), places[j]? = some [x, r] → ∀ H', Same H H' → Q (.str r) H') ∧ (x ∉ places.map hd0 → errW K E "UnknownWalker" "name" (.str x) H)
def spFaceI (K : PySem.W.Frag) : Sp := fun vs H Q E => ∃ (h st : Addr) (x : Str) (rooms : List Str) (rows : List (List Str)) (faces : List Str) (places : List (List Str)), vs = [.ref h, .ref st, .str x] ∧ HS H h rooms rows ∧ HallV rooms rows ∧ HS H st faces places ∧ faces.length = rows.length ∧
  (∀ (i : Nat) (a b f : Str), rows[i]? = some [x, a, b] → faces[i]? = some f → ∀ H', Same H H' → Q (.str f) H') ∧ (x ∉ rows.map hd0 → errW K E "UnknownDoor" "name" (.str x) H)
def spEndsI (K : PySem.W.Frag) : Sp := fun vs H Q E => ∃ (h : Addr) (x : Str) (rooms : List Str) (rows : List (List Str)), vs = [.ref h, .str x] ∧ HS H h rooms rows ∧ HallV rooms rows ∧
  (∀ (i : Nat) (a b : Str), rows[i]? = some [x, a, b] → ∀ p H', Same H H' → H' p = some (.tup [.str a, .str b]) → Q (.ref p) H') ∧ (x ∉ rows.map hd0 → errW K E "UnknownDoor" "name" (.str x) H)
/-- a hall and a state of it in the heap -/
structure HSt (H : Hp) (h st : Addr) (rooms : List Str) (rows : List (List Str)) (faces : List Str) (places : List (List Str)) : Prop where
  h : HS H h rooms rows
  v : HallV rooms rows
  s : HS H st faces places
  t : StV rooms rows faces places
theorem HSt.same {H H' : Hp} {h st : Addr} {rooms : List Str} {rows : List (List Str)} {faces : List Str} {places : List (List Str)} (x : Tu H H') (y : HSt H h st rooms rows faces places) : HSt H' h st rooms rows faces places := ⟨y.h.tu x, y.v, y.s.tu x, y.t⟩
def spCanP (K : PySem.W.Frag) : Sp := fun vs H Q E => ∃ (h st : Addr) (w x : Str) (rooms : List Str) (rows : List (List Str)) (faces : List Str) (places : List (List Str)), vs = [.ref h, .ref st, .str w, .str x] ∧ HSt H h st rooms rows faces places ∧
  (w ∉ places.map hd0 → errW K E "UnknownWalker" "name" (.str w) H) ∧ (w ∈ places.map hd0 → x ∉ rows.map hd0 → errW K E "UnknownDoor" "name" (.str x) H) ∧
  (∀ (i j : Nat) (a b f r : Str), rows[i]? = some [x, a, b] → faces[i]? = some f → places[j]? = some [w, r] → ∀ H', Same H H' → Q (.bl (decide (f = r))) H')
def spTurnI (K : PySem.W.Frag) : Sp := fun vs H Q E => ∃ (h st : Addr) (x : Str) (rooms : List Str) (rows : List (List Str)) (faces : List Str) (places : List (List Str)), vs = [.ref h, .ref st, .str x] ∧ HSt H h st rooms rows faces places ∧
  (x ∉ rows.map hd0 → errW K E "UnknownDoor" "name" (.str x) H) ∧ (∀ (i : Nat) (a b f : Str), rows[i]? = some [x, a, b] → faces[i]? = some f → ∀ p H', Same H H' → HS H' p (faces.set i (oth a b f)) places → Q (.ref p) H')
def spPassI (K : PySem.W.Frag) : Sp := fun vs H Q E => ∃ (h st : Addr) (w x : Str) (rooms : List Str) (rows : List (List Str)) (faces : List Str) (places : List (List Str)), vs = [.ref h, .ref st, .str w, .str x] ∧ HSt H h st rooms rows faces places ∧
  (w ∉ places.map hd0 → errW K E "UnknownWalker" "name" (.str w) H) ∧ (w ∈ places.map hd0 → x ∉ rows.map hd0 → errW K E "UnknownDoor" "name" (.str x) H) ∧
  (∀ (i j : Nat) (a b f r : Str), rows[i]? = some [x, a, b] → faces[i]? = some f → places[j]? = some [w, r] → (f ≠ r → errW K E "Blocked" "index" (.int 0) H) ∧
    (f = r → ∀ p H', Same H H' → HS H' p (faces.set i (oth a b f)) (places.set j [w, oth a b f]) → Q (.ref p) H'))
/-! ### dicts from walkers to rooms -/
abbrev rDictP (K : PySem.W.Frag) : List V → Hp → VK → Prop := fun xs H Q => ∃ (a : Addr) (ps : List Addr) (kvs : List (Key × V)), xs = [.ref a] ∧ SqL K H a (ps.map V.ref) ∧ Paired (fun p kv => SqT K H p [kV kv.1, kv.2]) ps kvs ∧
    ∀ p, H p = none → Q (.ref p) (L2.upd H p (.dK (mergeK [] kvs)))
def kvP (places : List (List Str)) : List (Key × V) := places.map fun p => (Sum.inr (hd0 p), V.str (p.getD 1 ""))
theorem val_none {kvs : List (Key × V)} {k : Key} (h : k ∉ kvs.map (·.1)) : valV kvs k = none := by
  unfold valV
  rw [List.find?_eq_none.mpr fun kv hkv => ?_]
  · rfl
  · rw [decide_eq_true_eq]
    exact fun e => h (List.mem_map.mpr ⟨kv, hkv, e⟩)
theorem merge_nd : ∀ (m acc : List (Key × V)), ((acc ++ m).map (·.1)).Nodup → mergeK acc m = acc ++ m
  | [], acc, _ => by
    show acc = acc ++ []
    rw [List.append_nil]
  | kv :: m, acc, h => by
    show mergeK (putK acc kv.1 kv.2) m = _
    have no : kv.1 ∉ acc.map (·.1) := fun z => by
      rw [List.map_append, List.map_cons] at h
      exact (List.nodup_append.mp h).2.2 _ z _ List.mem_cons_self rfl
    rw [putK_new _ (val_none no), merge_nd m (acc ++ [(kv.1, kv.2)]) (by rw [List.append_assoc]; exact h), List.append_assoc]
    rfl
theorem kvP_keys (places : List (List Str)) : (kvP places).map (·.1) = (places.map hd0).map Sum.inr := by
  unfold kvP
  rw [List.map_map, List.map_map]
  rfl
theorem inr_nd {l : List Str} (h : l.Nodup) : (l.map (Sum.inr : Str → Key)).Nodup := by
  refine List.Pairwise.map _ (fun a b hab e => hab (Sum.inr.inj e)) h
theorem kvP_merge {places : List (List Str)} (nd : (places.map hd0).Nodup) : mergeK [] (kvP places) = kvP places := by
  rw [merge_nd _ _ (by rw [List.nil_append, kvP_keys]; exact inr_nd nd)]
  rfl
theorem kvP_no {places : List (List Str)} {w : Str} (h : w ∉ places.map hd0) : valV (kvP places) (Sum.inr w) = none := val_none (by
  rw [kvP_keys]
  intro z
  obtain ⟨x, hx, e⟩ := List.mem_map.mp z
  rw [Sum.inr.inj e] at hx
  exact h hx)
theorem kvP_get {places : List (List Str)} (nd : (places.map hd0).Nodup) {j : Nat} {w r : Str} (h : places[j]? = some [w, r]) : valV (kvP places) (Sum.inr w) = some (.str r) := by
  induction places generalizing j with
  | nil => cases h
  | cons p ps ih =>
    obtain ⟨n1, n2⟩ := List.nodup_cons.mp nd
    cases j with
    | zero =>
      cases h
      exact valV_pos (p := (Sum.inr w, V.str r)) (r := kvP ps) rfl
    | succ j =>
      have h' : ps[j]? = some [w, r] := h
      have ne : ¬ (Sum.inr (hd0 p) : Key) = Sum.inr w := fun e => n1 (by
        rw [show hd0 p = w from Sum.inr.inj e]
        exact List.mem_map.mpr ⟨_, List.mem_of_getElem? h', rfl⟩)
      have z : valV (kvP (p :: ps)) (Sum.inr w) = valV (kvP ps) (Sum.inr w) := valV_neg (p := (Sum.inr (hd0 p), V.str (p.getD 1 ""))) (r := kvP ps) ne
      rw [z]
      exact ih n2 h'
theorem kvP_put {places : List (List Str)} (nd : (places.map hd0).Nodup) {j : Nat} {w r : Str} (h : places[j]? = some [w, r]) (t : Str) : putK (kvP places) (Sum.inr w) (.str t) = kvP (places.set j [w, t]) := by
  unfold putK
  rw [valV_any, kvP_get nd h, if_pos (show (some (V.str r)).isSome = true from rfl)]
  rw [← map_set (g := fun p => if hd0 p = w then [w, t] else p) nd h (fun r hr => if_pos hr) fun r hr => if_neg hr]
  unfold kvP
  rw [List.map_map, List.map_map]
  refine List.map_congr_left fun p _ => ?_
  show (if (Sum.inr (hd0 p) : Key) = Sum.inr w then ((Sum.inr (hd0 p) : Key), V.str t) else (Sum.inr (hd0 p), V.str (p.getD 1 ""))) = (Sum.inr (hd0 (if hd0 p = w then [w, t] else p)), V.str ((if hd0 p = w then [w, t] else p).getD 1 ""))
  by_cases e : hd0 p = w
  · rw [if_pos (by rw [e]), if_pos e, e]
    rfl
  · rw [if_neg (fun z => e (Sum.inr.inj z)), if_neg e]
theorem paired_places {K : PySem.W.Frag} {H : Hp} : ∀ {as : List Addr} {places : List (List Str)}, RowsAt H as places → (∀ p ∈ places, ∃ w r : Str, p = [w, r]) → Paired (fun p (kv : Key × V) => SqT K H p [kV kv.1, kv.2]) as (kvP places)
  | [], [], _, _ => .nil
  | [], _ :: _, h, _ => by cases h.1
  | _ :: _, [], h, _ => by cases h.1
  | a :: as, p :: ps, h, hp => by
    obtain ⟨w, r, e⟩ := hp p List.mem_cons_self
    have h0 := h.2 0 a p rfl rfl
    subst e
    exact .cons (SqT.of h0) (paired_places ⟨Nat.succ.inj h.1, fun i b s e1 e2 => h.2 (i + 1) b s (by rw [List.getElem?_cons_succ]; exact e1) (by rw [List.getElem?_cons_succ]; exact e2)⟩ fun q hq => hp q (List.mem_cons_of_mem _ hq))
/-- the law's own pass -/
def spLPass : Sp := fun vs H Q _ => ∃ (h st : Addr) (w x : Str) (rooms : List Str) (rows : List (List Str)) (faces : List Str) (places : List (List Str)), vs = [.ref h, .ref st, .str w, .str x] ∧ HSt H h st rooms rows faces places ∧
  ((w ∉ places.map hd0 ∨ x ∉ rows.map hd0) → ∀ H', Same H H' → Q .non H') ∧
  (∀ (i j : Nat) (a b f r : Str), rows[i]? = some [x, a, b] → faces[i]? = some f → places[j]? = some [w, r] → (f ≠ r → ∀ H', Same H H' → Q .non H') ∧
    (f = r → ∀ p H', Same H H' → HS H' p (faces.set i (oth a b f)) (places.set j [w, oth a b f]) → Q (.ref p) H'))
end Td
set_option maxHeartbeats 4000000
namespace Td
open PySem PySem.Spec PyProof.Rows L2
theorem dr_hs {H : Hp} {h : Addr} {ss : List Str} {rows : List (List Str)} (x : HS H h ss rows) (h1 : ss.length ≤ 1000) (h2 : rows.length ≤ 1000) (h3 : ∀ r ∈ rows, r.length ≤ 1000) : DR H 4 (.ref h) (hsD ss rows) := by
  obtain ⟨r, d, e1, e2, as, e3, hR⟩ := x
  have str_ : ∀ {n : Nat} {l : List Str} (_ : l.length ≤ 1000) {a : Addr} (_ : H a = some (.tup (l.map V.str))), DR H (n + 2) (.ref a) (sD l) := fun {n l} hl a ha => by
    refine .inr ⟨a, _, _, rfl, rfl, ha, ⟨by rw [List.length_map, List.length_map], by rw [List.length_map]; exact hl⟩, fun i v e a1 a2 => .inl ?_⟩
    rw [List.getElem?_map] at a1 a2
    cases z : l[i]? with
    | none => rw [z] at a1; cases a1
    | some y => rw [z] at a1 a2; cases a1; cases a2; exact .inl ⟨y, rfl, rfl⟩
  refine .inr ⟨h, _, _, rfl, rfl, e1, ⟨rfl, by show 2 ≤ 1000; decide⟩, fun j v e a1 a2 => ?_⟩
  match j with
  | 0 => cases a1; cases a2; exact str_ h1 e2
  | 1 =>
    cases a1; cases a2
    refine .inr ⟨d, _, _, rfl, rfl, e3, ⟨by rw [List.length_map, List.length_map]; exact hR.1, by rw [List.length_map]; exact h2⟩, fun i v e a1 a2 => ?_⟩
    rw [List.getElem?_map] at a1 a2
    cases z : as[i]? with
    | none => rw [z] at a1; cases a1
    | some a =>
      cases y : rows[i]? with
      | none => rw [y] at a2; cases a2
      | some l =>
        rw [z] at a1
        rw [y] at a2
        cases a1; cases a2
        exact str_ (h3 l (List.mem_of_getElem? y)) (hR.2 i a l z y)
  | j + 2 => cases a1
/-! ### what a law tells of a pass -/
def fIx (l : List (List Str)) (w : Str) : Option Nat := l.findIdx? fun r => decide (hd0 r = w)
theorem fIx_none {l : List (List Str)} {w : Str} (h : w ∉ l.map hd0) : fIx l w = none := by
  unfold fIx
  rw [List.findIdx?_eq_none_iff]
  intro r hr
  rw [decide_eq_false_iff_not]
  exact fun e => h (List.mem_map.mpr ⟨r, hr, e⟩)
theorem fIx_some {l : List (List Str)} {w : Str} {i : Nat} {r : List Str} (nd : (l.map hd0).Nodup) (h : l[i]? = some r) (e : hd0 r = w) : fIx l w = some i := by
  unfold fIx
  rw [List.findIdx?_eq_some_iff_getElem]
  obtain ⟨hi, hr⟩ := List.getElem?_eq_some_iff.mp h
  refine ⟨hi, by rw [hr, decide_eq_true e], fun j hj => ?_⟩
  have hjl : j < l.length := by omega
  rw [Bool.not_eq_true, decide_eq_false_iff_not]
  intro z
  have := at_one nd (List.getElem?_eq_getElem hjl) h (by rw [z, e])
  omega
def noD (c : Str) (v : PyData) : PyData := .tuple [.str c, v, .bool false]
def valD (v : PyData) : PyData := .tuple [.str "value", v]
def resD (form : Int) (rows : List (List Str)) (faces : List Str) (places : List (List Str)) (w x : Str) : PyData :=
  match fIx places w with
  | none => noD "walker" (.str w)
  | some j => match fIx rows x with
    | none => noD "door" (.str x)
    | some i =>
      let t := oth ((rows.getD i []).getD 1 "") ((rows.getD i []).getD 2 "") (faces.getD i "")
      let r := (places.getD j []).getD 1 ""
      if form = 0 then valD (.bool (decide (faces.getD i "" = r)))
      else if faces.getD i "" = r then valD (hsD (faces.set i t) (places.set j [w, t])) else noD "blocked" (.int 0)
theorem resD_w {form : Int} {rows places : List (List Str)} {faces : List Str} {w x : Str} (h : w ∉ places.map hd0) : resD form rows faces places w x = noD "walker" (.str w) := by
  unfold resD
  rw [fIx_none h]
theorem resD_x {form : Int} {rows places : List (List Str)} {faces : List Str} {w x : Str} (nd : (places.map hd0).Nodup) (h : w ∈ places.map hd0) (hx : x ∉ rows.map hd0) : resD form rows faces places w x = noD "door" (.str x) := by
  obtain ⟨j, r, hj, e⟩ := at_of_mem h
  unfold resD
  rw [fIx_some nd hj e, fIx_none hx]
theorem resD_at {form : Int} {rows places : List (List Str)} {faces : List Str} {w x a b f r : Str} {i j : Nat} (nd : (places.map hd0).Nodup) (nr : (rows.map hd0).Nodup) (hi : rows[i]? = some [x, a, b]) (hf : faces[i]? = some f) (hj : places[j]? = some [w, r]) :
    resD form rows faces places w x = if form = 0 then valD (.bool (decide (f = r))) else if f = r then valD (hsD (faces.set i (oth a b f)) (places.set j [w, oth a b f])) else noD "blocked" (.int 0) := by
  unfold resD
  rw [fIx_some nd hj (show hd0 [w, r] = w from rfl), fIx_some nr hi (show hd0 [x, a, b] = x from rfl)]
  have e1 : rows.getD i [] = [x, a, b] := by rw [List.getD_eq_getElem?_getD, hi]; rfl
  have e2 : faces.getD i "" = f := by rw [List.getD_eq_getElem?_getD, hf]; rfl
  have e3 : places.getD j [] = [w, r] := by rw [List.getD_eq_getElem?_getD, hj]; rfl
  simp only [e1, e2, e3]
  rfl
theorem dr_no {H : Hp} {t : Addr} {c : Str} {v : V} {d : PyData} (h : H t = some (.tup [.str c, v, .bl false])) (hv : Sc v d) : DR H 5 (.ref t) (noD c d) := by
  refine .inr ⟨t, _, _, rfl, rfl, h, ⟨rfl, by show 3 ≤ 1000; decide⟩, fun i v e a1 a2 => ?_⟩
  match i with
  | 0 => cases a1; cases a2; exact .inl (.inl ⟨c, rfl, rfl⟩)
  | 1 => cases a1; cases a2; exact .inl hv
  | 2 => cases a1; cases a2; exact .inl (.inr (.inl ⟨false, rfl, rfl⟩))
  | i + 3 => cases a1
theorem dr_val {H : Hp} {t : Addr} {v : V} {d : PyData} (h : H t = some (.tup [.str "value", v])) (hv : DR H 4 v d) : DR H 5 (.ref t) (valD d) := dr_two h (.inl (.inl ⟨_, rfl, rfl⟩)) hv
theorem sc_str (x : Str) : Sc (.str x) (.str x) := .inl ⟨x, rfl, rfl⟩
theorem sc_int (x : Int) : Sc (.int x) (.int x) := .inr (.inr (.inl ⟨x, rfl, rfl⟩))
theorem hs_pass {H : Hp} {p : Addr} {rooms faces : List Str} {rows places : List (List Str)} (hv : HallV rooms rows) (ht : StV rooms rows faces places) {i j : Nat} {w t : Str} (h : HS H p (faces.set i t) (places.set j [w, t])) : DR H 4 (.ref p) (hsD (faces.set i t) (places.set j [w, t])) := by
  have d12 := hv.d12
  have fl := ht.fl
  have p5 := ht.p5
  refine dr_hs h (by rw [List.length_set]; omega) (by rw [List.length_set]; omega) fun r hr => ?_
  rcases List.mem_or_eq_of_mem_set hr with hr | hr
  · obtain ⟨a, b, rfl, _⟩ := ht.pl r hr
    show 2 ≤ 1000
    decide
  · rw [hr]
    show 2 ≤ 1000
    decide
def spRes : Sp := fun vs H Q _ => ∃ (form : Int) (h st dd : Addr) (w x : Str) (rooms : List Str) (rows : List (List Str)) (faces : List Str) (places : List (List Str)), vs = [.int form, .ref h, .ref st, .ref dd] ∧ HSt H h st rooms rows faces places ∧ H dd = some (.tup [.str w, .str x]) ∧
  ∀ p H', Same H H' → DR H' 5 (.ref p) (resD form rows faces places w x) → Q (.ref p) H'
/-! ### facts of a class that an except suite asks -/
def excB (K : PySem.W.Frag) (D : Addr) : Bool := xfB K D && (decide (PySem.W.findIn K (.ref D) "__class__" = some (some (.builtin "object.__class__"))) &&
  (decide (PySem.W.specialIn K (.builtin "object.__class__") "__get__" = some (some (.builtin "getset_descriptor.__get__"))) && (decide (PySem.W.takesIn K (.builtin "object.__class__") = some true) && decide (PySem.W.mroIn K D (.type "object") = some true))))
theorem excB_ok {K : PySem.W.Frag} {D : Addr} (h : excB K D = true) : ExcC K D := by
  unfold excB at h
  simp only [Bool.and_eq_true, decide_eq_true_eq] at h
  obtain ⟨h6, h7, h8, h9, h10⟩ := h
  have X := xfB_ok h6
  exact ⟨X.ga, X.gg, X.exC, X.hdC, h7, h8, h9, h10⟩
end Td
set_option maxHeartbeats 4000000
namespace Td
open PySem PySem.Spec PyProof.Rows L2
/-! ### enumerate of a list or of a tuple -/
theorem wp_if {α : Type} {M : Model} {A : Around} {c : Prop} [Decidable c] {x y : Sem α} {Q : α → Shared → Prop} {E : Value → Shared → Prop} {s : Shared} (h1 : wpAny M A x Q E s) (h2 : wpAny M A y Q E s) : wpAny M A (if c then x else y) Q E s := by
  split
  · exact h1
  · exact h2
abbrev eo2 (h : Heap) (o : Obj) : Heap := (h.push o).push { cls := .type "enumerate", data := .fields #[.none, .bool false, .ref h.objs.size, rawInt 0, .none, .none] }
theorem meets_enB {v : Value} {o : Obj} {C : Heap → Prop} (B : Begins v o C) : Meets (Builtin.«enumerate.__new__» ⟨[.type "enumerate", v], []⟩) (fun _ R s => C s.heap ∧ R (.ok (.ret (.ref (s.heap.push o).objs.size))) { s with heap := eo2 s.heap o }) :=
  .of_wp fun prog w A R s h => by
    obtain ⟨hp, g, d, tk, os⟩ := s
    obtain ⟨a1, k⟩ := h
    have sub_ := sub_enumerate
    wp_walk using B.iter _ _ _ _ _ _ a1
    refine wpAny_stack fun st _ _ _ => wpAny_pure ?_
    wp_walk using B.iter _ _ _ _ _ _ a1
    refine wp_if ?_ ?_
    · wp_walk using B.iter _ _ _ _ _ _ a1
      exact ⟨_, rfl, k⟩
    · wp_walk using B.iter _ _ _ _ _ _ a1
      exact ⟨_, rfl, k⟩
section
variable {P : Program} {w : World} {A : Around} {E : Value → Shared → Prop} {s : Shared}
theorem call_enB {v : Value} {o : Obj} {C : Heap → Prop} (B : Begins v o C) {Q : Value → Shared → Prop} (a1 : C s.heap)
    (h : ∀ g', IsEnum g' (s.heap.objs.size + 1) s.heap.objs.size 0 .none → g'.get? s.heap.objs.size = some o → (∀ c ob, s.heap.get? c = some ob → g'.get? c = some ob) → Q (.ref (s.heap.objs.size + 1)) { s with heap := g' }) :
    wpAny (model P w) A (call (.type "enumerate") [v]) Q E s := by
  refine callType_new F.called_enumerate (by decide) (F.typeCall_enumerate_1 _) (F.newCall_enumerate_1 _) (fun obj => F.args_object_init_2 obj _) F.entry_enumerate_new (meets_enB B) ⟨a1, ?_⟩
  have n1 : (s.heap.push o).objs.size = s.heap.objs.size + 1 := Heap.size_push ..
  have b2 : (eo2 s.heap o).get? (s.heap.push o).objs.size = some _ := Heap.get?_push_size _ rfl
  have b1 : (eo2 s.heap o).get? s.heap.objs.size = some _ := Heap.get?_push_of_some _ (Heap.get?_push_size _ B.free)
  show _ ∧ _
  rw [n1] at b2
  rw [n1]
  exact ⟨⟨_, b2, rfl⟩, h _ b2 b1 fun c o x => Heap.get?_push_of_some _ (Heap.get?_push_of_some _ x)⟩
end
abbrev ItEL (K : PySem.W.Frag) (a : Addr) : It := ItE (fun H xs => SqL K H a xs) 0
abbrev ItET (K : PySem.W.Frag) (a : Addr) : It := ItE (fun H xs => SqT K H a xs) 0
def iEnumQ (K : PySem.W.Frag) (ta : TA) : TI := fun σ H R => ta σ H fun vs H1 => ∃ a, vs = [.ref a] ∧ (((∃ xs, SqL K H1 a xs) ∧ R (ItEL K a) H1) ∨ ((∃ xs, SqT K H1 a xs) ∧ R (ItET K a) H1))
theorem pi_enumQ {X : Cx} {e : Expr} {ta : TA} {p pos tpos : Pos} {elts : List Expr} {kk : Nat} (hg : Gl X "enumerate") (hm : X.mg "enumerate" = none) (ha : PA X [e] ta)
    (hs : starEach [e] X.env = (false, eval e X.env) :: starEach [] X.env := by rfl) (hpl : (backTo pos (starEach [] X.env)).any (·.1) = false := by rfl) :
    PI X (.Tuple elts kk tpos) (.Call (.Name "enumerate" p) [e] [] pos) (iEnumQ X.K ta) := by
  refine ⟨fun pins s σ H R I h => Call_ (ld_blt I hg hm PyProof.Rows.boot_enumerate (PyProof.Rows.callWith_type1 (thn (ha.run pos pins s σ H _ I h) fun us s1 ⟨vs, H1, I1, r1, a, ex, q⟩ => ?_) hs hpl))⟩
  subst ex
  cases r1 with
  | cons r rr =>
    cases rr
    cases r
    have fin : ∀ c, c ∈ [s1.heap.objs.size + 1, s1.heap.objs.size] → FpOk X pins H1 c := fun c hc => by
      have le : s1.heap.objs.size ≤ c := by
        have hc' : c = s1.heap.objs.size + 1 ∨ c = s1.heap.objs.size := by simpa using hc
        rcases hc' with z | z <;> rw [z] <;> first | exact Nat.le_add_right _ _ | exact Nat.le_refl _
      exact I1.fpOk le (I1.hok.fresh le)
    rcases q with ⟨⟨xs, hx⟩, q⟩ | ⟨⟨xs, hx⟩, q⟩
    · obtain ⟨its, rv, p1, _⟩ := I1.list hx
      refine call_enB (begins_list a its.toArray) p1.isList fun g' he hit hk => wpAny_pyIter_enum he ?_
      exact ⟨s1.heap.objs.size + 1, [s1.heap.objs.size + 1, s1.heap.objs.size], _, _, H1, rfl, I1.kept (t' := s1.toks) hk, turn_E src_list sqs_list (Nat.succ_ne_self _), ⟨⟨_, he⟩, ⟨_, hit, rfl, rfl⟩⟩, fin, q⟩
    · obtain ⟨its, rv, p1, _⟩ := I1.tuple hx
      refine call_enB (begins_tuple a its.toArray) (show s1.heap.IsTuple a its.toArray from p1) fun g' he hit hk => wpAny_pyIter_enum he ?_
      exact ⟨s1.heap.objs.size + 1, [s1.heap.objs.size + 1, s1.heap.objs.size], _, _, H1, rfl, I1.kept (t' := s1.toks) hk, turn_E src_tup sqs_tup (Nat.succ_ne_self _), ⟨⟨_, he⟩, ⟨_, hit, rfl, rfl⟩⟩, fin, q⟩
/-- one walk over both -/
theorem for_enq {K : PySem.W.Frag} {a : Addr} {xs : List V} {g : TG} {tb : TS} {D : Ends} {σ : L2.St} {H H0 : Hp} (hk : SqL K H0 a xs ∨ SqT K H0 a xs) (Pv : Nat → L2.St → Hp → Prop) (h0 : Pv 0 σ H)
    (keep : ∀ i σ' H', Pv i σ' H' → Same H0 H')
    (hs : ∀ i x σ H T, xs[i]? = some x → Pv i σ H → H T = none → g (.ref T) σ (upd H T (.tup [.int (i : Nat), x])) fun σ2 H2 => tb { D with nx := Pv (i + 1), ct := Pv (i + 1), bk := D.nx } σ2 H2) (hd : ∀ σ H, Pv xs.length σ H → D.nx σ H) :
    ((∃ xs, SqL K H a xs) ∧ (∃ W : Nat → Nat → L2.St → Hp → Prop, (∃ m, W 0 m σ H) ∧ ∀ i m σ H, W i m σ H →
      ((ItEL K a).stop i H ∧ D.nx σ H) ∨ ((ItEL K a).go i H ∧ ∃ N : L2.St → Hp → Prop, (∀ σ' H', N σ' H' → ∃ m', m' < m ∧ W (i + 1) m' σ' H') ∧ ∀ x H', (ItEL K a).yld i H x H' → g x σ H' fun σ2 H2 => tb { D with nx := N, ct := N, bk := D.nx } σ2 H2))) ∨
    ((∃ xs, SqT K H a xs) ∧ (∃ W : Nat → Nat → L2.St → Hp → Prop, (∃ m, W 0 m σ H) ∧ ∀ i m σ H, W i m σ H →
      ((ItET K a).stop i H ∧ D.nx σ H) ∨ ((ItET K a).go i H ∧ ∃ N : L2.St → Hp → Prop, (∀ σ' H', N σ' H' → ∃ m', m' < m ∧ W (i + 1) m' σ' H') ∧ ∀ x H', (ItET K a).yld i H x H' → g x σ H' fun σ2 H2 => tb { D with nx := N, ct := N, bk := D.nx } σ2 H2))) := by
  rcases hk with hk | hk
  · refine .inl ⟨⟨xs, sqL_same (keep _ _ _ h0) hk⟩, for_gen (n := xs.length) Pv h0 (fun i σ' H' hi p => ?_) fun σ' H' p => ⟨⟨xs, sqL_same (keep _ _ _ p) hk, Nat.le_refl _⟩, hd _ _ p⟩⟩
    have hx : xs[i]? = some xs[i] := List.getElem?_eq_getElem hi
    have q := sqL_same (keep _ _ _ p) hk
    refine ⟨⟨xs, _, q, hx⟩, ?_⟩
    rintro _ _ ⟨T, x, rfl, hT, rfl, f⟩
    have e := (f xs q).symm.trans hx
    cases e
    rw [Int.zero_add]
    exact hs i _ σ' H' T hx p hT
  · refine .inr ⟨⟨xs, sqT_same (keep _ _ _ h0) hk⟩, for_gen (n := xs.length) Pv h0 (fun i σ' H' hi p => ?_) fun σ' H' p => ⟨⟨xs, sqT_same (keep _ _ _ p) hk, Nat.le_refl _⟩, hd _ _ p⟩⟩
    have hx : xs[i]? = some xs[i] := List.getElem?_eq_getElem hi
    have q := sqT_same (keep _ _ _ p) hk
    refine ⟨⟨xs, _, q, hx⟩, ?_⟩
    rintro _ _ ⟨T, x, rfl, hT, rfl, f⟩
    have e := (f xs q).symm.trans hx
    cases e
    rw [Int.zero_add]
    exact hs i _ σ' H' T hx p hT
end Td
set_option maxHeartbeats 4000000
namespace Td
open PySem PySem.Spec PyProof.Rows L2
/-! ### try: .. except (A, B): .. -/
theorem utS_push {h : Heap} {o : Obj} : h.UpToSlots (h.push o) := fun b ob e _ => ⟨ob.slots, by
  rw [show ({ cls := ob.cls, dict := ob.dict, data := ob.data, slots := ob.slots } : Obj) = ob from rfl]
  exact Heap.get?_push_of_some _ e⟩
theorem fly_push {base h : Heap} {l : List Env} {e : Addr} {Z : Obj → Prop} {o : Obj} (f : HandSPX.FlyingZ base l e Z h) : HandSPX.FlyingZ base l e Z (h.push o) := by
  obtain ⟨f1, f2, f3, oe, vs, T, oT, ts, g1, g2, g3, g4, g5, g6, g7, g8, g9⟩ := f
  have st : ∀ {b : Addr} {ob : Obj}, h.get? b = some ob → (h.push o).get? b = some ob := fun e => Heap.get?_push_of_some _ e
  exact ⟨fun b ob e => st (f1 b ob e), f2, Heap.FunFrames.of_keeps (fun b ob e _ => ⟨ob, st e, rfl⟩) f3, oe, vs, T, oT, ts, st g1, g2, g3, g4, g5, g6, st g7, g8, g9⟩
def wTwo (K : PySem.W.Frag) (c1 c2 : Value) (ts : Addr → Value → Option Addr → TS) (D : Ends) : WX := fun cls d σ H => PySem.W.exmAny K cls [c1, c2] = some true ∧ ∀ a, H a = none → ts a cls d D σ H
theorem ps_try_two {X : Cx} {body : List Stmt} {x y : Str} {c1 c2 : Value} {p1 p2 p3 pos' : Pos} {k : Nat} {b₀ : Stmt} {suite : List Stmt} {ts : Addr → Value → Option Addr → TS} {pos : Pos} {tb : WX → TS}
    (stk : X.stack = X.env :: X.outer) (frm : X.env.frame = some X.env.locals) (n1 : Names X x c1) (n2 : Names X y c2)
    (inner : ∀ (W : WX) (pn : List (Addr × Obj)) (xe : Value → Shared → Prop), Takes (X.tr pn xe) W → PassesOwn (model X.prog X.w) X.A X.env xe → PSs (X.tr pn xe) body (tb W))
    (caught : ∀ (a : Addr) (oe : Obj) (cls : Value) (d : Option Addr) (pn : List (Addr × Obj)), Zc cls d oe → (∃ vs, oe.data = .fields vs) → PSs (X.suite a ((a, oe) :: pn)) (b₀ :: suite) (ts a cls d)) :
    PS X (.Try body [.ExceptHandler (some (.Tuple [.Name x p1, .Name y p2] k p3)) none (b₀ :: suite) pos'] [] [] pos) (fun D σ H => tb (wTwo X.K c1 c2 ts D) D σ H) := by
  refine ⟨fun pins s σ H D I h => ?_⟩
  have okI := I.ok
  have frs_ : X.A.frames = some (X.env :: X.outer) := okI.frames.trans (congrArg some stk)
  refine wpAny_Try_except (wpAny_mono ((inner (wTwo X.K c1 c2 ts D) (X.pn ++ pins) (fun e s1 => wpAny (model X.prog X.w) X.A (noteFrame e X.env) (fun _ s2 => wpAny (model X.prog X.w) X.A (setFlight e none) (fun _ s3 =>
    wpAny (model X.prog X.w) X.A (handleBy e X.env _) (SP X pins D) X.xe s3) X.xe s2) X.xe s1) (fun u s2 xx => ?_) PassesOwn.looking).run [] s σ H D (I.toTry _) h) (fun f s1 q => ?_) (fun e s1 z => z))
  · obtain ⟨a, B, s0, pins2, σ2, H2, cls, d, rfl, J0, nb, up, sky, na, os, ag, wish⟩ := xx
    have J : Inv X pins σ2 H2 s0 := J0.ofTry okI
    have sky2 : Sky B (X.env :: X.outer) a (Zc cls d) X.env.locals s2.heap := stk ▸ sky
    show wpAny (model X.prog X.w) X.A (noteFrame (.ref a) X.env) _ _ _
    refine Sky.land Zc.steady frs_ frm sky2 fun g3 fl3 up3 => ?_
    have J3 : Inv X pins σ2 H2 { s2 with heap := g3 } := J.landed nb fl3.1 (up.trans up3) os ag
    obtain ⟨o3, v3, at3, z3, d3⟩ := fl3.there
    have nfr : a ∉ frs (X.env :: X.outer) := fun hm => by
      obtain ⟨_, o, e, nf⟩ := fl3.2.2.1.mem hm
      rw [at3] at e; cases e
      exact nf _ d3
    have nL : a ≠ X.env.locals := fun z => nfr (List.mem_filterMap.mpr ⟨X.env, List.mem_cons_self, by rw [frm, z]⟩)
    have nF : a ∉ X.fs := fun hm => by
      obtain ⟨e, he, q⟩ := List.mem_filterMap.mp hm
      exact nfr (List.mem_filterMap.mpr ⟨e, List.mem_cons_of_mem _ he, q⟩)
    have S3 := J3.suite at3 d3 na nL nF
    refine wpAny_handleBy_cons (codeAny_handlers_test ?_) (fun q => nomatch q)
    have test : ∀ {x : Str} {np : Pos} {c : Value} {Q E : Value → Shared → Prop}, Names X x c → Q c { s2 with heap := g3 } → wpAny (model X.prog X.w) (X.A.mark (some (.ref a))) (eval (.Name x np) X.env) Q E { s2 with heap := g3 } := fun {x np c Q E} nam q => by
      obtain ⟨hg, db, hm | ⟨hm, hv, nn⟩⟩ := nam
      · exact ld_glob (X := X.suite a ((a, o3) :: (X.pn ++ pins))) S3 hg hm q db
      · exact ld_blt (X := X.suite a ((a, o3) :: (X.pn ++ pins))) S3 hg hm hv q nn db
    refine wpAny_Tuple_spliced (spliced_more (test n1 (spliced_more (test n2 (spliced_none ⟨by show 2 ≤ sizeLine; decide, ?_⟩)))))
    have tp : (g3.push { cls := .type "tuple", data := .seq #[c1, c2] }).get? g3.objs.size = some { cls := .type "tuple", data := .seq #[c1, c2] } := Heap.get?_push_size _ rfl
    have flP := fly_push (o := { cls := .type "tuple", data := .seq #[c1, c2] }) fl3
    have upP : s0.heap.UpToSlots (g3.push { cls := .type "tuple", data := .seq #[c1, c2] }) := (up.trans up3).trans utS_push
    show wpAny (model X.prog X.w) (X.A.mark (some (.ref a))) (excMatches (.ref a) (.ref g3.objs.size)) _ _ { s2 with heap := g3.push { cls := .type "tuple", data := .seq #[c1, c2] } }
    generalize g3.push { cls := .type "tuple", data := .seq #[c1, c2] } = gp at tp flP upP ⊢
    obtain ⟨oP, vP, atP, zP, dP⟩ := flP.there
    have JP : Inv X pins σ2 H2 { s2 with heap := gp } := J.landed nb flP.1 upP os ag
    have look : PySem.W.Looks (model X.prog X.w) gp (typeOf (.ref a)) cls := fun A Q E s k q => wpAny_typeOf_ref (k _ _ atP) (by rw [zP.1]; exact q)
    refine (PySem.W.exm_tup2 (M := model X.prog X.w) JP.kIn look tp wish.1).here (codeAny_handlers_suite (HandSPX.lands_againZ flP fun g4 fl4 up4 => ?_))
    have J4 : Inv X pins σ2 H2 { s2 with heap := g4 } := J.landed nb fl4.1 (upP.trans up4) os ag
    obtain ⟨o4, v4, at4, z4, d4⟩ := fl4.there
    refine wpAny_mono ((caught a o4 cls d (X.pn ++ pins) z4 ⟨_, d4⟩).run [] _ _ H2 _ (J4.suite at4 d4 na nL nF) (wish.2 a na)) (fun f s6 q => ?_) (fun _ _ z => z.elim)
    cases f with
    | next => obtain ⟨σ6, H6, S6, q6⟩ := q; exact ⟨_, _, S6.unsuite okI, q6⟩
    | brk => obtain ⟨σ6, H6, S6, q6⟩ := q; exact ⟨_, _, S6.unsuite okI, q6⟩
    | cont => obtain ⟨σ6, H6, S6, q6⟩ := q; exact ⟨_, _, S6.unsuite okI, q6⟩
    | ret u => obtain ⟨v6, σ6, H6, S6, r6, q6⟩ := q; exact ⟨_, _, _, S6.unsuite okI, r6, q6⟩
  · cases f with
    | next => obtain ⟨σ2, H2, J2, r⟩ := q; exact wpAny_execs_nil ⟨σ2, H2, J2.ofTry okI, r⟩
    | brk => obtain ⟨σ2, H2, J2, r⟩ := q; exact ⟨σ2, H2, J2.ofTry okI, r⟩
    | cont => obtain ⟨σ2, H2, J2, r⟩ := q; exact ⟨σ2, H2, J2.ofTry okI, r⟩
    | ret u => obtain ⟨v, σ2, H2, J2, e, r⟩ := q; exact ⟨v, σ2, H2, J2.ofTry okI, e, r⟩
end Td
set_option maxHeartbeats 4000000
namespace Td
open PySem PySem.Spec PyProof.Rows L2
/-! ### rows of deeds -/
abbrev Sta := List Str × List (List Str)
def stp (rows : List (List Str)) (s : Sta) (p : Deed) : Option Sta :=
  match fIx s.2 p.1 with
  | none => none
  | some j => match fIx rows p.2 with
    | none => none
    | some i =>
      if s.1.getD i "" = (s.2.getD j []).getD 1 "" then some (s.1.set i (oth ((rows.getD i []).getD 1 "") ((rows.getD i []).getD 2 "") (s.1.getD i "")), s.2.set j [p.1, oth ((rows.getD i []).getD 1 "") ((rows.getD i []).getD 2 "") (s.1.getD i "")]) else none
theorem stp_no {rows : List (List Str)} {s : Sta} {p : Deed} (h : p.1 ∉ s.2.map hd0 ∨ p.2 ∉ rows.map hd0) : stp rows s p = none := by
  unfold stp
  rcases h with h | h
  · rw [fIx_none h]
  · rw [fIx_none h]
    split <;> rfl
theorem stp_at {rows places : List (List Str)} {faces : List Str} {w x a b f r : Str} {i j : Nat} (nd : (places.map hd0).Nodup) (nr : (rows.map hd0).Nodup) (hi : rows[i]? = some [x, a, b]) (hf : faces[i]? = some f) (hj : places[j]? = some [w, r]) :
    stp rows (faces, places) (w, x) = if f = r then some (faces.set i (oth a b f), places.set j [w, oth a b f]) else none := by
  have e1 : rows.getD i [] = [x, a, b] := by rw [List.getD_eq_getElem?_getD, hi]; rfl
  have e2 : faces.getD i "" = f := by rw [List.getD_eq_getElem?_getD, hf]; rfl
  have e3 : places.getD j [] = [w, r] := by rw [List.getD_eq_getElem?_getD, hj]; rfl
  unfold stp
  show (match fIx places w with | none => none | some j => match fIx rows x with | none => none | some i => _) = _
  rw [fIx_some nd hj (show hd0 [w, r] = w from rfl), fIx_some nr hi (show hd0 [x, a, b] = x from rfl)]
  simp only [e1, e2, e3]
  rfl
/-- a deed that can be done: where it is -/
theorem stp_some {rooms : List Str} {rows : List (List Str)} {s s' : Sta} {p : Deed} (hv : HallV rooms rows) (ht : StV rooms rows s.1 s.2) (h : stp rows s p = some s') :
    ∃ (i j : Nat) (a b f : Str), rows[i]? = some [p.2, a, b] ∧ s.1[i]? = some f ∧ s.2[j]? = some [p.1, f] ∧ a ≠ b ∧ (f = a ∨ f = b) ∧ a ∈ rooms ∧ b ∈ rooms ∧ s' = (s.1.set i (oth a b f), s.2.set j [p.1, oth a b f]) := by
  by_cases hw : p.1 ∈ s.2.map hd0
  case neg => rw [stp_no (.inl hw)] at h; cases h
  by_cases hx : p.2 ∈ rows.map hd0
  case neg => rw [stp_no (.inr hx)] at h; cases h
  obtain ⟨j, r, hj, hr⟩ := place_at ht hw
  obtain ⟨i, a, b, hi, ha, hb, hab⟩ := row_at hv hx
  obtain ⟨f, hf, hfab⟩ := face_at ht hi
  have e := stp_at (faces := s.1) ht.pnd hv.dn hi hf hj
  rw [show stp rows s p = stp rows (s.1, s.2) (p.1, p.2) from rfl, e] at h
  by_cases hfr : f = r
  · rw [if_pos hfr] at h
    subst hfr
    exact ⟨i, j, a, b, f, hi, hf, hj, hab, hfab, ha, hb, (Option.some.inj h).symm⟩
  · rw [if_neg hfr] at h
    cases h
theorem oth_mem {a b f : Str} : oth a b f = a ∨ oth a b f = b := by
  unfold oth
  split
  · exact .inr rfl
  · exact .inl rfl
theorem map_hd0_set {l : List (List Str)} {j : Nat} {w r t : Str} (h : l[j]? = some [w, r]) : (l.set j [w, t]).map hd0 = l.map hd0 := by
  refine List.ext_getElem? fun k => ?_
  rw [List.getElem?_map, List.getElem?_map, List.getElem?_set]
  by_cases z : j = k
  · subst z
    rw [if_pos rfl, if_pos (List.getElem?_eq_some_iff.mp h).1, h]
    rfl
  · rw [if_neg z]
theorem stp_st {rooms : List Str} {rows : List (List Str)} {s s' : Sta} {p : Deed} (hv : HallV rooms rows) (ht : StV rooms rows s.1 s.2) (h : stp rows s p = some s') : StV rooms rows s'.1 s'.2 := by
  obtain ⟨i, j, a, b, f, hi, hf, hj, hab, hfab, ha, hb, rfl⟩ := stp_some hv ht h
  have tm : oth a b f ∈ rooms := by rcases oth_mem (a := a) (b := b) (f := f) with e | e <;> rw [e] <;> assumption
  refine ⟨by rw [List.length_set]; exact ht.fl, fun k g r e1 e2 => ?_, by rw [List.length_set]; exact ht.p5, fun q hq => ?_, ?_⟩
  · rw [List.getElem?_set] at e1
    by_cases z : i = k
    · subst z
      rw [if_pos rfl, if_pos (List.getElem?_eq_some_iff.mp hf).1] at e1
      cases e1
      rw [hi] at e2
      cases e2
      exact ⟨_, a, b, rfl, oth_mem⟩
    · rw [if_neg z] at e1
      exact ht.fc k g r e1 e2
  · rcases List.mem_or_eq_of_mem_set hq with hq | hq
    · exact ht.pl q hq
    · obtain ⟨w, r, e, hn, _⟩ := ht.pl _ (List.mem_of_getElem? hj)
      cases e
      exact ⟨p.1, _, hq, hn, tm⟩
  · have e := map_hd0_set (t := oth a b f) hj
    have u := ht.up
    show Up "" ((s.2.set j [p.1, oth a b f]).map hd0)
    rw [e]
    exact u
def goM (rows : List (List Str)) (s : Sta) (l : List Deed) : Option Sta := l.foldlM (stp rows) s
theorem goM_nil (rows : List (List Str)) (s : Sta) : goM rows s [] = some s := rfl
theorem goM_snoc {rows : List (List Str)} {s s' : Sta} {l : List Deed} {p : Deed} (h : goM rows s l = some s') : goM rows s (l ++ [p]) = stp rows s' p := by
  unfold goM at h ⊢
  rw [List.foldlM_append, h]
  show List.foldlM (stp rows) s' [p] = _
  rw [List.foldlM_cons]
  cases stp rows s' p <;> rfl
theorem goM_st {rooms : List Str} {rows : List (List Str)} (hv : HallV rooms rows) : ∀ {l : List Deed} {s s' : Sta}, StV rooms rows s.1 s.2 → goM rows s l = some s' → StV rooms rows s'.1 s'.2
  | [], s, s', ht, h => by
    cases h
    exact ht
  | p :: l, s, s', ht, h => by
    unfold goM at h
    rw [List.foldlM_cons] at h
    cases e : stp rows s p with
    | none => rw [e] at h; cases h
    | some t =>
      rw [e] at h
      exact goM_st hv (stp_st hv ht e) h
def spCanD : Sp := fun vs H Q _ => ∃ (h st : Addr) (w x : Str) (rooms : List Str) (rows : List (List Str)) (faces : List Str) (places : List (List Str)), vs = [.ref h, .ref st, .str w, .str x] ∧ HSt H h st rooms rows faces places ∧
  ((w ∉ places.map hd0 ∨ x ∉ rows.map hd0) → ∀ H', Same H H' → Q (.bl false) H') ∧
  (∀ (i j : Nat) (a b f r : Str), rows[i]? = some [x, a, b] → faces[i]? = some f → places[j]? = some [w, r] → ∀ H', Same H H' → Q (.bl (decide (f = r))) H')
def spRun (K : PySem.W.Frag) : Sp := fun vs H Q E => ∃ (h st r : Addr) (rooms : List Str) (rows : List (List Str)) (faces : List Str) (places : List (List Str)) (l : List Deed), vs = [.ref h, .ref st, .ref r] ∧ HSt H h st rooms rows faces places ∧ Rw K H r l ∧
  (∀ (i : Nat) (p : Deed) (s' : Sta), l[i]? = some p → goM rows (faces, places) (l.take i) = some s' → stp rows s' p = none → errW K E "Blocked" "index" (.int i) H) ∧
  (∀ s', goM rows (faces, places) l = some s' → ∀ p H', Same H H' → HS H' p s'.1 s'.2 → Q (.ref p) H')
end Td
namespace Td
open PySem PySem.Spec PyProof.Rows L2
def DoL (rows : List (List Str)) (s : Sta) (l : List Deed) : Prop := ∀ d ∈ l, ∃ s', stp rows s d = some s'
theorem DoL.app {rows : List (List Str)} {s : Sta} {l m : List Deed} (h : DoL rows s l) (g : DoL rows s m) : DoL rows s (l ++ m) := fun d hd => (List.mem_append.mp hd).elim (h d) (g d)
theorem stp_nm {rooms : List Str} {rows : List (List Str)} {s s' : Sta} {p : Deed} (hv : HallV rooms rows) (ht : StV rooms rows s.1 s.2) (h : stp rows s p = some s') : Nm p.1 ∧ Nm p.2 := by
  obtain ⟨i, j, a, b, f, hi, hf, hj, _⟩ := stp_some hv ht h
  obtain ⟨w, r, e, hn, _⟩ := ht.pl _ (List.mem_of_getElem? hj)
  obtain ⟨n, x, y, e2, hn2, _⟩ := hv.row _ (List.mem_of_getElem? hi)
  cases e
  cases e2
  exact ⟨hn, hn2⟩
def spDeedsL : Sp := fun vs H Q _ => ∃ (h st : Addr) (rooms : List Str) (rows : List (List Str)) (faces : List Str) (places : List (List Str)), vs = [.ref h, .ref st] ∧ HSt H h st rooms rows faces places ∧
  ∀ p l H', H p = none → Same H H' → RowL H' p l → DoL rows (faces, places) l → l.length ≤ 60 → Q (.ref p) H'
def spWalkL : Sp := fun vs H Q _ => ∃ (b h st : Addr) (m : Int) (rooms : List Str) (rows : List (List Str)) (faces : List Str) (places : List (List Str)), vs = [.ref b, .ref h, .ref st, .int m] ∧ Box H b ∧ HSt H h st rooms rows faces places ∧ 0 ≤ m ∧ m ≤ 60 ∧
  ∀ p rp sp l s' H', H' p = some (.tup [.ref rp, .ref sp]) → H rp = none → RowL H' rp l → HS H' sp s'.1 s'.2 → goM rows (faces, places) l = some s' → StV rooms rows s'.1 s'.2 → (l.length : Int) ≤ m → NmD l → Box H' b → Ch b H H' → Q (.ref p) H'
theorem RowsAt.app {H : Hp} : ∀ {as : List Addr} {rs : List (List Str)} {bs : List Addr} {qs : List (List Str)}, RowsAt H as rs → RowsAt H bs qs → RowsAt H (as ++ bs) (rs ++ qs) := by
  intro as rs bs qs h g
  refine ⟨by rw [List.length_append, List.length_append, h.1, g.1], fun i a r e1 e2 => ?_⟩
  by_cases hi : i < as.length
  · rw [List.getElem?_append_left hi] at e1
    rw [List.getElem?_append_left (by rw [← h.1]; exact hi)] at e2
    exact h.2 i a r e1 e2
  · rw [List.getElem?_append_right (by omega)] at e1
    rw [List.getElem?_append_right (by rw [← h.1]; omega), ← h.1] at e2
    exact g.2 _ a r e1 e2
end Td
namespace Td
open PySem PySem.Spec PyProof.Rows L2
/-! ### what a law tells of a row -/
def dueR (rows : List (List Str)) : Sta → List Deed → Nat → PyData
  | s, [], _ => valD (hsD s.1 s.2)
  | s, p :: l, k => match stp rows s p with
    | none => .tuple [.str "blocked", .int k, .bool true]
    | some s' => dueR rows s' l (k + 1)
theorem goM_cons {rows : List (List Str)} {s s' : Sta} {p : Deed} {l : List Deed} (h : stp rows s p = some s') : goM rows s (p :: l) = goM rows s' l := by
  unfold goM
  rw [List.foldlM_cons, h]
  rfl
theorem goM_cons_no {rows : List (List Str)} {s : Sta} {p : Deed} {l : List Deed} (h : stp rows s p = none) : goM rows s (p :: l) = none := by
  unfold goM
  rw [List.foldlM_cons, h]
  rfl
theorem dueR_no {rows : List (List Str)} : ∀ {l : List Deed} {s s' : Sta} {k i : Nat} {p : Deed}, l[i]? = some p → goM rows s (l.take i) = some s' → stp rows s' p = none → dueR rows s l k = .tuple [.str "blocked", .int ((k + i : Nat) : Int), .bool true]
  | [], s, s', k, i, p, h, _, _ => by cases h
  | q :: l, s, s', k, 0, p, h, hg, hn => by
    cases h
    cases hg
    unfold dueR
    rw [hn]
    rfl
  | q :: l, s, s', k, i + 1, p, h, hg, hn => by
    rw [List.take_succ_cons] at hg
    cases e : stp rows s q with
    | none => rw [goM_cons_no e] at hg; cases hg
    | some t =>
      rw [goM_cons e] at hg
      unfold dueR
      rw [e]
      show dueR rows t l (k + 1) = _
      rw [dueR_no (k := k + 1) (i := i) h hg hn, show k + 1 + i = k + (i + 1) by omega]
theorem dueR_go {rows : List (List Str)} : ∀ {l : List Deed} {s s' : Sta} {k : Nat}, goM rows s l = some s' → dueR rows s l k = valD (hsD s'.1 s'.2)
  | [], s, s', k, h => by
    cases h
    rfl
  | q :: l, s, s', k, h => by
    cases e : stp rows s q with
    | none => rw [goM_cons_no e] at h; cases h
    | some t =>
      rw [goM_cons e] at h
      unfold dueR
      rw [e]
      exact dueR_go h
theorem dr_yes {H : Hp} {t : Addr} {c : Str} {v : V} {d : PyData} (h : H t = some (.tup [.str c, v, .bl true])) (hv : Sc v d) : DR H 5 (.ref t) (.tuple [.str c, d, .bool true]) := by
  refine .inr ⟨t, _, _, rfl, rfl, h, ⟨rfl, by show 3 ≤ 1000; decide⟩, fun i v e a1 a2 => ?_⟩
  match i with
  | 0 => cases a1; cases a2; exact .inl (.inl ⟨c, rfl, rfl⟩)
  | 1 => cases a1; cases a2; exact .inl hv
  | 2 => cases a1; cases a2; exact .inl (.inr (.inl ⟨true, rfl, rfl⟩))
  | i + 3 => cases a1
theorem dr_st {H : Hp} {p : Addr} {rooms : List Str} {rows : List (List Str)} {s : Sta} (hv : HallV rooms rows) (ht : StV rooms rows s.1 s.2) (h : HS H p s.1 s.2) : DR H 4 (.ref p) (hsD s.1 s.2) := by
  have d12 := hv.d12
  have fl := ht.fl
  have p5 := ht.p5
  refine dr_hs h (by omega) (by omega) fun r hr => ?_
  obtain ⟨a, b, rfl, _⟩ := ht.pl r hr
  show 2 ≤ 1000
  decide
def spOut (K : PySem.W.Frag) : Sp := fun vs H Q _ => ∃ (h st r : Addr) (rooms : List Str) (rows : List (List Str)) (faces : List Str) (places : List (List Str)) (l : List Deed), vs = [.ref h, .ref st, .ref r] ∧ HSt H h st rooms rows faces places ∧ Rw K H r l ∧
  ∀ p H', Same H H' → DR H' 5 (.ref p) (dueR rows (faces, places) l 0) → Q (.ref p) H'
end Td
namespace Td
open PySem PySem.Spec PyProof.Rows L2
theorem RowsAt.rev {H : Hp} : ∀ {as : List Addr} {l : List Deed}, RowsAt H as (l.map pr) → RowsAt H as.reverse (l.reverse.map pr) := by
  intro as l h
  have e : as.length = l.length := by rw [h.1, List.length_map]
  refine ⟨by rw [List.length_reverse, List.length_map, List.length_reverse, e], fun i a r e1 e2 => ?_⟩
  rw [List.map_reverse] at e2
  have hi : i < as.length := by
    have := (List.getElem?_eq_some_iff.mp e1).1
    rwa [List.length_reverse] at this
  rw [List.getElem?_reverse hi] at e1
  rw [List.getElem?_reverse (by rw [List.length_map, ← e]; exact hi), List.length_map, ← e] at e2
  exact h.2 _ a r e1 e2
def RowT (H : Hp) (p : Addr) (l : List Deed) : Prop := ∃ as : List Addr, H p = some (.tup (as.map V.ref)) ∧ RowsAt H as (l.map pr)
def spRev (K : PySem.W.Frag) : Sp := fun vs H Q _ => ∃ (r : Addr) (l : List Deed), vs = [.ref r] ∧ Rw K H r l ∧ ∀ p H', Same H H' → RowT H' p l.reverse → Q (.ref p) H'
/-! ### lists of deeds with names -/
def AllN (H : Hp) (xs : List V) : Prop := ∀ x ∈ xs, ∃ (a : Addr) (w d : Str), x = .ref a ∧ H a = some (.tup [.str w, .str d]) ∧ Nm w ∧ Nm d
theorem AllN.tu {H H' : Hp} {xs : List V} (x : Tu H H') (h : AllN H xs) : AllN H' xs := fun y hy => by
  obtain ⟨a, w, d, e, ha, n⟩ := h y hy
  exact ⟨a, w, d, e, x _ _ ha, n⟩
theorem AllN.sub {H : Hp} {xs ys : List V} (h : AllN H xs) (s : ∀ y ∈ ys, y ∈ xs) : AllN H ys := fun y hy => h y (s y hy)
theorem AllN.app {H : Hp} {xs ys : List V} (h : AllN H xs) (g : AllN H ys) : AllN H (xs ++ ys) := fun y hy => (List.mem_append.mp hy).elim (h y) (g y)
theorem AllN.of {H : Hp} {as : List Addr} {l : List Deed} (h : RowsAt H as (l.map pr)) (n : NmD l) : AllN H (as.map V.ref) := fun y hy => by
  obtain ⟨i, hi⟩ := List.getElem?_of_mem hy
  obtain ⟨a, r, rfl, hr, ha⟩ := h.row hi
  rw [List.getElem?_map] at hr
  cases e : l[i]? with
  | none => rw [e] at hr; cases hr
  | some p =>
    rw [e] at hr
    cases hr
    exact ⟨a, p.1, p.2, rfl, ha, n p (List.mem_of_getElem? e)⟩
theorem AllN.row {H : Hp} : ∀ {xs : List V}, AllN H xs → ∃ (as : List Addr) (l : List Deed), xs = as.map V.ref ∧ RowsAt H as (l.map pr) ∧ NmD l ∧ l.length = xs.length
  | [], _ => ⟨[], [], rfl, RowsAt.nil, (fun x hx => by cases hx), rfl⟩
  | x :: xs, h => by
    obtain ⟨a, w, d, rfl, ha, n1, n2⟩ := h x List.mem_cons_self
    obtain ⟨as, l, rfl, hR, hn, hl⟩ := AllN.row (xs := xs) fun y hy => h y (List.mem_cons_of_mem _ hy)
    refine ⟨a :: as, (w, d) :: l, rfl, ⟨by rw [List.length_cons, List.map_cons, List.length_cons, hR.1], fun i b r e1 e2 => ?_⟩, fun q hq => ?_, by rw [List.length_cons, List.length_cons, hl]⟩
    · cases i with
      | zero => cases e1; cases e2; exact ha
      | succ i => exact hR.2 i b r e1 e2
    · rcases List.mem_cons.mp hq with rfl | hq
      · exact ⟨n1, n2⟩
      · exact hn q hq
def spChg : Sp := fun vs H Q _ => ∃ (b h st r : Addr) (rooms : List Str) (rows : List (List Str)) (faces : List Str) (places : List (List Str)) (l : List Deed), vs = [.ref b, .ref h, .ref st, .ref r] ∧ Box H b ∧ HSt H h st rooms rows faces places ∧ RowL H r l ∧ NmD l ∧ l.length ≤ 60 ∧
  ∀ p l' H', H p = none → RowL H' p l' → NmD l' → l'.length ≤ 60 → Box H' b → Ch b H H' → Q (.ref p) H'
end Td
namespace Td
open PySem PySem.Spec PyProof.Rows L2
theorem AllN.set {H : Hp} {xs : List V} {k : Nat} {v : V} (h : AllN H xs) (g : AllN H [v]) : AllN H (xs.set k v) := fun y hy => (List.mem_or_eq_of_mem_set hy).elim (h y) fun e => g y (by rw [e]; exact List.mem_cons_self)
theorem AllN.one {H : Hp} {a : Addr} {w d : Str} (h : H a = some (.tup [.str w, .str d])) (n1 : Nm w) (n2 : Nm d) : AllN H [.ref a] := fun y hy => ⟨a, w, d, List.mem_singleton.mp hy, h, n1, n2⟩
theorem tuL {H : Hp} {l : Addr} {xs ys : List V} (h : H l = some (.lst xs)) : Tu H (upd H l (.lst ys)) := fun a zs e => by
  rw [upd_ne (fun z => by rw [z, h] at e; cases e)]
  exact e
end Td
namespace Td
open PySem PySem.Spec PyProof.Rows L2
theorem ixN_nat {n k : Nat} (h : k < n) : ixN n (k : Int) = some k := by
  unfold ixN
  rw [if_pos (Int.natCast_nonneg k), if_pos (by omega), Int.toNat_natCast]
end Td
set_option maxHeartbeats 4000000
namespace Td
open PySem PySem.Spec PyProof.Rows L2
/-- the state after a deed that can be done -/
def spLPZ : Sp := fun vs H Q _ => ∃ (h st : Addr) (w n : Str) (rooms : List Str) (rows : List (List Str)) (faces : List Str) (places : List (List Str)) (s' : Sta), vs = [.ref h, .ref st, .str w, .str n] ∧ (HS H h rooms rows ∧ HallV rooms rows ∧ HZ H st faces places ∧ StV rooms rows faces places) ∧ stp rows (faces, places) (w, n) = some s' ∧
  ∀ p H', Same H H' → HZ H' p s'.1 s'.2 → StV rooms rows s'.1 s'.2 → Q (.ref p) H'
theorem and_ev {a b : TT} {σ : L2.St} {H : Hp} {Q : Bool → Hp → Prop} (x y : Bool) (ha : ∀ K : Bool → Hp → Prop, K x H → a σ H K) (hb : x = true → ∀ K : Bool → Hp → Prop, K y H → b σ H K) (q : Q (x && y) H) : tAnd a b σ H Q := by
  refine ha _ ?_
  cases x with
  | true => exact iteT (hb rfl _ q)
  | false => exact iteF q
theorem if_ev {c : TT} {t u : TS} {D : Ends} {σ : L2.St} {H : Hp} (x : Bool) (hc : ∀ K : Bool → Hp → Prop, K x H → c σ H K) (ht : x = true → t D σ H) (hu : x = false → u D σ H) : tIfS c t u D σ H := by
  refine hc _ ?_
  cases x with
  | true => exact iteT (ht rfl)
  | false => exact iteF (hu rfl)
theorem ife_ev {t : TT} {ta tb : TE} {σ : L2.St} {H : Hp} {Q : VK} (x : Bool) (v : V) (ht : ∀ K : Bool → Hp → Prop, K x H → t σ H K) (ha : x = true → ∀ K : VK, K v H → ta σ H K) (hb : x = false → ∀ K : VK, K v H → tb σ H K) (q : Q v H) : tIf t ta tb σ H Q := by
  refine ht _ ?_
  cases x with
  | true => exact iteT (ha rfl _ q)
  | false => exact iteF (hb rfl _ q)
theorem dstr_b {a b : Str} : decide (V.str a = V.str b) = decide (a = b) := by
  by_cases z : a = b
  · rw [decide_eq_true z, decide_eq_true (by rw [z])]
  · rw [decide_eq_false z, decide_eq_false fun w => z (V.str.inj w)]
section
variable {P : Program} {w : World} {K : PySem.W.Frag} {mg : Str → Option Value} {base : Heap} {f : Addr} {fd : FuncData}
abbrev s_law_passed : Stmt := top 49
abbrev n_law_passed : List Str := ["hall", "state", "walker", "door", "faces", "places", "at", "place", "name", "one", "other", "spot"]
theorem sc_law_passed : FnScope n_law_passed ["hall", "state", "walker", "door"] (defScope s_law_passed) := ⟨rfl, rfl, rfl, by decide +kernel, rfl, by decide +kernel, by decide +kernel⟩
theorem ok_law_passed (F : FnP K "_law_passed" s_law_passed f fd) (hm : mg "_law_passed" = some (.ref f)) (m_enumerate : mg "enumerate" = none) (m_list : mg "list" = none) (m_tuple : mg "tuple" = none) :
    Cal P w K mg base 1 "_law_passed" spLPZ := by
  refine cal_of (F.ok sc_law_passed (fun vs H Q E h => ?_) (fun cdv A outer s H vs Q E hr h => ?_)) hm F.kp (F.bindsN (ps := ["hall", "state", "walker", "door"]) fun _ _ _ _ _ _ us hl => match us, hl with | [_, _, _, _], _ => rfl)
  · obtain ⟨h, st, wk, dr, rooms, rows, faces, places, s0, rfl, ⟨hH, hV, hS, hSt⟩, hst0, q⟩ := h
    rfl
  obtain ⟨h, st, wk, dr, rooms, rows, faces, places, s0, rfl, ⟨hH, hV, hS, hSt⟩, hst0, q⟩ := h
  have nd := sc_law_passed.nd
  refine ⟨_, PSs.nox (pss_cons (ps_par (i := 4) (j := 5) (by rfl) nd rfl rfl (by decide) rfl rfl (pa_cons (pe_callTy (r := rLsOf K) call_list_of (by rfl) m_list (by decide +kernel) (pa_cons (pe_ix (r := rIxT K) ix_tup (pv 1) pe_int (fun _ _ => rfl)) pa_nil)) (pa_cons (pe_lc (own := [("place", 7)]) (g := (gName 7)) (by rfl) nd (pi_tup (pe_ix (r := rIxT K) ix_tup (pv 1) pe_int (fun _ _ => rfl))) (blkOk_by (own := [("place", 7)]) (N := n_law_passed) (sc := defScope s_law_passed) (by decide +kernel)) (fun _ _ _ _ _ => (pg_name (i := 7) nd rfl (Or.inl rfl))) (fun _ _ _ _ _ => pts_nil) (fun _ _ _ _ _ => (pe_callTy (r := rLsOf K) call_list_of (by rfl) m_list (by decide +kernel) (pa_cons (pv 7) pa_nil)))) pa_nil)) (by rfl))
    (pss_cons (ps_for PassesOwn.never rfl (pi_enumQ (by rfl) m_enumerate (pa_cons (pe_ix (r := rIxT K) ix_tup (pv 0) pe_int (fun _ _ => rfl)) pa_nil)) (pg_tup (by rfl) (pgs_cons (pg_name (i := 6) nd rfl (Or.inl rfl)) (pgs_cons (pg_tup (by rfl) (pgs_cons (pg_name (i := 8) nd rfl (Or.inl rfl)) (pgs_cons (pg_name (i := 9) nd rfl (Or.inl rfl)) (pgs_cons (pg_name (i := 10) nd rfl (Or.inl rfl)) pgs_nil)))) pgs_nil))) (pss_one (ps_for PassesOwn.never rfl (pi_list (pv 5)) (pg_name (i := 7) nd rfl (Or.inl rfl)) (pss_one (ps_if (PW.pt (pw_and (pt_cmpR op_eq (pv 8) (pv 3) (nomark _)) (pw_and (pt_cmpR op_eq (pe_ix (r := rIxL K) ix_list (pv 7) pe_int (fun _ _ => rfl)) (pv 2) (nomark _)) (pw_and1 (pt_cmpR op_eq (pe_ix (r := rIxL K) ix_list (pv 7) pe_int (fun _ _ => rfl)) (pe_ix (r := rIxL K) ix_list (pv 4) (pv 6) (fun _ _ => rfl)) (nomark _)))))) (pss_cons (ps_asg (pe_ifExp (pt_cmpR op_eq (pe_ix (r := rIxL K) ix_list (pv 4) (pv 6) (fun _ _ => rfl)) (pv 9) (nomark _)) (pv 10) (pv 9)) (pg_sub (pv 4) (pv 6) set_list))
    (pss_cons (ps_asg (pe_ix (r := rIxL K) ix_list (pv 4) (pv 6) (fun _ _ => rfl)) (pg_sub (pv 7) pe_int set_list))
    (pss_one (ps_ret (pe_tup (pa_cons (pe_callTy (r := rTpZ K) call_tuple_ofZ (by rfl) m_tuple (by decide +kernel) (pa_cons (pv 4) pa_nil)) (pa_cons (pe_callTy (r := rTpOf K) call_tuple_of (by rfl) m_tuple (by decide +kernel) (pa_cons (pe_lc (own := [("spot", 11)]) (g := (gName 11)) (by rfl) nd (pi_list (pv 5)) (blkOk_by (own := [("spot", 11)]) (N := n_law_passed) (sc := defScope s_law_passed) (by decide +kernel)) (fun _ _ _ _ _ => (pg_name (i := 11) nd rfl (Or.inl rfl))) (fun _ _ _ _ _ => pts_nil) (fun _ _ _ _ _ => (pe_callTy (r := rTpOf K) call_tuple_of (by rfl) m_tuple (by decide +kernel) (pa_cons (pv 11) pa_nil)))) pa_nil)) pa_nil))))))) pss_nil)))))
    (pss_one (ps_ret pe_non)))), ?_⟩
  have hw : WayOk rows faces places wk dr := by
    obtain ⟨i, j, a, b, f, hi, hf, hj, _⟩ := stp_some hV hSt hst0
    exact ⟨i, f, a, b, hi, hf, List.mem_of_getElem? hj⟩
  obtain ⟨r, d, h1, h2, as, h3, hRA⟩ := id hH
  obtain ⟨fa, pl, s1, s2, bs, s3, hRB⟩ := id hS
  have hal : (as.map V.ref).length = rows.length := by rw [List.length_map]; exact hRA.1
  have hbl : (bs.map V.ref).length = places.length := by rw [List.length_map]; exact hRB.1
  have fl := hSt.fl
  have p5 := hSt.p5
  have d12 := hV.d12
  refine ⟨_, rfl, st, _, _, _, rfl, rfl, SqT.of s1, atI_nat (j := 0) rfl, fa, _, rfl, (.inr s2.sq), fun F hF => ?_⟩
  have t1 := same_new hF (.lst (faces.map V.str))
  have kF : upd H F (.lst (faces.map V.str)) F = some (.lst (faces.map V.str)) := upd_same
  generalize upd H F (.lst (faces.map V.str)) = H1 at t1 kF ⊢
  refine ⟨_, rfl, st, _, _, _, rfl, rfl, SqT.of (t1 _ _ s1), atI_nat (j := 1) rfl, pl, rfl, ⟨_, SqT.of (t1 _ _ s3)⟩, fun D hD => ?_⟩
  refine lc_tup (K := K) (a := pl) (xs := bs.map V.ref) (fun i Hx => Same H1 Hx ∧ ∃ cs : List Addr, Hx D = some (.lst (cs.map V.ref)) ∧ cs.length = i ∧ cs.Nodup ∧ (∀ c ∈ cs, H1 c = none ∧ c ≠ D) ∧ ∀ (j : Nat) (c : Addr) (r : List Str), cs[j]? = some c → places[j]? = some r → Hx c = some (.lst (r.map V.str)))
    ⟨same_new hD _, [], upd_same, rfl, List.nodup_nil, (fun c hc => by cases hc), fun j c r e => by cases e⟩ (fun i Hx _ ⟨sx, _⟩ => SqT.of (sx _ _ (t1 _ _ s3))) (fun i y Hx hy ⟨sx, cs, hDx, hcl, hcn, hcf, hcr⟩ => ?_) (fun H2 ⟨t2, cs, kD, hcl, hcn, hcf, hcr⟩ => ?_)
  · obtain ⟨a, p, rfl, hpi, hpa⟩ := hRB.row hy
    refine ⟨rfl, lcY ?_⟩
    refine ⟨_, rfl, a, _, rfl, .inr (SqT.of (sx _ _ (t1 _ _ hpa))), fun l hl => ?_⟩
    have sl := same_new hl (.lst (p.map V.str))
    have nlD : l ≠ D := fun e => by rw [e, hDx] at hl; cases hl
    have hl1 : H1 l = none := by
      cases z : H1 l with
      | none => rfl
      | some o => rw [sx _ _ z] at hl; cases hl
    have hil : i < places.length := (List.getElem?_eq_some_iff.mp hpi).1
    have nlc : l ∉ cs := fun hm => by
      obtain ⟨j, hj⟩ := List.getElem?_of_mem hm
      have hjl : j < cs.length := (List.getElem?_eq_some_iff.mp hj).1
      have e := hcr j l _ hj (List.getElem?_eq_getElem (show j < places.length by omega))
      rw [hl] at e
      cases e
    refine ⟨_, sl _ _ hDx, ?_, same_mut (sx.trans sl) hD _, cs ++ [l], ?_, ?_, ?_, ?_, ?_⟩
    · rw [List.length_map, hcl]
      exact sz100 (by omega)
    · rw [upd_same, List.map_append]
      rfl
    · rw [List.length_append, hcl]
      rfl
    · exact List.nodup_append.mpr ⟨hcn, (List.pairwise_singleton _ _), fun x hx y hy e => nlc (by rw [List.mem_singleton.mp hy] at e; rw [← e]; exact hx)⟩
    · intro c hc
      rcases List.mem_append.mp hc with hc | hc
      · exact hcf c hc
      · rw [List.mem_singleton.mp hc]
        exact ⟨hl1, nlD⟩
    · intro j c r' e1 e2
      by_cases hj : j < cs.length
      · rw [List.getElem?_append_left hj] at e1
        rw [upd_ne (hcf c (List.mem_of_getElem? e1)).2]
        exact sl _ _ (hcr j c r' e1 e2)
      · rw [List.getElem?_append_right (by omega)] at e1
        have hj2 : j = cs.length := by
          have z := (List.getElem?_eq_some_iff.mp e1).1
          rw [List.length_singleton] at z
          omega
        subst hj2
        rw [Nat.sub_self] at e1
        cases e1
        rw [hcl, hpi] at e2
        cases e2
        rw [upd_ne nlD]
        exact upd_same
  rw [hbl] at hcl
  have t02 := t1.trans t2
  have kF2 := t2 _ _ kF
  have nFD : F ≠ D := fun e => by rw [e] at kF; rw [kF] at hD; cases hD
  have hcF : ∀ c ∈ cs, c ≠ F := fun c hc e => by
    have z := (hcf c hc).1
    rw [e, kF] at z
    cases z
  have hcD : ∀ c ∈ cs, c ≠ D := fun c hc => (hcf c hc).2
  have hcH : ∀ c ∈ cs, H c = none := fun c hc => by
    cases z : H c with
    | none => rfl
    | some o =>
      have y := (hcf c hc).1
      rw [t1 _ _ z] at y
      cases y
  have hDH : H D = none := by
    cases z : H D with
    | none => rfl
    | some o => rw [t1 _ _ z] at hD; cases hD
  clear hD t1 t2 kF hcf
  refine ⟨_, _, rfl, ?_⟩
  -- the doors
  refine ⟨_, rfl, h, _, _, _, rfl, rfl, SqT.of (t02 _ _ h1), atI_nat (j := 1) rfl, d, rfl, ?_⟩
  refine for_enq (xs := as.map V.ref) (.inr (SqT.of (t02 _ _ h3))) (fun i σ' H' => Same H2 H' ∧ (∀ i' < i, ∀ (a b f : Str), rows[i']? = some [dr, a, b] → faces[i']? = some f → [wk, f] ∉ places) ∧ ∃ v6 v7 v8 v9 v10 : Option V, σ' = [some (.ref h), some (.ref st), some (.str wk), some (.str dr), some (.ref F), some (.ref D), v6, v7, v8, v9, v10, none]) ⟨Same.refl H2, (fun i' hi' => by omega), _, _, _, _, _, rfl⟩ (fun i σ' H' ⟨sx, _⟩ => sx) (fun i y σ' H' T hy hP hT => ?_) (fun σ' H' hP => ?_)
  case refine_2 =>
    obtain ⟨sx, hno, _⟩ := hP
    obtain ⟨i0, r0, a0, b0, e1, e2, e3⟩ := hw
    have hil : i0 < rows.length := (List.getElem?_eq_some_iff.mp e1).1
    exact absurd e3 (hno i0 (by omega) a0 b0 r0 e1 e2)
  obtain ⟨sx, hno, v6, v7, v8, v9, v10, rfl⟩ := hP
  obtain ⟨a, p, rfl, hpi, hpa⟩ := hRA.row hy
  obtain ⟨n, e1, e2, rfl, _⟩ := hV.row p (List.mem_of_getElem? hpi)
  have hil : i < rows.length := (List.getElem?_eq_some_iff.mp hpi).1
  have hfi : faces[i]? = some (faces[i]'(by omega)) := List.getElem?_eq_getElem (by omega)
  generalize faces[i]'(by omega) = fc at hfi
  have hfv : (faces.map V.str)[i]? = some (.str fc) := by rw [List.getElem?_map, hfi]; rfl
  have sT := sx.trans (same_new hT (.tup [.int (i : Nat), .ref a]))
  refine ⟨T, _, rfl, SqT.of upd_same, rfl, _, _, rfl, _, _, rfl, ⟨a, _, rfl, SqT.of (sT _ _ (t02 _ _ hpa)), rfl, _, _, rfl, _, _, rfl, _, _, rfl, rfl, rfl, ?_⟩⟩
  generalize upd H' T (.tup [.int (i : Nat), .ref a]) = H3 at sT ⊢
  -- the places
  refine ⟨_, rfl, D, rfl, ⟨_, SqL.of (sT _ _ kD)⟩, ?_⟩
  refine for_list (K := K) (a := D) (xs := cs.map V.ref) (fun j σ' H' => Same H2 H' ∧ (∀ j' < j, n = dr → places[j']? ≠ some [wk, fc]) ∧ ∃ v7 : Option V, σ' = [some (.ref h), some (.ref st), some (.str wk), some (.str dr), some (.ref F), some (.ref D), some (.int (i : Nat)), v7, some (.str n), some (.str e1), some (.str e2), none]) ⟨sT, (fun j' hj' => by omega), _, rfl⟩ (fun j σ' H' _ ⟨sx, _⟩ => SqL.of (sx _ _ kD)) (fun j y σ' H' hy hP => ?_) (fun σ' H' hP => ?_)
  case refine_2 =>
    obtain ⟨sy, hno2, v7, rfl⟩ := hP
    refine ⟨sy, fun i' hi' a' b' f' q1 q2 q3 => ?_, _, _, _, _, _, rfl⟩
    by_cases e : i' < i
    · exact hno i' e a' b' f' q1 q2 q3
    · obtain rfl : i' = i := by omega
      rw [hpi] at q1
      rw [hfi] at q2
      cases q1
      cases q2
      obtain ⟨j', hj'⟩ := List.getElem?_of_mem q3
      have hjl : j' < places.length := (List.getElem?_eq_some_iff.mp hj').1
      exact hno2 j' (by rw [List.length_map]; omega) rfl hj'
  obtain ⟨sy, hno2, v7, rfl⟩ := hP
  obtain ⟨c, hcj, rfl⟩ : ∃ c, cs[j]? = some c ∧ y = .ref c := by
    rw [List.getElem?_map] at hy
    cases z : cs[j]? with
    | none => rw [z] at hy; cases hy
    | some c => rw [z] at hy; cases hy; exact ⟨c, rfl, rfl⟩
  have hjl : j < cs.length := (List.getElem?_eq_some_iff.mp hcj).1
  have hpj : places[j]? = some (places[j]'(by omega)) := List.getElem?_eq_getElem (by omega)
  obtain ⟨pw, pr, epp, _⟩ := hSt.pl _ (List.getElem_mem (show j < places.length by omega))
  rw [epp] at hpj
  have hc := sy _ _ (hcr j c _ hcj hpj)
  have hcm := List.mem_of_getElem? hcj
  have kF5 := sy _ _ kF2
  refine if_ev (decide (n = dr) && (decide (pw = wk) && decide (pr = fc))) (fun Kc hK => ?_) (fun hT => ?_) (fun hFl => ?_)
  · refine and_ev (decide (n = dr)) (decide (pw = wk) && decide (pr = fc)) (fun K2 h2 => ?_) (fun _ K2 h2 => ?_) hK
    · refine ⟨_, rfl, _, rfl, rfl, _, rfl, ?_⟩
      rw [dstr_b]
      exact h2
    · refine and_ev (decide (pw = wk)) (decide (pr = fc)) (fun K3 h3 => ?_) (fun _ K3 h3 => ?_) h2
      · refine ⟨_, rfl, c, _, _, _, rfl, rfl, SqL.of hc, atI_nat (j := 0) rfl, _, rfl, rfl, _, rfl, ?_⟩
        rw [dstr_b]
        exact h3
      · refine ⟨_, rfl, c, _, _, _, rfl, rfl, SqL.of hc, atI_nat (j := 1) rfl, _, rfl, _, rfl, F, _, _, _, rfl, rfl, SqL.of kF5, atI_nat hfv, rfl, _, rfl, ?_⟩
        rw [dstr_b]
        exact h3
  case refine_3 =>
    refine ⟨sy, fun j' hj' en e => ?_, _, rfl⟩
    by_cases z : j' < j
    · exact hno2 j' z en e
    · obtain rfl : j' = j := by omega
      rw [hpj] at e
      cases e
      rw [decide_eq_true en, decide_eq_true rfl, decide_eq_true rfl] at hFl
      cases hFl
  simp only [Bool.and_eq_true, decide_eq_true_eq] at hT
  obtain ⟨rfl, rfl, rfl⟩ := hT
  -- the new face
  refine ife_ev (decide (pr = e1)) (.str (oth e1 e2 pr)) (fun Kc hK => ?_) (fun z Kc hK => ?_) (fun z Kc hK => ?_) ?_
  · refine ⟨_, rfl, _, rfl, F, _, _, _, rfl, rfl, SqL.of kF5, atI_nat hfv, _, rfl, rfl, _, rfl, ?_⟩
    rw [dstr_b]
    exact hK
  · refine ⟨_, rfl, ?_⟩
    unfold oth at hK
    rw [if_pos (of_decide_eq_true z)] at hK
    exact hK
  · refine ⟨_, rfl, ?_⟩
    unfold oth at hK
    rw [if_neg (of_decide_eq_false z)] at hK
    exact hK
  have hst := stp_at (w := pw) (x := n) hSt.pnd hV.dn hpi hfi hpj
  rw [if_pos rfl] at hst
  have hst2 := stp_st hV (s := (faces, places)) hSt hst
  have q0 : s0 = (faces.set i (oth e1 e2 pr), places.set j [pw, oth e1 e2 pr]) := Option.some.inj (hst0.symm.trans hst)
  subst q0
  clear hst0 hst
  generalize oth e1 e2 pr = nf at hst2 q ⊢
  have hlf : (faces.map V.str).length = faces.length := List.length_map _
  refine ⟨_, rfl, _, rfl, F, _, _, i, rfl, rfl, kF5, ixN_nat (by omega), ?_⟩
  have ncF := hcF c hcm
  have g1 : upd H' F (.lst ((faces.map V.str).set i (.str nf))) F = some (.lst ((faces.set i nf).map V.str)) := by rw [upd_same, List.map_set]
  have gc : upd H' F (.lst ((faces.map V.str).set i (.str nf))) c = some (.lst (([pw, pr] : List Str).map V.str)) := by rw [upd_ne ncF]; exact hc
  have hnf : ((faces.set i nf).map V.str)[i]? = some (.str nf) := by rw [List.getElem?_map, List.getElem?_set, if_pos rfl, if_pos (by omega)]; rfl
  refine ⟨_, rfl, _, rfl, F, _, _, _, rfl, rfl, SqL.of g1, atI_nat hnf, _, rfl, c, _, _, 1, rfl, rfl, gc, rfl, ?_⟩
  have hFH : H F = none := hF
  have sG : Same H (upd (upd H' F (.lst ((faces.map V.str).set i (.str nf)))) c (.lst ((([pw, pr] : List Str).map V.str).set 1 (.str nf)))) := same_mut (same_mut (t02.trans sy) hFH _) (hcH c hcm) _
  have gF : upd (upd H' F (.lst ((faces.map V.str).set i (.str nf)))) c (.lst ((([pw, pr] : List Str).map V.str).set 1 (.str nf))) F = some (.lst ((faces.set i nf).map V.str)) := by rw [upd_ne ncF.symm]; exact g1
  have gD : upd (upd H' F (.lst ((faces.map V.str).set i (.str nf)))) c (.lst ((([pw, pr] : List Str).map V.str).set 1 (.str nf))) D = some (.lst (cs.map V.ref)) := by
    rw [upd_ne (hcD c hcm).symm, upd_ne nFD.symm]
    exact sy _ _ kD
  have gR : ∀ (j' : Nat) (c' : Addr) (r : List Str), cs[j']? = some c' → (places.set j [pw, nf])[j']? = some r → upd (upd H' F (.lst ((faces.map V.str).set i (.str nf)))) c (.lst ((([pw, pr] : List Str).map V.str).set 1 (.str nf))) c' = some (.lst (r.map V.str)) := fun j' c' r q1 q2 => by
    rw [List.getElem?_set] at q2
    by_cases z : j = j'
    · subst z
      rw [if_pos rfl, if_pos (by omega)] at q2
      rw [hcj] at q1
      cases q1
      cases q2
      exact upd_same
    · rw [if_neg z] at q2
      have ne : c' ≠ c := fun e => by
        subst e
        exact z ((List.getElem?_inj hjl hcn).mp (hcj.trans q1.symm))
      rw [upd_ne ne, upd_ne (hcF c' (List.mem_of_getElem? q1))]
      exact sy _ _ (hcr j' c' r q1 q2)
  have psl : (places.set j [pw, nf]).length = places.length := List.length_set
  have p5' := hst2.p5
  generalize places.set j [pw, nf] = pls at gR psl hst2 p5' q
  generalize faces.set i nf = fcs at gF hst2 q
  generalize upd (upd H' F (.lst ((faces.map V.str).set i (.str nf)))) c (.lst ((([pw, pr] : List Str).map V.str).set 1 (.str nf))) = G at sG gF gD gR ⊢
  refine ⟨_, rfl, F, _, rfl, SqL.of gF, fun tz oz htz hoz => ?_⟩
  have u1 := same_new htz (.frz oz (.tup (fcs.map V.str)))
  have kz : TZ (upd G tz (.frz oz (.tup (fcs.map V.str)))) tz (fcs.map V.str) := ⟨oz, hoz, upd_same⟩
  generalize upd G tz (.frz oz (.tup (fcs.map V.str))) = G1 at u1 kz ⊢
  refine ⟨_, rfl, D, rfl, ⟨_, SqL.of (u1 _ _ gD)⟩, fun E1 hE1 => ?_⟩
  refine lc_list (K := K) (a := D) (xs := cs.map V.ref) (fun k Hx => Same G1 Hx ∧ ∃ ds : List Addr, Hx E1 = some (.lst (ds.map V.ref)) ∧ RowsAt Hx ds (pls.take k)) ⟨same_new hE1 _, [], upd_same, RowsAt.nil⟩ (fun k Hx _ ⟨sz, _⟩ => SqL.of (sz _ _ (u1 _ _ gD))) (fun k y Hx hy ⟨sz, ds, hEx, hD2⟩ => ?_) (fun Hx ⟨sz, ds, hEx, hD2⟩ => ?_)
  · obtain ⟨c', hcj', rfl⟩ : ∃ c, cs[k]? = some c ∧ y = .ref c := by
      rw [List.getElem?_map] at hy
      cases z : cs[k]? with
      | none => rw [z] at hy; cases hy
      | some c => rw [z] at hy; cases hy; exact ⟨c, rfl, rfl⟩
    have hkl : k < cs.length := (List.getElem?_eq_some_iff.mp hcj').1
    have hpk : pls[k]? = some (pls[k]'(by omega)) := List.getElem?_eq_getElem (by omega)
    generalize pls[k]'(by omega) = rk at hpk
    have hck := sz _ _ (u1 _ _ (gR k c' rk hcj' hpk))
    refine ⟨rfl, lcY ?_⟩
    refine ⟨_, rfl, c', _, rfl, .inl ⟨SqL.of hck, fun t ht => ?_⟩⟩
    have st := same_new ht (.tup (rk.map V.str))
    have kt : upd Hx t (.tup (rk.map V.str)) t = some (.tup (rk.map V.str)) := upd_same
    have dl := hD2.1
    rw [List.length_take] at dl
    show ∃ acc, upd Hx t (.tup (rk.map V.str)) E1 = some (.lst acc) ∧ _
    generalize upd Hx t (.tup (rk.map V.str)) = Hy at st kt ⊢
    have hEy := st _ _ hEx
    have tum : Tu Hy (upd Hy E1 (.lst (ds.map V.ref ++ [.ref t]))) := fun a xs h => by
      rw [upd_ne (fun e => by rw [e, hEy] at h; cases h)]
      exact h
    refine ⟨_, hEy, ?_, same_mut (sz.trans st) hE1 _, ds ++ [t], ?_, ?_⟩
    · rw [List.length_map]
      exact sz100 (by omega)
    · rw [upd_same, List.map_append]
      rfl
    · rw [take_snoc hpk]
      exact ((hD2.tu (Tu.same st)).tu tum).snoc (tum _ _ kt)
  rw [show (cs.map V.ref).length = pls.length by rw [List.length_map]; omega, List.take_length] at hD2
  refine ⟨E1, _, rfl, .inl ⟨SqL.of hEx, fun t2 ht2 => ⟨(by show 2 ≤ sizeLine; decide), fun t3 ht3 => ?_⟩⟩⟩
  have u2 := (same_new ht2 (.tup (ds.map V.ref))).trans (same_new ht3 (.tup [.ref tz, .ref t2]))
  have sF := (sG.trans u1).trans (sz.trans u2)
  exact q t3 _ sF ⟨tz, t2, upd_same, (kz.same sz).same u2, ds, same_new ht3 _ _ _ upd_same, hD2.tu (Tu.same u2)⟩ hst2
end
end Td
set_option maxHeartbeats 4000000
namespace Td
open PySem PySem.Spec PyProof.Rows L2
section
variable {P : Program} {w : World} {K : PySem.W.Frag} {mg : Str → Option Value} {base : Heap} {f : Addr} {fd : FuncData}
abbrev s_law_deeds : Stmt := top 50
abbrev n_law_deeds : List Str := ["hall", "state", "found", "walker", "room", "door", "face"]
theorem sc_law_deeds : FnScope n_law_deeds ["hall", "state"] (defScope s_law_deeds) := ⟨rfl, rfl, rfl, by decide +kernel, rfl, by decide +kernel, by decide +kernel⟩
theorem ok_law_deeds (F : FnP K "_law_deeds" s_law_deeds f fd) (hm : mg "_law_deeds" = some (.ref f)) (m_zip : mg "zip" = none) :
    Cal P w K mg base 1 "_law_deeds" spDeedsZ := by
  refine cal_of (F.ok sc_law_deeds (fun vs H Q E h => ?_) (fun cdv A outer s H vs Q E hr h => ?_)) hm F.kp (F.bindsN (ps := ["hall", "state"]) fun _ _ _ _ _ _ us hl => match us, hl with | [_, _], _ => rfl)
  · obtain ⟨h, st, rooms, rows, faces, places, rfl, hH, hV, hS, hSt, q⟩ := h
    rfl
  obtain ⟨h, st, rooms, rows, faces, places, rfl, hH, hV, hS, hSt, q⟩ := h
  have nd := sc_law_deeds.nd
  refine ⟨_, PSs.nox (pss_cons (ps_set (i := 2) nd rfl (Or.inl rfl) (pe_lst pa_nil))
    (pss_cons (ps_for PassesOwn.never rfl (pi_tup (pe_ix (r := rIxT K) ix_tup (pv 1) pe_int (fun _ _ => rfl))) (pg_tup (by rfl) (pgs_cons (pg_name (i := 3) nd rfl (Or.inr rfl)) (pgs_cons (pg_name (i := 4) nd rfl (Or.inr rfl)) pgs_nil))) (pss_one (ps_expr (show PE _ _ (tBM K _ _ _ _) from pe_bm PySem.F.plainAttrs_list PySem.F.slot_list_extend PySem.F.type_list_extend mt_extend (pv 2) (pa_cons (pe_lc (own := [("door", 5), ("face", 6)]) (g := (gTup K 2 (gCons (gName 5) (gCons (gName 6) gNil)))) (by rfl) nd (RZ.pi_zipA (by rfl) m_zip (pa_cons (pe_ix (r := rIxT K) ix_tup (pv 0) pe_int (fun _ _ => rfl)) (pa_cons (pe_ix (r := rIxT K) ix_tup (pv 1) pe_int (fun _ _ => rfl)) pa_nil))) (blkOk_by (own := [("door", 5), ("face", 6)]) (N := n_law_deeds) (sc := defScope s_law_deeds) (by decide +kernel)) (fun _ _ _ _ _ => (pg_tup (by rfl) (pgs_cons (pg_name (i := 5) nd rfl (Or.inl rfl)) (pgs_cons (pg_name (i := 6) nd rfl (Or.inl rfl)) pgs_nil)))) (fun _ _ _ _ _ => (pts_one (pt_cmpR op_eq (pv 6) (pv 4) (nomark _)))) (fun _ _ _ _ _ => (pe_tup (pa_cons (pv 3) (pa_cons (pe_ix (r := rIxT K) ix_tup (pv 5) pe_int (fun _ _ => rfl)) pa_nil))))) pa_nil)))))
    (pss_one (ps_ret (pv 2))))), ?_⟩
  obtain ⟨r, d, h1, h2, as, h3, hRA⟩ := id hH
  obtain ⟨fa, pl, g1, g2, bs, g3, hRB⟩ := id hS
  have hal : as.length = rows.length := hRA.1
  have hbl : (bs.map V.ref).length = places.length := by rw [List.length_map]; exact hRB.1
  have d12 := hV.d12
  have p5 := hSt.p5
  have hfl := hSt.fl
  refine ⟨(by show 0 ≤ sizeLine; decide), fun D hD => ?_⟩
  refine ⟨_, rfl, st, _, _, _, rfl, rfl, SqT.of (same_new hD _ _ _ g1), atI_nat (j := 1) rfl, pl, rfl, ⟨_, SqT.of (same_new hD _ _ _ g3)⟩, ?_⟩
  refine for_tup (K := K) (a := pl) (xs := bs.map V.ref) (fun i σ' H' => ∃ (v3 v4 : Option V) (cs : List Addr) (l : List Deed), σ' = [some (.ref h), some (.ref st), some (.ref D), v3, v4, none, none] ∧ Same H H' ∧ H' D = some (.lst (cs.map V.ref)) ∧ RowsAt H' cs (l.map pr) ∧ (∀ x ∈ l, WayOk rows faces places x.1 x.2) ∧ l.length ≤ i * 12) ⟨none, none, [], [], rfl, same_new hD _, upd_same, RowsAt.nil, (fun x hx => by cases hx), Nat.zero_le _⟩ (fun i σ' H' _ ⟨_, _, _, _, _, sx, _⟩ => SqT.of (sx _ _ g3)) (fun i y σ' H' hy hP => ?_) (fun σ' H' hP => ?_)
  · obtain ⟨v3, v4, cs, l, rfl, sx, hDx, hC, hdo, hll⟩ := hP
    obtain ⟨ap, p', rfl, hpi, hpa⟩ := hRB.row hy
    obtain ⟨wn, rn, rfl, _⟩ := hSt.pl p' (List.mem_of_getElem? hpi)
    have hil : i < places.length := (List.getElem?_eq_some_iff.mp hpi).1
    refine ⟨ap, _, rfl, SqT.of (sx _ _ hpa), rfl, _, _, rfl, _, _, rfl, rfl, ?_⟩
    refine ⟨_, rfl, .inl ⟨rfl, _, SqL.of hDx⟩, _, rfl, h, _, _, _, rfl, rfl, SqT.of (sx _ _ h1), atI_nat (j := 1) rfl, _, rfl, st, _, _, _, rfl, rfl, SqT.of (sx _ _ g1), atI_nat (j := 0) rfl, d, fa, as.map V.ref, faces.map V.str, rfl, .inr ⟨SqT.of (sx _ _ h3), (g2.same sx).sq, fun E hE => ?_⟩⟩
    refine lc_gen (n := rows.length) (fun k Hx => Same H' Hx ∧ ∃ (es : List Addr) (m : List Deed), Hx E = some (.lst (es.map V.ref)) ∧ RowsAt Hx es (m.map pr) ∧ (∀ x ∈ m, WayOk rows faces places x.1 x.2) ∧ m.length ≤ k) ⟨same_new hE _, [], [], upd_same, RowsAt.nil, (fun x hx => by cases hx), Nat.le_refl _⟩ (fun k Hx hk ⟨sy, es, m, hEx, hM, hdm, hml⟩ => ?_) (fun Hx ⟨sy, es, m, hEx, hM, hdm, hml⟩ => ?_)
    · have hri : rows[k]? = some rows[k] := List.getElem?_eq_getElem hk
      have hai : as[k]? = some (as[k]'(by omega)) := List.getElem?_eq_getElem (by omega)
      have hfi : faces[k]? = some (faces[k]'(by omega)) := List.getElem?_eq_getElem (by omega)
      generalize faces[k]'(by omega) = fc at hfi
      generalize as[k]'(by omega) = ai at hai
      have hrow := hRA.2 k _ _ hai hri
      obtain ⟨n, e1, e2, er, _⟩ := hV.row _ (List.getElem_mem hk)
      rw [er] at hrow hri
      have ex : (as.map V.ref)[k]? = some (.ref ai) := by rw [List.getElem?_map, hai]; rfl
      have ey : (faces.map V.str)[k]? = some (.str fc) := by rw [List.getElem?_map, hfi]; rfl
      have qx : SqT K Hx d (as.map V.ref) := SqT.of (sy _ _ (sx _ _ h3))
      have qy : SqT K Hx fa (faces.map V.str) := ((g2.same sx).same sy).sq
      refine ⟨⟨_, _, _, _, qx, qy, ex, ey⟩, ?_⟩
      rintro _ _ ⟨T, v1, v2, rfl, hT, rfl, f1, f2⟩
      have t1 := (f1 _ qx).symm.trans ex
      have t2 := (f2 _ qy).symm.trans ey
      cases t1
      cases t2
      have sT := same_new hT (.tup [.ref ai, .str fc])
      refine ⟨T, _, rfl, SqT.of upd_same, rfl, _, _, rfl, _, _, rfl, rfl, ?_⟩
      refine ⟨rfl, _, rfl, _, rfl, rfl, _, rfl, ?_⟩
      have hrow2 := sT _ _ (sy _ _ (sx _ _ hrow))
      have hEy := sT _ _ hEx
      have hMy := hM.tu (Tu.same sT)
      have syT := sy.trans sT
      generalize upd Hx T (.tup [.ref ai, .str fc]) = Hy at hrow2 hEy hMy syT ⊢
      by_cases e : fc = rn
      · rw [decide_eq_true (show V.str fc = V.str rn by rw [e])]
        refine iteT ⟨_, rfl, _, rfl, ai, _, _, _, rfl, rfl, SqT.of hrow2, atI_nat (j := 0) rfl, (by show 2 ≤ sizeLine; decide), fun tq htq => ?_⟩
        have sq := same_new htq (.tup [.str wn, .str n])
        have htq' : upd Hy tq (.tup [.str wn, .str n]) tq = some (.tup ((pr (wn, n)).map V.str)) := upd_same
        show ∃ acc, upd Hy tq (.tup [.str wn, .str n]) E = some (.lst acc) ∧ _
        generalize upd Hy tq (.tup [.str wn, .str n]) = Hz at sq htq' ⊢
        have hEz := sq _ _ hEy
        have tum : Tu Hz (upd Hz E (.lst (es.map V.ref ++ [.ref tq]))) := fun a xs h => by
          rw [upd_ne (fun e => by rw [e, hEz] at h; cases h)]
          exact h
        have el : es.length = m.length := by rw [hM.1, List.length_map]
        refine ⟨_, hEz, ?_, same_mut (syT.trans sq) hE _, es ++ [tq], m ++ [(wn, n)], ?_, ?_, (fun q hq => (List.mem_append.mp hq).elim (fun z => hdm q z) fun hq => ?_), ?_⟩
        · rw [List.length_map]
          exact sz100 (by omega)
        · rw [upd_same, List.map_append]
          rfl
        · rw [List.map_append]
          exact ((hMy.tu (Tu.same sq)).tu tum).snoc (tum _ _ htq')
        · rw [List.mem_singleton.mp hq]
          exact ⟨k, fc, e1, e2, hri, hfi, by rw [e]; exact List.mem_of_getElem? hpi⟩
        · rw [List.length_append]
          show m.length + 1 ≤ k + 1
          omega
      · rw [decide_eq_false (fun z => e (V.str.inj z))]
        exact iteF ⟨syT, es, m, hEy, hMy, hdm, by omega⟩
    · refine ⟨⟨_, _, SqT.of (sy _ _ (sx _ _ h3)), ((g2.same sx).same sy).sq, .inl (by rw [List.length_map]; omega)⟩, ?_⟩
      have hDy := sy _ _ hDx
      have el : es.length = m.length := by rw [hM.1, List.length_map]
      have cl : cs.length = l.length := by rw [hC.1, List.length_map]
      have tum : Tu Hx (upd Hx D (.lst (cs.map V.ref ++ es.map V.ref))) := fun a xs h => by
        rw [upd_ne (fun e => by rw [e, hDy] at h; cases h)]
        exact h
      refine ⟨D, E, _, _, rfl, rfl, hDy, hEx, ?_, _, _, cs ++ es, l ++ m, rfl, same_mut (sx.trans sy) hD _, ?_, ?_, (fun q hq => (List.mem_append.mp hq).elim (fun z => hdo q z) fun z => hdm q z), ?_⟩
      · rw [List.length_map, List.length_map]
        exact Nat.le_of_lt (sz100 (by omega))
      · rw [upd_same, List.map_append]
      · rw [List.map_append]
        exact RowsAt.app ((hC.tu (Tu.same sy)).tu tum) (hM.tu tum)
      · rw [List.length_append]
        omega
  · obtain ⟨v3, v4, cs, l, rfl, sx, hDx, hC, hdo, hll⟩ := hP
    rw [hbl] at hll
    refine ⟨_, rfl, q D cs (l.map pr) H' hD sx hDx hC (by rw [List.length_map]; omega) fun x hx => ?_⟩
    obtain ⟨y, hy, rfl⟩ := List.mem_map.mp hx
    exact ⟨y.1, y.2, rfl, hdo y hy⟩
end
end Td
set_option maxHeartbeats 4000000
namespace Td
open PySem PySem.Spec PyProof.Rows L2 LamX NdefX
/-! ### a lambda with one parameter, handed to a def as its second argument -/
abbrev lamF (X : Cx) (pr : Arguments) (sc : Scope) (c : Addr) : NF := ⟨"<lambda>", X.env.qual ++ "<lambda>", pr, [], sc, cloFrom X.env.cells sc.names [], c⟩
theorem cells_un {cl : List (Str × Addr)} {fr : List Str} {ws : List (Option V)} {L : List Addr} {H HZ : Hp} {h g : Heap} (C : CellsAt cl fr ws h H) (un : Un L [] H HZ h g) : CellsAt cl fr ws g HZ := by
  have kp : ∀ {c : Addr} {v : Option Value}, H c = none → h.IsCell c v → g.IsCell c v := fun {c v} n z => by
    obtain ⟨o, ho, hd⟩ := z
    obtain ⟨sl, q⟩ := un.any ho n List.not_mem_nil
    exact ⟨_, q, hd⟩
  refine ⟨C.len, fun y c e => ?_, C.inj, fun i y e => ?_⟩
  · obtain ⟨n, v, z⟩ := C.all y c e
    refine ⟨?_, v, kp n z⟩
    obtain ⟨o, ho, _⟩ := z
    exact un.free c o ho n List.not_mem_nil
  · obtain ⟨c, hc, hv⟩ := C.has i y e
    refine ⟨c, hc, fun v ev => ?_⟩
    obtain ⟨u, z1, z2⟩ := hv v ev
    exact ⟨u, z1, kp (C.all y c hc).1 z2⟩
/-- a(e): the call in the def that got the lambda -/
def tAct (i : Nat) (f c : Addr) (q : Str) (te : TE) (tl : V → Hp → VK → Prop) : TE := fun σ H Q => σ[i]? = some (some (.ref f)) ∧ te σ H fun v H1 => H1 c = some (CodeO c q) ∧ tl v H1 Q
def ActS (Z : Cx) (a : Str) (i : Nat) (f c : Addr) (q : Str) (tl : V → Hp → VK → Prop) : Prop :=
  ∀ (e : Expr) (te : TE) (p1 p2 : Pos), PE Z e te → starEach [e] Z.env = (false, eval e Z.env) :: starEach [] Z.env → PE Z (.Call (.Name a p1) [e] [] p2) (tAct i f c q te tl)
section
variable {X : Cx} {pins : List (Addr × Obj)} {σ : L2.St} {H : Hp} {s : Shared}
theorem act_of {Ng N fr : List Str} {qg a b : Str} {sg sc : Scope} {g f c : Addr} {cdg pm ctv : Value} {pr : Arguments} {body : Expr} {ws : List (Option V)} {k i : Nat} {tb : TE} {Eg : XK} (I : Inv X pins σ H s) (S : NScope N [b] fr sc)
    (hf : s.heap.get? f = some (PySem.W.kla_obj "<lambda>" (X.env.qual ++ "<lambda>") pr body sc (cloFrom X.env.cells sc.names []) pm c ctv)) (hfn : H f = none) (hfr : f ∉ frs X.stack) (C : CellsAt (cloFrom X.env.cells sc.names []) fr ws s.heap H)
    (hb : ∀ u : Value, bindArgs (PySem.W.kla_fn "<lambda>" (X.env.qual ++ "<lambda>") pr body sc (cloFrom X.env.cells sc.names []) pm (.ref c) ctv) ⟨[u], []⟩ = pure [(b, u)]) (hr : Room (k + 1) (X.A.deeper (envOfC qg sg s.heap.objs.size g cdg)))
    (wk : ∀ (A : Around) (outer : List Env) (s : Shared) (H : Hp), Room k (A.deeper (envF (lamF X pr sc c) f s.heap.objs.size)) → PE (ncx C8.CX0 X.prog X.w X.K X.mg X.base N (lamF X pr sc c) f A outer s H C8.E0).nox body tb)
    (hN : Ng[i]? = some a) (hv : Vis sg a) (hd : (a == ("__debug__" : Str)) = false) (hcd : (a == ("__classdict__" : Str)) = false) :
    ActS (cxOf C8.CX0 X.prog X.w X.K X.mg X.base Ng qg sg g cdg X.A X.stack s H Eg).nox a i f c (X.env.qual ++ "<lambda>") (fun v H' Q => tb (startF N [v] ws) H' Q) := by
  intro e te p1 p2 he hst
  refine ⟨fun pz sz σz Hz Q Iz hz => ?_⟩
  obtain ⟨hs, ht⟩ := hz
  refine wpAny_Call_Name_kw (thn ((pe_var (pos := p1) hN hv hd hcd).run pz sz σz Hz (fun v H1 => v = .ref f ∧ H1 = Hz) Iz ⟨.ref f, hs, rfl, rfl⟩) fun u s1 hu => ?_)
  obtain ⟨v, H1, I1, r1, rfl, rfl⟩ := hu
  obtain rfl : u = Value.ref f := r1
  have of1 := I1.base.keep f _ hf hfn hfr List.not_mem_nil
  refine PySem.W.callWith_F (first := []) ⟨_, _, _, _, of1⟩ (thn ((pa_cons he pa_nil (hs := hst)).run p2 pz s1 σz _ (fun vs H2 => ∃ v, vs = [v] ∧ H2 c = some (CodeO c (X.env.qual ++ "<lambda>")) ∧ tb (startF N [v] ws) H2 Q) I1 ?_) fun us s2 h2 => ?_) hst rfl
  · refine (show te σz H1 (fun v H2 => ∃ w, [v] = [w] ∧ _) from ?_)
    have e2 : (fun (v : V) (H2 : Hp) => ∃ w, [v] = [w] ∧ H2 c = some (CodeO c (X.env.qual ++ "<lambda>")) ∧ tb (startF N [w] ws) H2 Q) = fun v H2 => H2 c = some (CodeO c (X.env.qual ++ "<lambda>")) ∧ tb (startF N [v] ws) H2 Q := by
      funext v H2
      exact propext ⟨fun ⟨w, e, z⟩ => by cases e; exact z, fun z => ⟨v, rfl, z⟩⟩
    rw [e2]
    exact ht
  obtain ⟨vs, H2, I2, r2, v, rfl, hc, hq⟩ := h2
  obtain ⟨u, rfl, ru⟩ := vals1 r2
  have of2 := I2.base.keep f _ hf hfn hfr List.not_mem_nil
  refine ⟨⟨_, _, _, _, of2⟩, ?_⟩
  have un : Un (frs X.stack) [] H H2 s.heap s2.heap := I2.base
  have rc : codeAny (model X.prog X.w) (X.A.deeper (envOfC qg sg s.heap.objs.size g cdg)) (.call (.ref f) ⟨[u], []⟩) (CR C8.CX0 (envOfC qg sg s.heap.objs.size g cdg :: X.stack) X.prog X.w H2 s2 Q C8.E0) s2 := by
    refine PySem.W.kla_callFunE hr.depth of2 rfl S.co S.gen rfl (codeO_at I2.hok hc) ?_
    rw [hb]
    refine wpAny_pure (wpAny_newFunctionEnv S.nocell (fun y hy => S.par y.1 (by obtain rfl := List.mem_singleton.mp hy; exact List.mem_singleton.mpr rfl)) (fun h1 hns hsb => ⟨I2.nolimit.fresh _ hsb, ?_⟩) S.kind)
    have kp : ∀ d o, s2.heap.get? d = some o → h1.get? d = some o := fun d o e => hsb.extBut d o (Nat.ne_of_lt (Heap.lt_size e)) (Heap.get?_push_of_some _ e)
    have J := inv_startN (CX := C8.CX0) (E := C8.E0) (F := lamF X pr sc c) (f := f) (vs := [v]) (us := [u]) (tk := s2.toks + 1) S hr.hd I2.env0 rfl (.cons ru .nil) (cells_un C un) hns kp
    refine PySem.W.kla_codeExpr (wpAny_mono ((wk _ _ s2 H2 (hr.deeper _)).nox.run [] _ _ H2 Q J hq) (fun x s' z => ?_) fun _ _ z => z)
    obtain ⟨y, H', J', ry, q⟩ := z
    exact ⟨y, H', J'.os, J'.bare, J'.base, J'.hok, ry, q⟩
  refine wpAny_call (codeAny_mono rc fun r s' z => ?_)
  cases r with
  | error _ => exact (show False from z).elim
  | ok fl => cases fl with
    | ret x => exact I2.after z
    | next => exact z.elim
    | brk => exact z.elim
    | cont => exact z.elim
end
/-- the def x(p, a), which calls a -/
structure Giv (P : Program) (w : World) (K : PySem.W.Frag) (mg : Str → Option Value) (base : Heap) (k : Nat) (x : Str) (TT : (V → Hp → VK → Prop) → V → Hp → VK → Prop) : Prop where
  ex : ∃ (f : Addr) (fd : FuncData) (st : Stmt) (N : List Str) (p a : Str), FnP K x st f fd ∧ mg x = some (.ref f) ∧ FnScope N [p, a] (defScope st) ∧ Binds K fd [p, a] [] ∧ N[1]? = some a ∧ Vis (defScope st) a ∧ (a == ("__debug__" : Str)) = false ∧ (a == ("__classdict__" : Str)) = false ∧
    ∀ (cdv : Value) (A : Around) (outer : List Env) (s : Shared) (H : Hp) (v : V) (f' c : Addr) (q : Str) (tl : V → Hp → VK → Prop) (Q : VK), Room k (A.deeper (envOfC x (defScope st) s.heap.objs.size f cdv)) →
      ActS (cxOf C8.CX0 P w K mg base N x (defScope st) f cdv A outer s H C8.E0).nox a 1 f' c q tl → H c = some (CodeO c q) → TT tl v H Q →
      ∃ t, PSs (cxOf C8.CX0 P w K mg base N x (defScope st) f cdv A outer s H C8.E0).nox (defBody st) t ∧ t { nx := fun _ H' => Q .non H', rt := Q } (start N [v, .ref f']) H
def tLam1 (T : List (Addr × Str)) (TT : (V → Hp → VK → Prop) → V → Hp → VK → Prop) (js : List Nat) (N : List Str) (t1 t : TE) : TE := fun σ H Q => t1 σ H fun v H1 => Tabs T H1 ∧ ∀ H2, ExtN H1 H2 → Tabs T H2 → TT (fun u H' Q' => t (startF N [u] (js.map (slotAt σ))) H' Q') v H2 Q
theorem pe_lam1 {X : Cx} {T : List (Addr × Str)} {TT : (V → Hp → VK → Prop) → V → Hp → VK → Prop} {x b : Str} {c P : Addr} {k j k0 : Nat} {N fr : List Str} {js : List Nat} {pr : Arguments} {body e1 : Expr} {sc : Scope} {t1 t : TE} {p lpos pos : Pos} (G : Giv X.prog X.w X.K X.mg X.base k x TT) (hr : Room j X.A)
    (hj : k0 + 2 ≤ j) (hk : k ≤ k0 + 1) (hg : Gl X x) (TB : TabB X.base X.mg c P) (hcode : X.env.code = .ref c) (hmT : (P, X.env.qual ++ "<lambda>") ∈ T) (hu : ∀ p ∈ T, p.1 = P → p.2 = X.env.qual ++ "<lambda>") (S : NScope N [b] fr sc) (hnd : ndefB X.env.scope sc fr = true) (hjs : js.map (fun j => X.N[j]?) = fr.map some)
    (hdef : defaultsOf pr X.env = ([], [])) (hb : ∀ (q : Str) (cl : List (Str × Addr)) (pm cv ctv u : Value), bindArgs (PySem.W.kla_fn "<lambda>" q pr body sc cl pm cv ctv) ⟨[u], []⟩ = pure [(b, u)]) (h1 : PE X e1 t1)
    (wk : ∀ (c f : Addr) (A : Around) (outer : List Env) (s : Shared) (H : Hp), Room k0 (A.deeper (envF (lamF X pr sc c) f s.heap.objs.size)) → PE (ncx C8.CX0 X.prog X.w X.K X.mg X.base N (lamF X pr sc c) f A outer s H C8.E0).nox body t)
    (hdb : (x == ("__debug__" : Str)) = false := by decide) (he : starEach [e1, .Lambda pr body sc lpos] X.env = (false, eval e1 X.env) :: starEach [.Lambda pr body sc lpos] X.env := by rfl) :
    PE X (.Call (.Name x p) [e1, .Lambda pr body sc lpos] [] pos) (tLam1 T TT js N t1 t) := by
  refine ⟨fun pins s σ H Q I h => ?_⟩
  obtain ⟨g, fd, st, Ng, pa, a, F, hm, Sg, hbg, hNa, hva, hd1, hd2, wkg⟩ := G.ex
  have kp := F.kp
  obtain ⟨oc, od, dV, kV, doc, pm, an, cdv, ct, osl, rfl, lk, hcd, _, _⟩ := F.ex
  refine wpAny_Call_Name_kw (ld_glob I hg hm ?_ hdb)
  refine PySem.W.callWith_K (h₀ := X.base) I.ok.mod.kin kp ?_ he (by rfl)
  rw [he]
  refine Calls.spliced_cons (thn (h1.run pins s σ H _ I h) fun u1 s1 z1 => ?_)
  obtain ⟨v1, H1, I1, r1, hT, hh⟩ := z1
  have hfree : ∀ y ∈ sc.names, y.2 = .free → ∃ c, X.env.cells.lookup y.1 = some c := fun y hy e => (ndef_free hnd y hy e).elim (fun z => I.ok.has _ (.inl z)) fun z => I.ok.has _ (.inr z)
  refine Calls.spliced_cons (lam_make2 I1 TB hcode hmT hu hT hdef hfree fun f c' pm' ctv H2 s2 I2 eN T2 hf hfn hfr hco => ?_)
  refine Calls.spliced_nil ⟨I2.kIn, ?_⟩
  have rc : codeAny (model X.prog X.w) X.A (.call (.ref g) ⟨[u1, .ref f], []⟩) (CR C8.CX0 X.stack X.prog X.w H2 s2 Q C8.E0) s2 := by
    refine run_ofS (N := Ng) (ps := [pa, a]) (us := [u1, .ref f]) (vs := [v1, .ref f]) lk hcd Sg (hr.mono hj) I2.env0 (hbg s2 [u1, .ref f] I2.kIn rfl) (.cons r1 (.cons rfl .nil)) rfl fun hr2 => ?_
    have C := cells_of I2 (Caps.made (scope := sc) (fr := fr) (js := js) I2.ok (ndef_free hnd) (ndef_fr hnd) hjs)
    obtain ⟨t', ht', hq'⟩ := wkg cdv X.A X.stack s2 H2 v1 f c' _ _ Q (hr2.mono hk) (act_of I2 S hf hfn hfr C (fun u => hb _ _ _ _ _ u) hr2 (fun A outer s H hr3 => wk c' f A outer s H hr3) hNa hva hd1 hd2) hco (hh H2 eN T2)
    exact ⟨t', ht'.nox, hq'⟩
  refine wpAny_call (codeAny_mono rc fun r s3 z => ?_)
  cases r with
  | error _ => exact (show False from z).elim
  | ok fl => cases fl with
    | ret y => exact I2.after z
    | next => exact z.elim
    | brk => exact z.elim
    | cont => exact z.elim
/-! ### a def whose code object is known -/
theorem okC {P : Program} {w : World} {K : PySem.W.Frag} {mg : Str → Option Value} {base : Heap} {CX : CXT} {N ps : List Str} {k : Nat} {sp : Sp} {x : Str} {st : Stmt} {f : Addr} {fd : FuncData} (F : FnP K x st f fd) (hf : f = He.fAd K (x, none)) (S : FnScope N ps (defScope st)) (len : ∀ vs H Q E, sp vs H Q E → vs.length = ps.length)
    (wk : ∀ (A : Around) (outer : List Env) (s : Shared) (H : Hp) (vs : List V) (Q : VK) (E : XK), Room k (A.deeper (envOfC x (defScope st) s.heap.objs.size f (.ref (He.codeOf K (x, none))))) → sp vs H Q E →
      ∃ t, PSs (cxOf CX P w K mg base N x (defScope st) f (.ref (He.codeOf K (x, none))) A outer s H E) (defBody st) t ∧ t { nx := fun _ H' => Q .non H', rt := Q } (start N vs) H) : FnOk P w K mg base CX (k + 1) f fd ps sp := by
  obtain ⟨oc, od, dV, kV, doc, pm, an, cdv, ct, osl, rfl, lk, hcd, _, _⟩ := F.ex
  obtain ⟨c, rfl⟩ := He.codeIn_ref hcd
  have e : He.codeOf K (x, none) = c := He.codeOf_eq (by rw [← hf]; exact lk) rfl
  subst e
  exact fn_of lk hcd S len fun A outer s H vs Q E hr hsp => wk A outer s H vs Q E hr hsp
end Td
set_option maxHeartbeats 4000000
namespace Td
open PySem PySem.Spec PyProof.Rows L2
/-! ### walks, and what breadth first finds -/
abbrev Stp := Str → List (List Str)
inductive Wk (step : Stp) (s : Str) : List Str → Str → Prop
  | nil : Wk step s [] s
  | snoc {p : List Str} {x l y : Str} : Wk step s p x → [l, y] ∈ step x → Wk step s (p ++ [l]) y
/-- .. from the front -/
def Wf (step : Stp) : Str → List Str → Str → Prop
  | x, [], y => x = y
  | x, l :: p, y => ∃ z, [l, z] ∈ step x ∧ Wf step z p y
theorem Wf.snoc {step : Stp} {l y z : Str} : ∀ {p : List Str} {x : Str}, Wf step x p y → [l, z] ∈ step y → Wf step x (p ++ [l]) z
  | [], x, h, g => by
    have h : x = y := h
    subst h
    exact ⟨z, g, rfl⟩
  | m :: p, x, ⟨u, g1, h⟩, g => ⟨u, g1, h.snoc g⟩
theorem Wk.wf {step : Stp} {s x : Str} {p : List Str} (h : Wk step s p x) : Wf step s p x := by
  induction h with
  | nil => rfl
  | snoc _ g ih => exact ih.snoc g
theorem Wk.app {step : Stp} {s y : Str} : ∀ {p q : List Str} {x : Str}, Wk step s q x → Wf step x p y → Wk step s (q ++ p) y
  | [], q, x, h, e => by
    have e : x = y := e
    subst e
    rw [List.append_nil]
    exact h
  | l :: p, q, x, h, ⟨z, g, h2⟩ => by
    have := (h.snoc g).app h2
    rw [List.append_assoc] at this
    exact this
theorem Wk.last {step : Stp} {s y : Str} {q : List Str} (h : Wk step s q y) (hq : 0 < q.length) : ∃ p x l, q = p ++ [l] ∧ Wk step s p x ∧ [l, y] ∈ step x := by
  cases h with
  | nil => exact absurd hq (by decide)
  | snoc h g => exact ⟨_, _, _, rfl, h, g⟩
abbrev ks {α : Type} (fd : List (Str × α)) : List Str := fd.map (·.1)
theorem ks_mem {α : Type} {fd : List (Str × α)} {e : Str × α} (h : e ∈ fd) : e.1 ∈ ks fd := List.mem_map.mpr ⟨e, h, rfl⟩
theorem ks_one {α : Type} : ∀ {fd : List (Str × α)}, (ks fd).Nodup → ∀ {e g : Str × α}, e ∈ fd → g ∈ fd → e.1 = g.1 → e = g
  | [], _, _, _, h, _, _ => nomatch h
  | p :: r, nd, e, g, h1, h2, q => by
    have nd' := List.nodup_cons.mp (show (p.1 :: ks r).Nodup from nd)
    rcases List.mem_cons.mp h1 with a1 | a1
    · rcases List.mem_cons.mp h2 with a2 | a2
      · rw [a1, a2]
      · exact absurd (show p.1 ∈ ks r by rw [← a1, q]; exact ks_mem a2) nd'.1
    · rcases List.mem_cons.mp h2 with a2 | a2
      · exact absurd (show p.1 ∈ ks r by rw [← a2, ← q]; exact ks_mem a1) nd'.1
      · exact ks_one nd'.2 a1 a2 q
structure Spd (step : Stp) (start : Str) (fd : List (Str × List Str)) : Prop where
  nd : (ks fd).Nodup
  wk : ∀ e ∈ fd, Wk step start e.2 e.1
  st : start ∈ ks fd
  cl : ∀ x ∈ ks fd, ∀ l y, [l, y] ∈ step x → y ∈ ks fd
  mn : ∀ e ∈ fd, ∀ q, Wk step start q e.1 → e.2.length ≤ q.length
  ln : ∀ e ∈ fd, e.2.length ≤ fd.length
theorem Spd.all {step : Stp} {s x : Str} {fd : List (Str × List Str)} {q : List Str} (S : Spd step s fd) (h : Wk step s q x) : x ∈ ks fd := by
  induction h with
  | nil => exact S.st
  | snoc _ g ih => exact S.cl _ ih _ _ g
theorem Spd.iff {step : Stp} {s x : Str} {fd : List (Str × List Str)} (S : Spd step s fd) : x ∈ ks fd ↔ ∃ q, Wk step s q x :=
  ⟨fun h => by obtain ⟨e, he, rfl⟩ := List.mem_map.mp h; exact ⟨_, S.wk e he⟩, fun ⟨q, h⟩ => S.all h⟩
/-! ### by levels -/
structure Lev (step : Stp) (s : Str) (U : List Str) (d : Nat) (fd : List (Str × List Str)) (nw : List Str) : Prop where
  nd : (ks fd).Nodup
  wk : ∀ e ∈ fd, Wk step s e.2 e.1
  u : ∀ e ∈ fd, e.1 ∈ U
  le : ∀ e ∈ fd, e.2.length ≤ d
  mn : ∀ q y, Wk step s q y → q.length ≤ d → ∃ e ∈ fd, e.1 = y ∧ e.2.length ≤ q.length
  nwp : ∀ e ∈ fd, e.2.length = d → e.1 ∈ nw
  old : ∀ x ∈ nw, ∃ e ∈ fd, e.1 = x ∧ e.2.length = d
  sz : d + nw.length ≤ fd.length
structure Mid (step : Stp) (s : Str) (U : List Str) (d : Nat) (nw : List Str) (i : Nat) (fd : List (Str × List Str)) (fu : List Str) : Prop where
  nd : (ks fd).Nodup
  wk : ∀ e ∈ fd, Wk step s e.2 e.1
  u : ∀ e ∈ fd, e.1 ∈ U
  le : ∀ e ∈ fd, e.2.length ≤ d + 1
  mn : ∀ q y, Wk step s q y → q.length ≤ d → ∃ e ∈ fd, e.1 = y ∧ e.2.length ≤ q.length
  nwp : ∀ e ∈ fd, e.2.length = d → e.1 ∈ nw
  old : ∀ x ∈ nw, ∃ e ∈ fd, e.1 = x ∧ e.2.length = d
  fup : ∀ e ∈ fd, e.2.length = d + 1 → e.1 ∈ fu
  fo : ∀ x ∈ fu, ∃ e ∈ fd, e.1 = x ∧ e.2.length = d + 1
  sz : d + nw.length + fu.length ≤ fd.length
  dn : ∀ k x, k < i → nw[k]? = some x → ∀ l y, [l, y] ∈ step x → y ∈ ks fd
section
variable {step : Stp} {s : Str} {U : List Str} {d i : Nat} {fd : List (Str × List Str)} {nw fu : List Str}
theorem Lev.zero (h : s ∈ U) : Lev step s U 0 [(s, [])] [s] := by
  have one : ∀ e : Str × List Str, e ∈ [(s, ([] : List Str))] → e = (s, []) := fun e he => List.mem_singleton.mp he
  refine ⟨List.nodup_cons.mpr ⟨List.not_mem_nil, List.nodup_nil⟩, fun e he => ?_, fun e he => ?_, fun e he => ?_, fun q y h hq => ?_, fun e he _ => ?_, fun x hx => ?_, Nat.le_refl _⟩
  · rw [one e he]; exact .nil
  · rw [one e he]; exact h
  · rw [one e he]; exact Nat.le_refl _
  · cases h with
    | nil => exact ⟨_, List.mem_singleton.mpr rfl, rfl, Nat.le_refl _⟩
    | snoc _ _ => rw [List.length_append] at hq; exact absurd hq (by simp)
  · rw [one e he]; exact List.mem_singleton.mpr rfl
  · rw [List.mem_singleton.mp hx]; exact ⟨_, List.mem_singleton.mpr rfl, rfl, rfl⟩
theorem Lev.len (L : Lev step s U d fd nw) : fd.length ≤ U.length := by
  have e : (ks fd).length = fd.length := List.length_map _
  rw [← e]
  exact nodup_sub L.nd fun x hx => by
    obtain ⟨g, hg, rfl⟩ := List.mem_map.mp hx
    exact L.u g hg
theorem Mid.len (L : Mid step s U d nw i fd fu) : fd.length ≤ U.length := by
  have e : (ks fd).length = fd.length := List.length_map _
  rw [← e]
  exact nodup_sub L.nd fun x hx => by
    obtain ⟨g, hg, rfl⟩ := List.mem_map.mp hx
    exact L.u g hg
theorem Lev.mid (L : Lev step s U d fd nw) : Mid step s U d nw 0 fd [] :=
  ⟨L.nd, L.wk, L.u, fun e he => Nat.le_succ_of_le (L.le e he), L.mn, L.nwp, L.old, fun e he h => absurd (L.le e he) (by omega), fun x hx => (nomatch hx), by have := L.sz; simpa using this, fun k x hk => absurd hk (Nat.not_lt_zero k)⟩
theorem Mid.next (M : Mid step s U d nw i fd fu) {x : Str} (hx : nw[i]? = some x) (h : ∀ l y, [l, y] ∈ step x → y ∈ ks fd) : Mid step s U d nw (i + 1) fd fu :=
  ⟨M.nd, M.wk, M.u, M.le, M.mn, M.nwp, M.old, M.fup, M.fo, M.sz, fun k z hk hz l y g => by
    rcases Nat.lt_succ_iff_lt_or_eq.mp hk with q | rfl
    · exact M.dn k z q hz l y g
    · rw [hx] at hz; cases hz; exact h l y g⟩
theorem Mid.add (M : Mid step s U d nw i fd fu) {x l y : Str} {p : List Str} (he : (x, p) ∈ fd) (hd : p.length = d) (g : [l, y] ∈ step x) (hy : y ∉ ks fd) (hu : y ∈ U) : Mid step s U d nw i (fd ++ [(y, p ++ [l])]) (fu ++ [y]) := by
  have up : ∀ z, z ∈ ks fd → z ∈ ks (fd ++ [(y, p ++ [l])]) := fun z hz => by
    unfold ks; rw [List.map_append]; exact List.mem_append_left _ hz
  have sp : ∀ {P : Str × List Str → Prop}, (∀ e ∈ fd, P e) → P (y, p ++ [l]) → ∀ e ∈ fd ++ [(y, p ++ [l])], P e := fun {P} h1 h2 e q => by
    rcases List.mem_append.mp q with q | q
    · exact h1 e q
    · rw [List.mem_singleton.mp q]; exact h2
  have ln : (p ++ [l]).length = d + 1 := by rw [List.length_append, hd]; rfl
  refine ⟨?_, sp M.wk ((M.wk _ he).snoc g), sp M.u hu, sp M.le (by rw [ln]; exact Nat.le_refl _), fun q z h hq => ?_, sp M.nwp (fun z => by rw [ln] at z; omega), fun z hz => ?_, sp (fun e q z => List.mem_append_left _ (M.fup e q z)) (fun _ => List.mem_append_right _ (List.mem_singleton.mpr rfl)), fun z hz => ?_, ?_, fun k z hk hz l' y' g' => up _ (M.dn k z hk hz l' y' g')⟩
  · unfold ks
    rw [List.map_append]
    exact List.nodup_append.mpr ⟨M.nd, List.nodup_cons.mpr ⟨List.not_mem_nil, List.nodup_nil⟩, fun a ha b hb => by
      rw [List.mem_singleton.mp hb]
      exact fun z => hy ((show a = y from z) ▸ ha)⟩
  · obtain ⟨e, h1, h2⟩ := M.mn q z h hq
    exact ⟨e, List.mem_append_left _ h1, h2⟩
  · obtain ⟨e, h1, h2⟩ := M.old z hz
    exact ⟨e, List.mem_append_left _ h1, h2⟩
  · rcases List.mem_append.mp hz with q | q
    · obtain ⟨e, h1, h2⟩ := M.fo z q
      exact ⟨e, List.mem_append_left _ h1, h2⟩
    · rw [List.mem_singleton.mp q]
      exact ⟨_, List.mem_append_right _ (List.mem_singleton.mpr rfl), rfl, ln⟩
  · have := M.sz
    rw [List.length_append, List.length_append]
    show d + nw.length + (fu.length + 1) ≤ fd.length + 1
    omega
theorem Mid.lev (M : Mid step s U d nw nw.length fd fu) (ne : nw ≠ []) : Lev step s U (d + 1) fd fu := by
  refine ⟨M.nd, M.wk, M.u, M.le, fun q y h hq => ?_, M.fup, M.fo, ?_⟩
  · by_cases hd : q.length ≤ d
    · exact M.mn q y h hd
    obtain ⟨p, x, l, rfl, hp, g⟩ := h.last (by omega)
    have ln : p.length = d := by rw [List.length_append] at hq hd; simp at hq hd; omega
    obtain ⟨e, he, rfl, hl⟩ := M.mn p x hp (by omega)
    have fin : y ∈ ks fd → ∃ e ∈ fd, e.1 = y ∧ e.2.length ≤ (p ++ [l]).length := fun hy => by
      obtain ⟨e2, h2, rfl⟩ := List.mem_map.mp hy
      exact ⟨e2, h2, rfl, by have := M.le e2 h2; rw [List.length_append, ln]; simpa using this⟩
    by_cases z : e.2.length = d
    · obtain ⟨k, hk⟩ := List.mem_iff_getElem?.mp (M.nwp e he z)
      have hk2 : k < nw.length := by
        rcases Nat.lt_or_ge k nw.length with q | q
        · exact q
        · rw [List.getElem?_eq_none q] at hk; cases hk
      exact fin (M.dn k _ hk2 hk _ _ g)
    · obtain ⟨e2, h2, rfl, _⟩ := M.mn (e.2 ++ [l]) y ((M.wk e he).snoc g) (by rw [List.length_append]; simp; omega)
      exact fin (ks_mem h2)
  · have := M.sz
    have : 1 ≤ nw.length := by cases nw with | nil => exact absurd rfl ne | cons _ _ => simp
    omega
theorem Lev.spd (L : Lev step s U d fd []) : Spd step s fd := by
  have lt : ∀ e ∈ fd, e.2.length < d := fun e he => Nat.lt_of_le_of_ne (L.le e he) fun z => nomatch L.nwp e he z
  refine ⟨L.nd, L.wk, ?_, fun x hx l y g => ?_, fun e he q h => ?_, fun e he => Nat.le_trans (L.le e he) (Nat.le_trans (Nat.le_add_right _ _) L.sz)⟩
  · obtain ⟨e, he, rfl, _⟩ := L.mn [] s .nil (Nat.zero_le _)
    exact ks_mem he
  · obtain ⟨e, he, rfl⟩ := List.mem_map.mp hx
    obtain ⟨e2, h2, rfl, _⟩ := L.mn _ y ((L.wk e he).snoc g) (by rw [List.length_append]; simp; have := lt e he; omega)
    exact ks_mem h2
  · by_cases hq : q.length ≤ d
    · obtain ⟨e2, h2, q2, l2⟩ := L.mn q e.1 h hq
      rw [ks_one L.nd h2 he q2] at l2
      exact l2
    · have := L.le e he; omega
theorem Lev.dlt (L : Lev step s U d fd nw) (ne : nw ≠ []) : d < U.length := by
  have h1 := L.sz
  have h2 := L.len
  have : 1 ≤ nw.length := by cases nw with | nil => exact absurd rfl ne | cons _ _ => simp
  omega
end
/-! ### by a queue -/
structure SpN (step : Stp) (start : Str) (fd : List (Str × Nat)) : Prop where
  nd : (ks fd).Nodup
  wk : ∀ e ∈ fd, ∃ q, Wk step start q e.1 ∧ q.length = e.2
  st : start ∈ ks fd
  cl : ∀ x ∈ ks fd, ∀ l y, [l, y] ∈ step x → y ∈ ks fd
  mn : ∀ e ∈ fd, ∀ q, Wk step start q e.1 → e.2 ≤ q.length
theorem SpN.all {step : Stp} {s x : Str} {fd : List (Str × Nat)} {q : List Str} (S : SpN step s fd) (h : Wk step s q x) : x ∈ ks fd := by
  induction h with
  | nil => exact S.st
  | snoc _ g ih => exact S.cl _ ih _ _ g
theorem SpN.iff {step : Stp} {s x : Str} {fd : List (Str × Nat)} (S : SpN step s fd) : x ∈ ks fd ↔ ∃ q, Wk step s q x :=
  ⟨fun h => by obtain ⟨e, he, rfl⟩ := List.mem_map.mp h; exact (S.wk e he).elim fun q z => ⟨q, z.1⟩, fun ⟨q, h⟩ => S.all h⟩
theorem Spd.num {step : Stp} {s x : Str} {p : List Str} {n : Nat} {fd : List (Str × List Str)} {fn : List (Str × Nat)} (S : Spd step s fd) (N : SpN step s fn) (h1 : (x, p) ∈ fd) (h2 : (x, n) ∈ fn) : p.length = n := by
  obtain ⟨q, hq, hl⟩ := N.wk _ h2
  have a := S.mn _ h1 q hq
  have b := N.mn _ h2 p (S.wk _ h1)
  have a : p.length ≤ q.length := a
  have b : n ≤ p.length := b
  have hl : q.length = n := hl
  omega
structure Qu (step : Stp) (s : Str) (U : List Str) (d k : Nat) (fd : List (Str × Nat)) : Prop where
  nd : (ks fd).Nodup
  wk : ∀ e ∈ fd, ∃ q, Wk step s q e.1 ∧ q.length = e.2
  u : ∀ e ∈ fd, e.1 ∈ U
  so : ∀ (i j : Nat) (e g : Str × Nat), i ≤ j → fd[i]? = some e → fd[j]? = some g → e.2 ≤ g.2
  cl : ∀ i e, i < k → fd[i]? = some e → ∀ l y, [l, y] ∈ step e.1 → y ∈ ks fd
  up : ∀ e ∈ fd, e.2 ≤ d + 1
  fr : ∀ i e, k ≤ i → fd[i]? = some e → d ≤ e.2
  st : s ∈ ks fd
  mn : ∀ q y, Wk step s q y → q.length ≤ d → ∃ e ∈ fd, e.1 = y ∧ e.2 ≤ q.length
section
variable {step : Stp} {s : Str} {U : List Str} {d k : Nat} {fd : List (Str × Nat)}
theorem Qu.zero (h : s ∈ U) : Qu step s U 0 0 [(s, 0)] := by
  have one : ∀ e : Str × Nat, e ∈ [(s, 0)] → e = (s, 0) := fun e he => List.mem_singleton.mp he
  refine ⟨List.nodup_cons.mpr ⟨List.not_mem_nil, List.nodup_nil⟩, fun e he => ?_, fun e he => ?_, fun i j e g _ h1 h2 => ?_, fun i e hi => absurd hi (Nat.not_lt_zero i), fun e he => ?_, fun i e _ _ => Nat.zero_le _, List.mem_singleton.mpr rfl, fun q y h hq => ?_⟩
  · rw [one e he]; exact ⟨[], .nil, rfl⟩
  · rw [one e he]; exact h
  · rw [one e (List.mem_of_getElem? h1), one g (List.mem_of_getElem? h2)]; exact Nat.le_refl _
  · rw [one e he]; exact Nat.zero_le _
  · cases h with
    | nil => exact ⟨_, List.mem_singleton.mpr rfl, rfl, Nat.le_refl _⟩
    | snoc _ _ => rw [List.length_append] at hq; exact absurd hq (by simp)
theorem Qu.len (L : Qu step s U d k fd) : fd.length ≤ U.length := by
  have e : (ks fd).length = fd.length := List.length_map _
  rw [← e]
  exact nodup_sub L.nd fun x hx => by
    obtain ⟨g, hg, rfl⟩ := List.mem_map.mp hx
    exact L.u g hg
/-- the front's number -/
theorem Qu.front (L : Qu step s U d k fd) {x : Str} {n : Nat} (hk : fd[k]? = some (x, n)) : Qu step s U n k fd := by
  have h1 : d ≤ n := L.fr k _ (Nat.le_refl _) hk
  have h2 : n ≤ d + 1 := L.up _ (List.mem_of_getElem? hk)
  rcases Nat.lt_or_ge d n with h3 | h3
  · obtain rfl : n = d + 1 := by omega
    refine ⟨L.nd, L.wk, L.u, L.so, L.cl, fun e he => Nat.le_succ_of_le (L.up e he), fun i e hi he => L.so k i _ e hi hk he, L.st, fun q y h hq => ?_⟩
    by_cases hd : q.length ≤ d
    · exact L.mn q y h hd
    obtain ⟨p, z, l, rfl, hp, g⟩ := h.last (by omega)
    have ln : p.length = d := by rw [List.length_append] at hq hd; simp at hq hd; omega
    obtain ⟨e, he, rfl, hl⟩ := L.mn p z hp (by omega)
    obtain ⟨i, hi⟩ := List.mem_iff_getElem?.mp he
    have lt : i < k := by
      rcases Nat.lt_or_ge i k with q | q
      · exact q
      · have h4 : d + 1 ≤ e.2 := L.so k i _ e q hk hi
        omega
    obtain ⟨e2, h5, rfl⟩ := List.mem_map.mp (L.cl i e lt hi l y g)
    exact ⟨e2, h5, rfl, by have := L.up e2 h5; rw [List.length_append, ln]; simpa using this⟩
  · obtain rfl : n = d := by omega
    exact L
theorem Qu.add (L : Qu step s U d k fd) {x l y : Str} (hk : fd[k]? = some (x, d)) (g : [l, y] ∈ step x) (hy : y ∉ ks fd) (hu : y ∈ U) : Qu step s U d k (fd ++ [(y, d + 1)]) := by
  have up : ∀ z, z ∈ ks fd → z ∈ ks (fd ++ [(y, d + 1)]) := fun z hz => by
    unfold ks; rw [List.map_append]; exact List.mem_append_left _ hz
  have sp : ∀ {P : Str × Nat → Prop}, (∀ e ∈ fd, P e) → P (y, d + 1) → ∀ e ∈ fd ++ [(y, d + 1)], P e := fun {P} h1 h2 e q => by
    rcases List.mem_append.mp q with q | q
    · exact h1 e q
    · rw [List.mem_singleton.mp q]; exact h2
  have at_ : ∀ i e, (fd ++ [(y, d + 1)])[i]? = some e → fd[i]? = some e ∨ (i = fd.length ∧ e = (y, d + 1)) := fun i e h => by
    rcases Nat.lt_or_ge i fd.length with q | q
    · rw [List.getElem?_append_left q] at h; exact .inl h
    · rw [List.getElem?_append_right q] at h
      have q2 : i - fd.length = 0 := by
        rcases Nat.eq_zero_or_pos (i - fd.length) with z | z
        · exact z
        · rw [List.getElem?_eq_none (show 1 ≤ i - fd.length from z)] at h; cases h
      rw [q2] at h
      exact .inr ⟨by omega, (Option.some.inj h).symm⟩
  have kl : k < fd.length := by
    rcases Nat.lt_or_ge k fd.length with q | q
    · exact q
    · rw [List.getElem?_eq_none q] at hk; cases hk
  obtain ⟨q0, w0, l0⟩ := L.wk _ (List.mem_of_getElem? hk)
  refine ⟨?_, sp L.wk ⟨q0 ++ [l], w0.snoc g, by rw [List.length_append, l0]; rfl⟩, sp L.u hu, fun i j e e2 hij h1 h2 => ?_, fun i e hi he l' y' g' => ?_, sp L.up (Nat.le_refl _), fun i e hi he => ?_, up _ L.st, fun q z h hq => ?_⟩
  · unfold ks
    rw [List.map_append]
    exact List.nodup_append.mpr ⟨L.nd, List.nodup_cons.mpr ⟨List.not_mem_nil, List.nodup_nil⟩, fun a ha b hb => by
      rw [List.mem_singleton.mp hb]
      exact fun z => hy ((show a = y from z) ▸ ha)⟩
  · rcases at_ i e h1 with h1 | ⟨rfl, rfl⟩
    · rcases at_ j e2 h2 with h2 | ⟨rfl, rfl⟩
      · exact L.so i j e e2 hij h1 h2
      · exact L.up e (List.mem_of_getElem? h1)
    · rcases at_ j e2 h2 with h2 | ⟨_, rfl⟩
      · rw [List.getElem?_eq_none hij] at h2; cases h2
      · exact Nat.le_refl _
  · rcases at_ i e he with h1 | ⟨rfl, _⟩
    · exact up _ (L.cl i e hi h1 l' y' g')
    · omega
  · rcases at_ i e he with h1 | ⟨_, rfl⟩
    · exact L.fr i e hi h1
    · exact Nat.le_succ d
  · obtain ⟨e, h1, h2⟩ := L.mn q z h hq
    exact ⟨e, List.mem_append_left _ h1, h2⟩
theorem Qu.next (L : Qu step s U d k fd) {x : Str} (hk : fd[k]? = some (x, d)) (h : ∀ l y, [l, y] ∈ step x → y ∈ ks fd) : Qu step s U d (k + 1) fd :=
  ⟨L.nd, L.wk, L.u, L.so, fun i e hi he l y g => by
    rcases Nat.lt_succ_iff_lt_or_eq.mp hi with q | rfl
    · exact L.cl i e q he l y g
    · rw [hk] at he; cases he; exact h l y g, L.up, fun i e hi he => L.fr i e (by omega) he, L.st, L.mn⟩
theorem Qu.spn (L : Qu step s U d fd.length fd) : SpN step s fd := by
  refine ⟨L.nd, L.wk, L.st, fun x hx l y g => ?_, fun e he q h => ?_⟩
  · obtain ⟨e, he, rfl⟩ := List.mem_map.mp hx
    obtain ⟨i, hi⟩ := List.mem_iff_getElem?.mp he
    have lt : i < fd.length := by
      rcases Nat.lt_or_ge i fd.length with q | q
      · exact q
      · rw [List.getElem?_eq_none q] at hi; cases hi
    exact L.cl i e lt hi l y g
  · by_cases hq : q.length ≤ d
    · obtain ⟨e2, h2, q2, l2⟩ := L.mn q e.1 h hq
      rw [ks_one L.nd h2 he q2] at l2
      exact l2
    · have := L.up e he; omega
end
end Td
set_option maxHeartbeats 4000000
namespace Td
open PySem PySem.Spec PyProof.Rows L2 PySem.W PySem.Calls
/-- a value's truth, as a test -/
def tTru (K : PySem.W.Frag) (ta : TE) : TT := fun σ H Q => ta σ H fun x H' => ∃ k, TruV K x H' k ∧ Q k H'
theorem pt_tru {X : Cx} {a : Expr} {ta : TE} (ha : PE X a ta) (he : ∀ whole, isTrue a X.env whole = (do let v ← whole; standAt a.pos; holding [v] (truthy v)) := by intro _; rfl) : PT X a (tTru X.K ta) := pt_truth ha he
end Td
set_option maxHeartbeats 4000000
namespace Td
open PySem PySem.Spec PyProof.Rows L2 LamX NdefX
/-! ### a dict from texts to tuples of texts, a dict from texts to numbers -/
structure DiP (H : Hp) (D : Addr) (m : List (Str × Addr)) (fd : List (Str × List Str)) : Prop where
  at_ : H D = some (.dK (kvOf m))
  kk : m.map (·.1) = ks fd
  pa : ∀ (i : Nat) (e : Str × Addr) (p : Str × List Str), m[i]? = some e → fd[i]? = some p → H e.2 = some (.tup (p.2.map V.str))
section
variable {H H' : Hp} {D : Addr} {m : List (Str × Addr)} {fd : List (Str × List Str)}
theorem DiP.len (d : DiP H D m fd) : m.length = fd.length := by
  have := congrArg List.length d.kk
  rw [List.length_map, List.length_map] at this
  exact this
theorem DiP.same (x : Same H H') (d : DiP H D m fd) : DiP H' D m fd := ⟨x _ _ d.at_, d.kk, fun i e p h1 h2 => x _ _ (d.pa i e p h1 h2)⟩
/-- a path -/
theorem DiP.get (d : DiP H D m fd) (nd : (ks fd).Nodup) {x : Str} {p : List Str} (h : (x, p) ∈ fd) : ∃ a, valV (kvOf m) (Sum.inr x) = some (.ref a) ∧ H a = some (.tup (p.map V.str)) := by
  obtain ⟨i, hi⟩ := List.mem_iff_getElem?.mp h
  have hl : i < m.length := by
    rw [d.len]
    exact (List.getElem?_eq_some_iff.mp hi).1
  have e1 : m[i]? = some m[i] := List.getElem?_eq_getElem hl
  have ex : m[i].1 = x := by
    have := congrArg (fun l => l[i]?) d.kk
    unfold ks at this
    simp only [List.getElem?_map, e1, hi, Option.map_some] at this
    exact Option.some.inj this
  refine ⟨m[i].2, kvOf_get (by rw [d.kk]; exact nd) (by rw [← ex]; exact List.getElem_mem hl), d.pa i _ _ e1 hi⟩
theorem DiP.no (d : DiP H D m fd) {x : Str} (h : x ∉ ks fd) : valV (kvOf m) (Sum.inr x) = none := val_none (by
  rw [kvOf_keys, d.kk]
  exact fun z => by
    obtain ⟨y, hy, e⟩ := List.mem_map.mp z
    exact h (Sum.inr.inj e ▸ hy))
theorem DiP.is (d : DiP H D m fd) (nd : (ks fd).Nodup) (x : Str) : (valV (kvOf m) (Sum.inr x)).isSome = decide (x ∈ ks fd) := by
  by_cases h : x ∈ ks fd
  · rw [decide_eq_true h]
    obtain ⟨e, he, rfl⟩ := List.mem_map.mp h
    obtain ⟨a, h1, _⟩ := d.get nd (x := e.1) (p := e.2) he
    rw [h1]
    rfl
  · rw [decide_eq_false h, d.no h]
    rfl
theorem DiP.put (d : DiP H D m fd) {x : Str} {p : List Str} {a : Addr} (h : x ∉ ks fd) (ha : H a = some (.tup (p.map V.str))) : DiP (upd H D (.dK (putK (kvOf m) (Sum.inr x) (.ref a)))) D (m ++ [(x, a)]) (fd ++ [(x, p)]) := by
  have nd : ∀ {b : Addr} {xs : List V}, H b = some (.tup xs) → upd H D (.dK (putK (kvOf m) (Sum.inr x) (.ref a))) b = some (.tup xs) := fun {b xs} z => by
    rw [upd_ne (fun e => by rw [e, d.at_] at z; cases z)]
    exact z
  refine ⟨by rw [upd_same, kvOf_put (d.no h)], by unfold ks; rw [List.map_append, List.map_append, d.kk]; rfl, fun i e q h1 h2 => ?_⟩
  by_cases hi : i < m.length
  · rw [List.getElem?_append_left hi] at h1
    rw [List.getElem?_append_left (by rw [← d.len]; exact hi)] at h2
    exact nd (d.pa i e q h1 h2)
  · have l1 := (List.getElem?_eq_some_iff.mp h1).1
    rw [List.length_append] at l1
    obtain rfl : i = m.length := by simp at l1; omega
    rw [List.getElem?_append_right (Nat.le_refl _), Nat.sub_self] at h1
    rw [d.len, List.getElem?_append_right (Nat.le_refl _), Nat.sub_self] at h2
    cases h1
    cases h2
    exact nd ha
end
def kvN (fd : List (Str × Nat)) : List (Key × V) := fd.map fun e => (Sum.inr e.1, V.int (e.2 : Int))
theorem kvN_keys (fd : List (Str × Nat)) : (kvN fd).map (·.1) = (ks fd).map Sum.inr := by
  unfold kvN ks
  rw [List.map_map, List.map_map]
  rfl
theorem kvN_no {fd : List (Str × Nat)} {x : Str} (h : x ∉ ks fd) : valV (kvN fd) (Sum.inr x) = none := val_none (by
  rw [kvN_keys]
  exact fun z => by
    obtain ⟨y, hy, e⟩ := List.mem_map.mp z
    exact h (Sum.inr.inj e ▸ hy))
theorem kvN_get : ∀ {fd : List (Str × Nat)} {x : Str} {n : Nat}, (ks fd).Nodup → (x, n) ∈ fd → valV (kvN fd) (Sum.inr x) = some (.int n)
  | [], _, _, _, h => nomatch h
  | p :: r, x, n, nd, h => by
    have nd' := List.nodup_cons.mp (show (p.1 :: ks r).Nodup from nd)
    by_cases e : p.1 = x
    · have z : valV (kvN (p :: r)) (Sum.inr x) = some (.int (p.2 : Int)) := valV_pos (p := (Sum.inr p.1, V.int (p.2 : Int))) (r := kvN r) (by rw [e])
      rw [z]
      rcases List.mem_cons.mp h with q | q
      · rw [← q]
      · exact absurd (by rw [e]; exact ks_mem q) nd'.1
    · have z : valV (kvN (p :: r)) (Sum.inr x) = valV (kvN r) (Sum.inr x) := valV_neg (p := (Sum.inr p.1, V.int (p.2 : Int))) (r := kvN r) (fun q => e (Sum.inr.inj q))
      rw [z]
      rcases List.mem_cons.mp h with q | q
      · exact absurd (by rw [← q]) e
      · exact kvN_get nd'.2 q
theorem kvN_is {fd : List (Str × Nat)} (nd : (ks fd).Nodup) (x : Str) : (valV (kvN fd) (Sum.inr x)).isSome = decide (x ∈ ks fd) := by
  by_cases h : x ∈ ks fd
  · rw [decide_eq_true h]
    obtain ⟨e, he, rfl⟩ := List.mem_map.mp h
    rw [kvN_get (x := e.1) (n := e.2) nd he]
    rfl
  · rw [decide_eq_false h, kvN_no h]
    rfl
theorem kvN_put {fd : List (Str × Nat)} {x : Str} {n : Nat} (h : x ∉ ks fd) : putK (kvN fd) (Sum.inr x) (.int (n : Int)) = kvN (fd ++ [(x, n)]) := by
  rw [putK_new _ (kvN_no h)]
  unfold kvN
  rw [List.map_append]
  rfl
/-! ### the spread -/
/-- its promise, tl being what its second argument does -/
def spSpread (tl : V → Hp → VK → Prop) (v : V) (H : Hp) (Q : VK) : Prop := ∃ (start : Str) (U : List Str) (step : Stp), v = .str start ∧ start ∈ U ∧ U.length ≤ 60 ∧ (∀ x ∈ U, ∀ r ∈ step x, ∃ l y, r = [l, y] ∧ y ∈ U) ∧
  (∀ x ∈ U, ∀ H1, Same H H1 → ∀ Q1 : VK, (∀ L (as : List Addr) H2, Same H1 H2 → H1 L = none → H2 L = some (.lst (as.map V.ref)) → RowsAt H2 as (step x) → Q1 (.ref L) H2) → tl (.str x) H1 Q1) ∧
  ∀ D m fd H', Same H H' → H D = none → DiP H' D m fd → Spd step start fd → (∀ x ∈ ks fd, x ∈ U) → Q (.ref D) H'
/-! ### heaps between whose tables lambdas are kept -/
structure Nx (T : List (Addr × Str)) (H H' : Hp) : Prop where
  e : ExtN H H'
  t : Tabs T H'
theorem Nx.refl {T : List (Addr × Str)} {H : Hp} (t : Tabs T H) : Nx T H H := ⟨ExtN.refl H, t⟩
theorem Nx.trans {T : List (Addr × Str)} {H H1 H2 : Hp} (x : Nx T H H1) (y : Nx T H1 H2) : Nx T H H2 := ⟨x.e.trans y.e, y.t⟩
theorem Nx.same {T : List (Addr × Str)} {H H1 H2 : Hp} (x : Nx T H H1) (s : Same H1 H2) : Nx T H H2 := ⟨x.e.trans (ExtN.of fun b o h => s b o h), x.t.ext fun b o h => s b o h⟩
theorem Nx.tu {T : List (Addr × Str)} {H H' : Hp} (x : Nx T H H') : Tu H H' := fun a xs h => x.e a _ h fun ps z => by cases z
theorem Nx.lst {T : List (Addr × Str)} {H H' : Hp} (x : Nx T H H') {a : Addr} {xs : List V} (h : H a = some (.lst xs)) : H' a = some (.lst xs) := x.e a _ h fun ps z => by cases z
theorem Nx.dk {T : List (Addr × Str)} {H H' : Hp} (x : Nx T H H') {a : Addr} {kvs : List (Key × V)} (h : H a = some (.dK kvs)) : H' a = some (.dK kvs) := x.e a _ h fun ps z => by cases z
theorem Tabs.same {T : List (Addr × Str)} {H H' : Hp} (t : Tabs T H) (s : Same H H') : Tabs T H' := t.ext fun b o h => s b o h
theorem Tabs.ch {T : List (Addr × Str)} {b : Addr} {H H' : Hp} (t : Tabs T H) (B : Box H b) (c : Ch b H H') : Tabs T H' := fun p hp => by
  obtain ⟨ps, h1, h2, h3⟩ := t p hp
  obtain ⟨x, y, z, hb, _⟩ := B
  have ne : ∀ {a : Addr} {o : HO}, H a = some o → (∀ xs, o ≠ .lst xs) → a ≠ b := fun e n q => by
    rw [q, hb] at e
    exact n _ (Option.some.inj e).symm
  refine ⟨ps, c _ _ (ne h1 fun xs z => by cases z) h1, h2, fun pos cv hc => ?_⟩
  obtain ⟨c1, e1, e2⟩ := h3 pos cv hc
  exact ⟨c1, e1, c _ _ (ne e2 fun xs z => by unfold CodeO at z; cases z) e2⟩
end Td
set_option maxHeartbeats 4000000
namespace Td
open PySem PySem.Spec PyProof.Rows L2 LamX NdefX
def spLawT (K : PySem.W.Frag) (T : List (Addr × Str)) : Sp := fun vs H Q _ => ∃ (a : Addr) (ns : List Int), vs = [.ref a] ∧ SqL K H a (ns.map V.int) ∧ ns.length ≤ 63 ∧ Tabs T H ∧ ∀ H', Q (.bl true) H'
/-- nothing but a table stands there -/
def Fr (H : Hp) (p : Addr) : Prop := ∀ o, H p = some o → ∃ ps, o = .tbl ps
theorem Fr.of {H : Hp} {p : Addr} (h : H p = none) : Fr H p := fun o e => by rw [h] at e; cases e
theorem Nx.fr {T : List (Addr × Str)} {H H' : Hp} {p : Addr} (n : Nx T H H') (h : H' p = none) : Fr H p := fun o e => Classical.byContradiction fun z => by
  rw [n.e p o e fun ps q => z ⟨ps, q⟩] at h
  cases h
theorem Nx.ch {T : List (Addr × Str)} {H0 H1 H2 : Hp} {b : Addr} (n : Nx T H0 H1) (c : Ch b H1 H2) (B : Box H1 b) (f : Fr H0 b) : Nx T H0 H2 :=
  ⟨fun x o e nt => c x o (fun z => by subst z; obtain ⟨ps, q⟩ := f o e; exact nt ps q) (n.e x o e nt), Tabs.ch n.t B c⟩
theorem Tabs.mut {T : List (Addr × Str)} {H : Hp} {p : Addr} {us : List V} (t : Tabs T H) (hp : H p = some (.lst us)) (us' : List V) : Tabs T (upd H p (.lst us')) := fun q hq => by
  obtain ⟨ps, h1, h2, h3⟩ := t q hq
  have ne : ∀ {a : Addr} {o : HO}, H a = some o → (∀ xs, o ≠ .lst xs) → a ≠ p := fun e n z => by
    rw [z, hp] at e
    exact n _ (Option.some.inj e).symm
  refine ⟨ps, by rw [upd_ne (ne h1 fun xs z => by cases z)]; exact h1, h2, fun pos cv hc => ?_⟩
  obtain ⟨c1, e1, e2⟩ := h3 pos cv hc
  exact ⟨c1, e1, by rw [upd_ne (ne e2 fun xs z => by unfold CodeO at z; cases z)]; exact e2⟩
theorem Nx.mut {T : List (Addr × Str)} {H0 H : Hp} {p : Addr} {us : List V} (n : Nx T H0 H) (hp : H p = some (.lst us)) (f : Fr H0 p) (us' : List V) : Nx T H0 (upd H p (.lst us')) :=
  ⟨fun x o e nt => by rw [upd_ne (fun z => by subst z; obtain ⟨ps, q⟩ := f o e; exact nt ps q)]; exact n.e x o e nt, Tabs.mut n.t hp us'⟩
theorem Nx.mutD {T : List (Addr × Str)} {H0 H : Hp} {p : Addr} {kvs : List (Key × V)} (n : Nx T H0 H) (hp : H p = some (.dK kvs)) (f : Fr H0 p) (o : HO) : Nx T H0 (upd H p o) :=
  ⟨fun x u e nt => by rw [upd_ne (fun z => by subst z; obtain ⟨ps, q⟩ := f u e; exact nt ps q)]; exact n.e x u e nt, fun q hq => by
    obtain ⟨ps, h1, h2, h3⟩ := n.t q hq
    have ne : ∀ {a : Addr} {u : HO}, H a = some u → (∀ xs, u ≠ .dK xs) → a ≠ p := fun e n z => by
      rw [z, hp] at e
      exact n _ (Option.some.inj e).symm
    refine ⟨ps, by rw [upd_ne (ne h1 fun xs z => by cases z)]; exact h1, h2, fun pos cv hc => ?_⟩
    obtain ⟨c1, e1, e2⟩ := h3 pos cv hc
    exact ⟨c1, e1, by rw [upd_ne (ne e2 fun xs z => by unfold CodeO at z; cases z)]; exact e2⟩⟩
theorem DiP.nx {T : List (Addr × Str)} {H H' : Hp} {D : Addr} {m : List (Str × Addr)} {fd : List (Str × List Str)} (x : Nx T H H') (d : DiP H D m fd) : DiP H' D m fd := ⟨x.dk d.at_, d.kk, fun i e p h1 h2 => x.tu _ _ (d.pa i e p h1 h2)⟩
theorem SqL.nx {K : PySem.W.Frag} {T : List (Addr × Str)} {H H' : Hp} {a : Addr} {xs : List V} (n : Nx T H H') (h : SqL K H a xs) : SqL K H' a xs := by
  rcases h with (h | ⟨o, h⟩) | h
  · exact .inl (.inl (n.lst h))
  · exact .inl (.inr ⟨o, n.e _ _ h fun ps z => by cases z⟩)
  · exact .inr h
theorem catF {H : Hp} {a c : Addr} {us ws : List Str} {Q : VK} (ha : H a = some (.lst (us.map V.str))) (hc : H c = some (.lst (ws.map V.str))) (hz : us.length + ws.length ≤ 1000) (q : ∀ p H', H p = none → H' p = some (.lst ((us ++ ws).map V.str)) → Same H H' → Q (.ref p) H') : rCat (.ref a) (.ref c) H Q := by
  refine ⟨a, c, _, _, rfl, rfl, ha, hc, ?_, fun p hp => q p _ hp (by rw [map_two]; exact upd_same) (same_new hp _)⟩
  rw [List.length_map, List.length_map]
  exact Nat.le_trans hz (by decide)
theorem hall_rooms {K : PySem.W.Frag} {σ : L2.St} {H : Hp} {Q : VK} {i : Nat} {hp : Addr} {rooms : List Str} {rows : List (List Str)} (hσ : σ[i]? = some (some (.ref hp))) (X : HS H hp rooms rows) (q : ∀ l H', H l = none → Same H H' → H' l = some (.lst (rooms.map V.str)) → Q (.ref l) H') :
    tCB (rLsOf K) (tCons (tOp (rIxT K) (tVar i) (tC (V.int 0))) tNil) σ H Q := by
  obtain ⟨ra, da, h1, h2, _⟩ := X
  exact ⟨_, hσ, hp, _, _, _, rfl, rfl, SqT.of h1, atI_nat (j := 0) rfl, ra, _, rfl, .inr (SqT.of h2), fun l hl => q l _ hl (same_new hl _) upd_same⟩
theorem nm_zz : Nm "zzzzzz" := by unfold Nm; decide +kernel
theorem nm_erase {l : List Str} (h : ∀ x ∈ l, Nm x) (k : Nat) : ∀ x ∈ l.eraseIdx k, Nm x := fun x hx => h x (List.mem_of_mem_eraseIdx hx)
theorem map_erase : ∀ (l : List Str) (k : Nat), (l.map V.str).eraseIdx k = (l.eraseIdx k).map V.str
  | [], _ => rfl
  | _ :: _, 0 => rfl
  | x :: l, k + 1 => congrArg (V.str x :: ·) (map_erase l k)
theorem nm_app {a b : List Str} (ha : ∀ x ∈ a, Nm x) (hb : ∀ x ∈ b, Nm x) : ∀ x ∈ a ++ b, Nm x := fun x hx => (List.mem_append.mp hx).elim (ha x) (hb x)
/-! ### comprehensions with two fors -/
def In2 (J1 : It) (g1 : TG) (tt1 : TT) (te : TE) (vs1 : List Nat) (σ2 : L2.St) (D : Addr) (N : Hp → Prop) (H4 : Hp) : Prop := ∃ W1 : Nat → Nat → Hp → Prop, (∃ m, W1 0 m H4) ∧ ∀ j k H, W1 j k H →
  (J1.stop j H ∧ N H) ∨ (J1.go j H ∧ ∃ Nx1 : Hp → Prop, (∀ H', Nx1 H' → ∃ k', k' < k ∧ W1 (j + 1) k' H') ∧ ∀ x H', J1.yld j H x H' → g1 x (wipe σ2 vs1) H' fun σ3 H5 => wipe σ3 vs1 = wipe σ2 vs1 ∧ tt1 σ3 H5 fun b H6 =>
    if b = true then te σ3 H6 fun y H7 => ∃ acc, H7 D = some (.lst acc) ∧ acc.length < sizeLine ∧ Nx1 (L2.upd H7 D (.lst (acc ++ [y]))) else Nx1 H6)
theorem in2_gen {J1 : It} {n : Nat} {g1 : TG} {tt1 : TT} {te : TE} {vs1 : List Nat} {σ2 : L2.St} {D : Addr} {N : Hp → Prop} {H4 : Hp} (Pv : Nat → Hp → Prop) (h0 : Pv 0 H4)
    (hs : ∀ j H, j < n → Pv j H → J1.go j H ∧ ∀ x H', J1.yld j H x H' → g1 x (wipe σ2 vs1) H' fun σ3 H5 => wipe σ3 vs1 = wipe σ2 vs1 ∧ tt1 σ3 H5 fun b H6 => if b = true then te σ3 H6 fun y H7 => ∃ acc, H7 D = some (.lst acc) ∧ acc.length < sizeLine ∧ Pv (j + 1) (L2.upd H7 D (.lst (acc ++ [y]))) else Pv (j + 1) H6)
    (hd : ∀ H, Pv n H → J1.stop n H ∧ N H) : In2 J1 g1 tt1 te vs1 σ2 D N H4 := by
  refine ⟨fun j k H => k = n - j ∧ j ≤ n ∧ Pv j H, ⟨n, by simp, Nat.zero_le _, h0⟩, ?_⟩
  rintro j k H ⟨rfl, hj, p⟩
  by_cases hlt : j < n
  · obtain ⟨g1, g2⟩ := hs j H hlt p
    exact .inr ⟨g1, Pv (j + 1), fun H' p' => ⟨n - (j + 1), by omega, rfl, hlt, p'⟩, g2⟩
  · obtain rfl : j = n := by omega
    exact .inl (hd H p)
theorem lc2_gen {J : It} {n : Nat} {g g1 : TG} {tt tt1 : TT} {wi1 : TI} {te : TE} {vs vs1 : List Nat} {σ : L2.St} {H1 : Hp} {D : Addr} {Qd : Hp → Prop} (Pv : Nat → Hp → Prop) (h0 : Pv 0 (L2.upd H1 D (.lst [])))
    (hs : ∀ i H, i < n → Pv i H → J.go i H ∧ ∀ x H', J.yld i H x H' → g x (wipe σ vs) H' fun σ2 H2 => wipe σ2 vs = wipe σ vs ∧ tt σ2 H2 fun b H3 => if b = true then wi1 σ2 H3 fun J1 H4 => In2 J1 g1 tt1 te vs1 σ2 D (Pv (i + 1)) H4 else Pv (i + 1) H3) (hd : ∀ H, Pv n H → J.stop n H ∧ Qd H) :
    ∃ W : Nat → Nat → Hp → Prop, (∃ m, W 0 m (L2.upd H1 D (.lst []))) ∧ ∀ i m H, W i m H →
      (J.stop i H ∧ Qd H) ∨ (J.go i H ∧ ∃ Nx : Hp → Prop, (∀ H', Nx H' → ∃ m', m' < m ∧ W (i + 1) m' H') ∧ ∀ x H', J.yld i H x H' → g x (wipe σ vs) H' fun σ2 H2 => wipe σ2 vs = wipe σ vs ∧ tt σ2 H2 fun b H3 =>
        if b = true then wi1 σ2 H3 fun J1 H4 => In2 J1 g1 tt1 te vs1 σ2 D Nx H4 else Nx H3) := by
  refine ⟨fun i m H => m = n - i ∧ i ≤ n ∧ Pv i H, ⟨n, by simp, Nat.zero_le _, h0⟩, ?_⟩
  rintro i m H ⟨rfl, hi, p⟩
  by_cases hlt : i < n
  · obtain ⟨g1, g2⟩ := hs i H hlt p
    exact .inr ⟨g1, Pv (i + 1), fun H' p' => ⟨n - (i + 1), by omega, rfl, hlt, p'⟩, g2⟩
  · obtain rfl : i = n := by omega
    exact .inl (hd H p)
/-- a tuple's walk -/
theorem itt_go {K : PySem.W.Frag} {a : Addr} {xs : List V} {i : Nat} {H : Hp} {A : V → Hp → Prop} (hx : SqT K H a xs) (hi : i < xs.length) (h : ∀ x, xs[i]? = some x → A x H) : (Itt K a).go i H ∧ ∀ x H', (Itt K a).yld i H x H' → A x H' :=
  ⟨⟨xs, xs[i], hx, List.getElem?_eq_getElem hi⟩, fun x H' y => by
    obtain ⟨rfl, y⟩ := y
    exact h x (y xs hx)⟩
end Td
set_option maxHeartbeats 4000000
namespace Td
open PySem PySem.Spec PyProof.Rows L2 LamX NdefX
/-! ### the ways of a hall -/
/-- the door's name, the room that it faces, its other end -/
def wyR (p : List Str × Str) : List Str := [hd0 p.1, p.2, oth (p.1.getD 1 "") (p.1.getD 2 "") p.2]
def ways (rows : List (List Str)) (faces : List Str) : List (List Str) := (rows.zip faces).map wyR
def outs (rows : List (List Str)) (faces : List Str) (x : Str) : List (List Str) := ((ways rows faces).filter fun r => decide (r.getD 1 "" = x)).map fun r => [r.headD "", r.getD 2 ""]
/-- a hall, the faces of a state -/
structure HF (H : Hp) (h fa : Addr) (rooms : List Str) (rows : List (List Str)) (faces : List Str) : Prop where
  h : HS H h rooms rows
  f : TZ H fa (faces.map V.str)
  fl : faces.length = rows.length
  d12 : rows.length ≤ 12
  row : ∀ r ∈ rows, ∃ n a b : Str, r = [n, a, b]
theorem TZ.nx {T : List (Addr × Str)} {H H' : Hp} {a : Addr} {xs : List V} (n : Nx T H H') (h : TZ H a xs) : TZ H' a xs := by
  obtain ⟨o, ho, e⟩ := h
  exact ⟨o, ho, n.e a _ e fun ps z => by cases z⟩
theorem HF.nx {T : List (Addr × Str)} {H H' : Hp} {h fa : Addr} {rooms : List Str} {rows : List (List Str)} {faces : List Str} (n : Nx T H H') (y : HF H h fa rooms rows faces) : HF H' h fa rooms rows faces := ⟨y.h.tu n.tu, y.f.nx n, y.fl, y.d12, y.row⟩
theorem HF.same {H H' : Hp} {h fa : Addr} {rooms : List Str} {rows : List (List Str)} {faces : List Str} (n : Same H H') (y : HF H h fa rooms rows faces) : HF H' h fa rooms rows faces := ⟨y.h.tu (Tu.same n), y.f.same n, y.fl, y.d12, y.row⟩
def spWays : Sp := fun vs H Q _ => ∃ (h fa : Addr) (rooms : List Str) (rows : List (List Str)) (faces : List Str), vs = [.ref h, .ref fa] ∧ HF H h fa rooms rows faces ∧
  ∀ p (as : List Addr) H', Same H H' → H p = none → H' p = some (.lst (as.map V.ref)) → RowsAt H' as (ways rows faces) → Q (.ref p) H'
def spOuts : Sp := fun vs H Q _ => ∃ (h fa : Addr) (x : Str) (rooms : List Str) (rows : List (List Str)) (faces : List Str), vs = [.ref h, .ref fa, .str x] ∧ HF H h fa rooms rows faces ∧
  ∀ p (as : List Addr) H', Same H H' → H p = none → H' p = some (.lst (as.map V.ref)) → RowsAt H' as (outs rows faces x) → Q (.ref p) H'
/-- the while's state -/
structure SpI (H : Hp) (D : Addr) (start : Str) (f1 : Addr) (U : List Str) (step : Stp) (m : Nat) (σ : L2.St) (Hx : Hp) : Prop where
  ex : ∃ (L : Addr) (nw : List Str) (d : Nat) (mm : List (Str × Addr)) (fd : List (Str × List Str)) (v4 v5 v6 v7 : Option V), σ = [some (.str start), some (.ref f1), some (.ref D), some (.ref L), v4, v5, v6, v7] ∧ Same H Hx ∧ Hx L = some (.lst (nw.map V.str)) ∧ DiP Hx D mm fd ∧ Lev step start U d fd nw ∧
    m = 2 * (U.length - fd.length) + (if nw = [] then 0 else 1)
section
variable {P : Program} {w : World} {K : PySem.W.Frag} {mg : Str → Option Value} {base : Heap} {f : Addr} {fd : FuncData}
abbrev s_ways_of : Stmt := top 16
abbrev n_ways_of : List Str := ["hall", "faces", "face", "door", "one", "other"]
theorem sc_ways_of : FnScope n_ways_of ["hall", "faces"] (defScope s_ways_of) := ⟨rfl, rfl, rfl, by decide +kernel, rfl, by decide +kernel, by decide +kernel⟩
theorem ok_ways_of (F : FnP K "ways_of" s_ways_of f fd) (hm : mg "ways_of" = some (.ref f)) (m_zip : mg "zip" = none) :
    Cal P w K mg base 1 "ways_of" spWays := by
  refine cal_of (F.ok sc_ways_of (fun vs H Q E h => ?_) (fun cdv A outer s H vs Q E hr h => ?_)) hm F.kp (F.bindsN (ps := ["hall", "faces"]) fun _ _ _ _ _ _ us hl => match us, hl with | [_, _], _ => rfl)
  · obtain ⟨h, fa, rooms, rows, faces, rfl, hF, q⟩ := h
    rfl
  obtain ⟨h, fa, rooms, rows, faces, rfl, hF, q⟩ := h
  have nd := sc_ways_of.nd
  refine ⟨_, PSs.nox (pss_one (ps_ret (pe_lc (own := [("door", 3), ("one", 4), ("other", 5), ("face", 2)]) (g := (gTup K 2 (gCons (gTup K 3 (gCons (gName 3) (gCons (gName 4) (gCons (gName 5) gNil)))) (gCons (gName 2) gNil)))) (by rfl) nd (RZ.pi_zipA (by rfl) m_zip (pa_cons (pe_ix (r := rIxT K) ix_tup (pv 0) pe_int (fun _ _ => rfl)) (pa_cons (pv 1) pa_nil))) (blkOk_by (own := [("door", 3), ("one", 4), ("other", 5), ("face", 2)]) (N := n_ways_of) (sc := defScope s_ways_of) (by decide +kernel)) (fun _ _ _ _ _ => (pg_tup (by rfl) (pgs_cons (pg_tup (by rfl) (pgs_cons (pg_name (i := 3) nd rfl (Or.inl rfl)) (pgs_cons (pg_name (i := 4) nd rfl (Or.inl rfl)) (pgs_cons (pg_name (i := 5) nd rfl (Or.inl rfl)) pgs_nil)))) (pgs_cons (pg_name (i := 2) nd rfl (Or.inl rfl)) pgs_nil)))) (fun _ _ _ _ _ => pts_nil) (fun _ _ _ _ _ => (pe_tup (pa_cons (pv 3) (pa_cons (pv 2) (pa_cons (pe_ifExp (pt_cmpR op_eq (pv 2) (pv 4) (nomark _)) (pv 5) (pv 4)) pa_nil)))))))), ?_⟩
  obtain ⟨r, d, h1, h2, as, h3, hRA⟩ := id hF.h
  have g2 := hF.f
  have hal : as.length = rows.length := hRA.1
  have d12 := hF.d12
  have hfl := hF.fl
  refine ⟨_, rfl, h, _, _, _, rfl, rfl, SqT.of h1, atI_nat (j := 1) rfl, _, rfl, d, fa, as.map V.ref, faces.map V.str, rfl, .inr ⟨SqT.of h3, g2.sq, fun D hD => ?_⟩⟩
  have hwl : (ways rows faces).length = rows.length := by
    unfold ways
    rw [List.length_map, List.length_zip]
    omega
  refine lc_gen (n := rows.length) (fun k Hx => Same H Hx ∧ ∃ es : List Addr, Hx D = some (.lst (es.map V.ref)) ∧ RowsAt Hx es ((ways rows faces).take k)) ⟨same_new hD _, [], upd_same, RowsAt.nil⟩ (fun k Hx hk ⟨sy, es, hEx, hM⟩ => ?_) (fun Hx ⟨sy, es, hEx, hM⟩ => ?_)
  · have hri : rows[k]? = some rows[k] := List.getElem?_eq_getElem hk
    have hai : as[k]? = some (as[k]'(by omega)) := List.getElem?_eq_getElem (by omega)
    have hfi : faces[k]? = some (faces[k]'(by omega)) := List.getElem?_eq_getElem (by omega)
    generalize faces[k]'(by omega) = fc at hfi
    generalize as[k]'(by omega) = ai at hai
    have hrow := hRA.2 k _ _ hai hri
    obtain ⟨n, e1, e2, er⟩ := hF.row _ (List.getElem_mem hk)
    rw [er] at hrow hri
    have ex : (as.map V.ref)[k]? = some (.ref ai) := by rw [List.getElem?_map, hai]; rfl
    have ey : (faces.map V.str)[k]? = some (.str fc) := by rw [List.getElem?_map, hfi]; rfl
    have qx : SqT K Hx d (as.map V.ref) := SqT.of (sy _ _ h3)
    have qy : SqT K Hx fa (faces.map V.str) := (g2.same sy).sq
    refine ⟨⟨_, _, _, _, qx, qy, ex, ey⟩, ?_⟩
    rintro _ _ ⟨T, v1, v2, rfl, hT, rfl, f1, f2⟩
    have t1 := (f1 _ qx).symm.trans ex
    have t2 := (f2 _ qy).symm.trans ey
    cases t1
    cases t2
    have sT := same_new hT (.tup [.ref ai, .str fc])
    refine ⟨T, _, rfl, SqT.of upd_same, rfl, _, _, rfl, ?_⟩
    have hrow2 := sT _ _ (sy _ _ hrow)
    have hEy := sT _ _ hEx
    have hMy := hM.tu (Tu.same sT)
    have syT := sy.trans sT
    generalize upd Hx T (.tup [.ref ai, .str fc]) = Hy at hrow2 hEy hMy syT ⊢
    refine ⟨ai, _, rfl, SqT.of hrow2, rfl, _, _, rfl, _, _, rfl, _, _, rfl, rfl, _, _, rfl, rfl, rfl, lcY ?_⟩
    have hwk : (ways rows faces)[k]? = some [n, fc, oth e1 e2 fc] := by
      unfold ways
      rw [List.getElem?_map, show (rows.zip faces)[k]? = some ([n, e1, e2], fc) from List.getElem?_zip_eq_some.mpr ⟨hri, hfi⟩]
      rfl
    have add : ∀ v : Str, v = oth e1 e2 fc → ∀ tq, Hy tq = none → ∃ acc, upd Hy tq (.tup [.str n, .str fc, .str v]) D = some (.lst acc) ∧ acc.length < sizeLine ∧ Same H (upd (upd Hy tq (.tup [.str n, .str fc, .str v])) D (.lst (acc ++ [.ref tq]))) ∧ ∃ es : List Addr, upd (upd Hy tq (.tup [.str n, .str fc, .str v])) D (.lst (acc ++ [.ref tq])) D = some (.lst (es.map V.ref)) ∧ RowsAt (upd (upd Hy tq (.tup [.str n, .str fc, .str v])) D (.lst (acc ++ [.ref tq]))) es ((ways rows faces).take (k + 1)) := by
      rintro v rfl tq htq
      have sq := same_new htq (.tup [.str n, .str fc, .str (oth e1 e2 fc)])
      refine ⟨_, sq _ _ hEy, ?_, same_mut (syT.trans sq) hD _, es ++ [tq], by rw [upd_same, List.map_append]; rfl, ?_⟩
      · rw [List.length_map, hM.1, List.length_take]
        exact sz100 (by omega)
      · rw [take_snoc hwk]
        have ht : ∀ xs, upd Hy tq (.tup [.str n, .str fc, .str (oth e1 e2 fc)]) tq = some (.tup xs) → upd (upd Hy tq (.tup [.str n, .str fc, .str (oth e1 e2 fc)])) D (.lst (es.map V.ref ++ [.ref tq])) tq = some (.tup xs) := fun xs z => by
          rw [upd_ne (fun e => by rw [e] at htq; rw [hEy] at htq; cases htq)]
          exact z
        exact RowsAt.snoc (hMy.tu fun a xs z => by
          have z2 := sq _ _ z
          rw [upd_ne (fun e => by rw [e] at z2; rw [sq _ _ hEy] at z2; cases z2)]
          exact z2) (ht _ upd_same)
    refine ⟨_, rfl, _, rfl, _, rfl, _, rfl, rfl, _, rfl, ?_⟩
    unfold oth at add
    by_cases z : fc = e1
    · rw [decide_eq_true (show V.str fc = V.str e1 by rw [z])]
      exact iteT ⟨_, rfl, (by show 3 ≤ sizeLine; decide), add _ (if_pos z).symm⟩
    · rw [decide_eq_false (fun y => z (V.str.inj y))]
      exact iteF ⟨_, rfl, (by show 3 ≤ sizeLine; decide), add _ (if_neg z).symm⟩
  refine ⟨⟨_, _, SqT.of (sy _ _ h3), (g2.same sy).sq, .inl (by rw [List.length_map]; omega)⟩, ?_⟩
  rw [List.take_of_length_le (by omega)] at hM
  exact q D es Hx sy hD hEx hM
abbrev s_ways_out : Stmt := top 15
abbrev n_ways_out : List Str := ["hall", "faces", "room", "door", "start", "end"]
theorem sc_ways_out : FnScope n_ways_out ["hall", "faces", "room"] (defScope s_ways_out) := ⟨rfl, rfl, rfl, by decide +kernel, rfl, by decide +kernel, by decide +kernel⟩
theorem ok_ways_out (F : FnP K "ways_out" s_ways_out f fd) (hm : mg "ways_out" = some (.ref f)) (c_ways_of : Cal P w K mg base 1 "ways_of" spWays) :
    Cal P w K mg base 2 "ways_out" spOuts := by
  refine cal_of (F.ok sc_ways_out (fun vs H Q E h => ?_) (fun cdv A outer s H vs Q E hr h => ?_)) hm F.kp (F.bindsN (ps := ["hall", "faces", "room"]) fun _ _ _ _ _ _ us hl => match us, hl with | [_, _, _], _ => rfl)
  · obtain ⟨h, fa, x, rooms, rows, faces, rfl, hF, q⟩ := h
    rfl
  obtain ⟨h, fa, x, rooms, rows, faces, rfl, hF, q⟩ := h
  have nd := sc_ways_out.nd
  refine ⟨_, PSs.nox (pss_one (ps_ret (pe_lc (own := [("door", 3), ("start", 4), ("end", 5)]) (g := (gTup K 3 (gCons (gName 3) (gCons (gName 4) (gCons (gName 5) gNil))))) (by rfl) nd (pi_list (C8.pe_c c_ways_of hr (by omega) (by rfl) (pa_cons (pv 0) (pa_cons (pv 1) pa_nil)))) (blkOk_by (own := [("door", 3), ("start", 4), ("end", 5)]) (N := n_ways_out) (sc := defScope s_ways_out) (by decide +kernel)) (fun _ _ _ _ _ => (pg_tup (by rfl) (pgs_cons (pg_name (i := 3) nd rfl (Or.inl rfl)) (pgs_cons (pg_name (i := 4) nd rfl (Or.inl rfl)) (pgs_cons (pg_name (i := 5) nd rfl (Or.inl rfl)) pgs_nil))))) (fun _ _ _ _ _ => (pts_one (pt_cmpR op_eq (pv 4) (pv 2) (nomark _)))) (fun _ _ _ _ _ => (pe_tup (pa_cons (pv 3) (pa_cons (pv 5) pa_nil))))))), ?_⟩
  have d12 := hF.d12
  have hwl : (ways rows faces).length ≤ 12 := by
    unfold ways
    rw [List.length_map, List.length_zip]
    omega
  refine ⟨_, rfl, _, rfl, h, fa, rooms, rows, faces, rfl, hF, fun L as H1 s1 hL hL1 hR1 => ⟨_, rfl, ⟨_, SqL.of hL1⟩, fun D hD => ?_⟩⟩
  refine lc_list (K := K) (a := L) (xs := as.map V.ref) (fun k Hx => Same H1 Hx ∧ ∃ es : List Addr, Hx D = some (.lst (es.map V.ref)) ∧ RowsAt Hx es ((((ways rows faces).take k).filter fun r => decide (r.getD 1 "" = x)).map fun r => [r.headD "", r.getD 2 ""])) ⟨same_new hD _, [], upd_same, RowsAt.nil⟩ (fun k Hx _ ⟨sy, _⟩ => SqL.of (sy _ _ hL1)) (fun k y Hx hy ⟨sy, es, hEx, hM⟩ => ?_) (fun Hx ⟨sy, es, hEx, hM⟩ => ?_)
  · obtain ⟨a, p, rfl, hpi, hpa⟩ := hR1.row hy
    obtain ⟨e, he, ep⟩ := List.mem_map.mp (show p ∈ (rows.zip faces).map wyR from List.mem_of_getElem? hpi)
    obtain ⟨n, fc, ot, rfl⟩ : ∃ n fc ot : Str, p = [n, fc, ot] := ⟨_, _, _, ep.symm⟩
    refine ⟨a, _, rfl, SqT.of (sy _ _ hpa), rfl, _, _, rfl, _, _, rfl, _, _, rfl, rfl, rfl, ?_⟩
    refine ⟨_, rfl, _, rfl, rfl, _, rfl, ?_⟩
    rw [take_snoc hpi, List.filter_append, List.map_append]
    by_cases z : fc = x
    · rw [decide_eq_true (show V.str fc = V.str x by rw [z])]
      refine iteT ⟨_, rfl, _, rfl, (by show 2 ≤ sizeLine; decide), fun tq htq => ?_⟩
      have sq := same_new htq (.tup [.str n, .str ot])
      have nlD : tq ≠ D := fun e => by rw [e, hEx] at htq; cases htq
      refine ⟨_, sq _ _ hEx, ?_, same_mut (sy.trans sq) hD _, es ++ [tq], by rw [upd_same, List.map_append]; rfl, ?_⟩
      · rw [List.length_map, hM.1, List.length_map]
        exact sz100 (Nat.le_trans (List.length_filter_le _ _) (by rw [List.length_take]; omega))
      · rw [show List.filter (fun r : List Str => decide (r.getD 1 "" = x)) [[n, fc, ot]] = [[n, fc, ot]] from List.filter_cons_of_pos (decide_eq_true z)]
        refine RowsAt.snoc (hM.tu fun b xs z => ?_) ?_
        · have z2 := sq _ _ z
          rw [upd_ne (fun e => by rw [e] at z2; rw [sq _ _ hEx] at z2; cases z2)]
          exact z2
        · rw [upd_ne nlD]
          exact upd_same
    · rw [decide_eq_false (fun y => z (V.str.inj y))]
      refine iteF ⟨sy, es, hEx, ?_⟩
      rw [show List.filter (fun r : List Str => decide (r.getD 1 "" = x)) [[n, fc, ot]] = [] from List.filter_cons_of_neg (by rw [decide_eq_true_iff]; exact z), List.map_nil, List.append_nil]
      exact hM
  rw [List.length_map, hR1.1, List.take_length] at hM
  exact q D es Hx (s1.trans sy) (s1.free hD) hEx hM
abbrev s_spread : Stmt := top 13
abbrev n_spread : List Str := ["start", "steps", "found", "newest", "further", "here", "step", "there"]
theorem sc_spread : FnScope n_spread ["start", "steps"] (defScope s_spread) := ⟨rfl, rfl, rfl, by decide +kernel, rfl, by decide +kernel, by decide +kernel⟩
theorem ok_spread (F : FnP K "spread" s_spread f fd) (hm : mg "spread" = some (.ref f)) :
    Giv P w K mg base 2 "spread" spSpread := by
  refine ⟨f, fd, s_spread, n_spread, "start", "steps", F, hm, sc_spread, F.bindsN (ps := ["start", "steps"]) fun _ _ _ _ _ _ us hl => match us, hl with | [_, _], _ => rfl, rfl, .inl rfl, by decide, by decide, fun cdv A outer s H v f1 c1 qn tl Q hr act hc h => ?_⟩
  obtain ⟨start, U, step, rfl, hU, hl, hst, htl, q⟩ := h
  have nd := sc_spread.nd
  refine ⟨_, (pss_cons (ps_set (i := 2) nd rfl (Or.inl rfl) (pe_disp (pps_cons (pv 0) (pe_tup pa_nil) pps_nil) (by rfl) (by rfl) (by decide) (by decide)))
    (pss_cons (ps_set (i := 3) nd rfl (Or.inl rfl) (pe_lst (pa_cons (pv 0) pa_nil)))
    (pss_cons (ps_while PassesOwn.never (show PT _ _ (tTru K _) from pt_tru (pv 3)) (pss_cons (ps_set (i := 4) nd rfl (Or.inl rfl) (pe_lst pa_nil))
    (C8.pss_cut (ps_for PassesOwn.never rfl (pi_list (pv 3)) (pg_name (i := 5) nd rfl (Or.inl rfl)) (pss_one (ps_for PassesOwn.never rfl (pi_list (act _ _ _ _ (pv 5) (by rfl))) (pg_tup (by rfl) (pgs_cons (pg_name (i := 6) nd rfl (Or.inl rfl)) (pgs_cons (pg_name (i := 7) nd rfl (Or.inl rfl)) pgs_nil))) (pss_one (ps_if (pt_cmp (pc_dnotin (hu_of hr) (pv 7) (pv 2))) (pss_cons (ps_dput (hu_of hr) (pv 2) (pv 7) (pe_op (r := rCatA K) op_catA (pe_dget (hu_of hr) (pv 2) (pv 5) (fun _ _ => rfl)) (pe_tup (pa_cons (pv 6) pa_nil))) rfl)
    (pss_one (ps_expr (show PE _ _ (tBM K _ _ _ _) from pe_bm PySem.F.plainAttrs_list PySem.F.slot_list_append PySem.F.type_list_append mt_append (pv 4) (pa_cons (pv 7) pa_nil))))) pss_nil)))))
    (pss_one (ps_set (i := 3) nd rfl (Or.inl rfl) (pv 4))))))
    (pss_one (ps_ret (pv 2)))))), ?_⟩
  intro D hD
  refine ⟨_, rfl, (by show 0 ≤ sizeLine; decide), fun E hE => ⟨same_new hE _ _ _ upd_same, [(Sum.inr start, V.ref E)], rfl, (by show 1 ≤ 15; decide), ?_⟩⟩
  have nED : E ≠ D := fun e => by rw [e, upd_same] at hE; cases hE
  have hE0 : H E = none := by rw [upd_ne nED] at hE; exact hE
  have s0 : Same H (upd (upd (upd H D (.dK [])) E (.tup [])) D (.dK (mergeK [] [(Sum.inr start, V.ref E)]))) := same_mut ((same_new hD _).trans (same_new hE _)) hD _
  have d0 : DiP (upd (upd (upd H D (.dK [])) E (.tup [])) D (.dK (mergeK [] [(Sum.inr start, V.ref E)]))) D [(start, E)] [(start, [])] := ⟨upd_same, rfl, fun i e p h1 h2 => by
    cases i with
    | zero =>
      cases h1
      cases h2
      rw [upd_ne nED, upd_same]
      rfl
    | succ i => cases h1⟩
  generalize upd (upd (upd H D (.dK [])) E (.tup [])) D (.dK (mergeK [] [(Sum.inr start, V.ref E)])) = H0 at s0 d0 ⊢
  refine ⟨_, rfl, (by show 1 ≤ sizeLine; decide), fun L hL => ?_⟩
  have sL := same_new hL (.lst [.str start])
  refine ⟨SpI H D start f1 U step, ⟨_, ⟨L, [start], 0, _, _, _, _, _, _, rfl, s0.trans sL, upd_same, d0.same sL, Lev.zero hU, rfl⟩⟩, ?_⟩
  clear d0 sL hL s0 hE nED hE0
  rintro m σ Hx ⟨L, nw, d, mm, fd, v4, v5, v6, v7, rfl, sx, hL, hDx, hLev, rfl⟩
  refine ⟨_, rfl, _, .inl ⟨_, SqL.of hL, rfl⟩, ?_⟩
  by_cases hn : nw = []
  · subst hn
    refine iteF ⟨_, rfl, q D mm fd Hx sx hD hDx hLev.spd fun x hx => ?_⟩
    obtain ⟨e, he, rfl⟩ := List.mem_map.mp hx
    exact hLev.u e he
  have hne : (!(nw.map V.str).isEmpty) = true := by
    cases nw with
    | nil => exact absurd rfl hn
    | cons x xs => rfl
  rw [hne]
  refine iteT ⟨fun σ' H' => ∃ m', m' < _ ∧ SpI H D start f1 U step m' σ' H', fun σ' H' z => z, ?_⟩
  refine ⟨(by show 0 ≤ sizeLine; decide), fun F hF => ?_⟩
  have sF := same_new hF (.lst [])
  have hF2 : upd Hx F (.lst []) F = some (.lst []) := upd_same
  have hF0 : H F = none := sx.free hF
  refine ⟨fun σ' Hy => ∃ (mm : List (Str × Addr)) (fd2 : List (Str × List Str)) (fu : List Str) (v5 v6 v7 : Option V), σ' = [some (.str start), some (.ref f1), some (.ref D), some (.ref L), some (.ref F), v5, v6, v7] ∧ Same H Hy ∧ Hy F = some (.lst (fu.map V.str)) ∧ DiP Hy D mm fd2 ∧ Lev step start U (d + 1) fd2 fu ∧ fd.length + fu.length ≤ fd2.length, ?_, ?_⟩
  rotate_left
  · rintro σ' Hy ⟨mm2, fd2, fu, v5, v6, v7, rfl, sy, hFy, hDy, hLev2, hlen⟩
    refine ⟨_, rfl, _, ?_, ⟨F, fu, d + 1, mm2, fd2, _, _, _, _, rfl, sy, hFy, hDy, hLev2, rfl⟩⟩
    have h1 := hLev2.len
    rw [if_neg hn]
    cases fu with
    | nil =>
      rw [if_pos rfl]
      have : fd.length ≤ fd2.length := hlen
      omega
    | cons z zs =>
      rw [if_neg (by simp)]
      rw [List.length_cons] at hlen
      omega
  refine ⟨_, rfl, _, rfl, ⟨_, SqL.of (sF _ _ hL)⟩, ?_⟩
  refine for_list (K := K) (a := L) (xs := nw.map V.str) (fun i σ' Hy => ∃ (mm : List (Str × Addr)) (fd2 : List (Str × List Str)) (fu : List Str) (v5 v6 v7 : Option V), σ' = [some (.str start), some (.ref f1), some (.ref D), some (.ref L), some (.ref F), v5, v6, v7] ∧ Same H Hy ∧ Hy L = some (.lst (nw.map V.str)) ∧ Hy F = some (.lst (fu.map V.str)) ∧ DiP Hy D mm fd2 ∧ Mid step start U d nw i fd2 fu ∧ fd.length + fu.length ≤ fd2.length)
    ⟨mm, fd, [], _, _, _, rfl, sx.trans sF, sF _ _ hL, hF2, hDx.same sF, hLev.mid, Nat.le_refl _⟩ (fun i σ' Hy _ ⟨_, _, _, _, _, _, _, _, hLy, _⟩ => SqL.of hLy) (fun i y σ' Hy hy hP => ?_) (fun σ' Hy hP => ?_)
  rotate_left
  · obtain ⟨mm2, fd2, fu, v5, v6, v7, rfl, sy, _, hFy, hDy, hM, hlen⟩ := hP
    rw [List.length_map] at hM
    exact ⟨mm2, fd2, fu, _, _, _, rfl, sy, hFy, hDy, hM.lev hn, hlen⟩
  obtain ⟨mm2, fd2, fu, v5, v6, v7, rfl, sy, hLy, hFy, hDy, hM, hlen⟩ := hP
  obtain ⟨x, hx, rfl⟩ : ∃ x, nw[i]? = some x ∧ V.str x = y := by
    rw [List.getElem?_map] at hy
    cases z : nw[i]? with
    | none => rw [z] at hy; cases hy
    | some x => rw [z] at hy; exact ⟨x, rfl, Option.some.inj hy⟩
  obtain ⟨ex, hex, rfl, hpl⟩ := hM.old x (List.mem_of_getElem? hx)
  have hxU := hM.u ex hex
  have hdl := hLev.dlt hn
  refine ⟨rfl, _, rfl, sy _ _ hc, htl ex.1 hxU Hy sy _ fun L2 as H2 s2 hL2n hL2 hR2 => ?_⟩
  have n2 : ∀ {p : Addr} {o : HO}, Hy p = some o → L2 ≠ p := fun {p o} z e => by rw [e, z] at hL2n; cases hL2n
  have nFD : F ≠ D := fun e => by rw [e, hDy.at_] at hFy; cases hFy
  have nLF : L ≠ F := fun e => by rw [← e, hL] at hF; cases hF
  have nLD : L ≠ D := fun e => by rw [e, hDy.at_] at hLy; cases hLy
  refine ⟨_, rfl, ⟨_, SqL.of hL2⟩, ?_⟩
  refine for_list (K := K) (a := L2) (xs := as.map V.ref) (fun j σ' Hz => ∃ (mm : List (Str × Addr)) (fd2 : List (Str × List Str)) (fu : List Str) (v6 v7 : Option V), σ' = [some (.str start), some (.ref f1), some (.ref D), some (.ref L), some (.ref F), some (.str ex.1), v6, v7] ∧ Same H Hz ∧ Hz L = some (.lst (nw.map V.str)) ∧ Hz L2 = some (.lst (as.map V.ref)) ∧ RowsAt Hz as (step ex.1) ∧ Hz F = some (.lst (fu.map V.str)) ∧ DiP Hz D mm fd2 ∧ Mid step start U d nw i fd2 fu ∧ ex ∈ fd2 ∧ fd.length + fu.length ≤ fd2.length ∧ ∀ (k : Nat) (l y : Str), k < j → (step ex.1)[k]? = some [l, y] → y ∈ ks fd2)
    ⟨mm2, fd2, fu, _, _, rfl, sy.trans s2, s2 _ _ hLy, hL2, hR2, s2 _ _ hFy, hDy.same s2, hM, hex, hlen, fun k l y hk => absurd hk (Nat.not_lt_zero k)⟩ (fun j σ' Hz _ ⟨_, _, _, _, _, _, _, _, hLz, _⟩ => SqL.of hLz) (fun j y σ' Hz hy hP => ?_) (fun σ' Hz hP => ?_)
  rotate_left
  · obtain ⟨mm3, fd3, fu3, v6, v7, rfl, sz, hLz, _, _, hFz, hDz, hM3, _, hlen3, hdone⟩ := hP
    refine ⟨mm3, fd3, fu3, _, _, _, rfl, sz, hLz, hFz, hDz, hM3.next hx fun l y hy => ?_, hlen3⟩
    obtain ⟨k, hk⟩ := List.mem_iff_getElem?.mp hy
    refine hdone k l y ?_ hk
    rw [List.length_map, hR2.1]
    exact (List.getElem?_eq_some_iff.mp hk).1
  obtain ⟨mm3, fd3, fu3, v6, v7, rfl, sz, hLz, hL2z, hRz, hFz, hDz, hM3, hex3, hlen3, hdone⟩ := hP
  obtain ⟨a, r, rfl, hri, hra⟩ := hRz.row hy
  obtain ⟨l, y, rfl, hyU⟩ := hst ex.1 hxU r (List.mem_of_getElem? hri)
  refine ⟨a, _, rfl, SqT.of hra, rfl, _, _, rfl, _, _, rfl, rfl, ?_⟩
  refine ⟨_, rfl, _, rfl, D, _, rfl, DGet.k (k := Sum.inr y) hDz.at_, _, rfl, ?_⟩
  rw [hDz.is hM3.nd]
  by_cases hin : y ∈ ks fd3
  · rw [decide_eq_true hin]
    refine iteF ⟨mm3, fd3, fu3, _, _, rfl, sz, hLz, hL2z, hRz, hFz, hDz, hM3, hex3, hlen3, fun k l' y' hk e => ?_⟩
    rcases Nat.lt_succ_iff_lt_or_eq.mp hk with z | rfl
    · exact hdone k l' y' z e
    · rw [hri] at e
      cases e
      exact hin
  rw [decide_eq_false hin]
  obtain ⟨ax, hax, hpa⟩ := hDz.get hM3.nd (x := ex.1) (p := ex.2) hex3
  have hl3 := hM3.len
  have nxt : ∀ (tq : Addr) (Hw : Hp), Same Hz Hw → Hw tq = some (.tup ((ex.2 ++ [l]).map V.str)) → ∃ (mm : List (Str × Addr)) (fd2 : List (Str × List Str)) (fu : List Str) (v6 v7 : Option V), [some (V.str start), some (.ref f1), some (.ref D), some (.ref L), some (.ref F), some (.str ex.1), some (.str l), some (.str y)] = [some (V.str start), some (.ref f1), some (.ref D), some (.ref L), some (.ref F), some (.str ex.1), v6, v7] ∧ Same H (upd (upd Hw D (.dK (putK (kvOf mm3) (Sum.inr y) (.ref tq)))) F (.lst (fu3.map V.str ++ [.str y]))) ∧ (upd (upd Hw D (.dK (putK (kvOf mm3) (Sum.inr y) (.ref tq)))) F (.lst (fu3.map V.str ++ [.str y]))) L = some (.lst (nw.map V.str)) ∧ (upd (upd Hw D (.dK (putK (kvOf mm3) (Sum.inr y) (.ref tq)))) F (.lst (fu3.map V.str ++ [.str y]))) L2 = some (.lst (as.map V.ref)) ∧ RowsAt (upd (upd Hw D (.dK (putK (kvOf mm3) (Sum.inr y) (.ref tq)))) F (.lst (fu3.map V.str ++ [.str y]))) as (step ex.1) ∧ (upd (upd Hw D (.dK (putK (kvOf mm3) (Sum.inr y) (.ref tq)))) F (.lst (fu3.map V.str ++ [.str y]))) F = some (.lst (fu.map V.str)) ∧ DiP (upd (upd Hw D (.dK (putK (kvOf mm3) (Sum.inr y) (.ref tq)))) F (.lst (fu3.map V.str ++ [.str y]))) D mm fd2 ∧ Mid step start U d nw i fd2 fu ∧ ex ∈ fd2 ∧ fd.length + fu.length ≤ fd2.length ∧ ∀ (k : Nat) (l y : Str), k < j + 1 → (step ex.1)[k]? = some [l, y] → y ∈ ks fd2 := by
    intro tq Hw sw htq
    have dw := (hDz.same sw).put hin htq
    have key : ∀ {b : Addr} {o : HO}, Hz b = some o → b ≠ D → b ≠ F → (upd (upd Hw D (.dK (putK (kvOf mm3) (Sum.inr y) (.ref tq)))) F (.lst (fu3.map V.str ++ [.str y]))) b = some o := fun {b o} z n1 n2 => by
      rw [upd_ne n2, upd_ne n1]
      exact sw _ _ z
    have keyT : ∀ {b : Addr} {xs : List V}, upd Hw D (.dK (putK (kvOf mm3) (Sum.inr y) (.ref tq))) b = some (.tup xs) → (upd (upd Hw D (.dK (putK (kvOf mm3) (Sum.inr y) (.ref tq)))) F (.lst (fu3.map V.str ++ [.str y]))) b = some (.tup xs) := fun {b xs} z => by
      rw [upd_ne (fun e => by rw [e, upd_ne nFD, sw _ _ hFz] at z; cases z)]
      exact z
    refine ⟨_, _, fu3 ++ [y], _, _, rfl, same_mut (same_mut (sz.trans sw) hD _) hF0 _, key hLz nLD nLF, key hL2z (n2 hDy.at_) (n2 hFy), hRz.tu (fun b xs z => key z (fun e => by rw [e, hDz.at_] at z; cases z) (fun e => by rw [e, hFz] at z; cases z)), by rw [upd_same, List.map_append]; rfl, ⟨by rw [upd_ne nFD.symm]; exact dw.at_, dw.kk, fun i e p h1 h2 => keyT (dw.pa i e p h1 h2)⟩, hM3.add (l := l) hex3 hpl (List.mem_of_getElem? hri) hin hyU, List.mem_append_left _ hex3, by rw [List.length_append, List.length_append]; show fd.length + (fu3.length + 1) ≤ fd3.length + 1; omega, fun k l' y' hk e => ?_⟩
    unfold ks
    rw [List.map_append]
    rcases Nat.lt_succ_iff_lt_or_eq.mp hk with z | rfl
    · exact List.mem_append_left _ (hdone k l' y' z e)
    · rw [hri] at e
      cases e
      exact List.mem_append_right _ (List.mem_singleton.mpr rfl)
  have fuL : (fu3.map V.str).length < sizeLine := by
    rw [List.length_map]
    exact sz100 (by omega)
  have kvL : (kvOf mm3).length < sizeLine := by
    rw [kvOf_len, hDz.len]
    exact sz100 (by omega)
  refine iteT ⟨_, rfl, _, rfl, D, _, rfl, (by rw [← hax]; exact DGet.k (k := Sum.inr ex.1) hDz.at_), _, rfl, (by show 1 ≤ sizeLine; decide), fun E hE => ?_⟩
  have sE := same_new hE (.tup [.str l])
  have hEz : upd Hz E (.tup [.str l]) E = some (.tup [.str l]) := upd_same
  generalize upd Hz E (.tup [.str l]) = Hz1 at sE hEz ⊢
  refine ⟨ax, E, _, _, rfl, rfl, SqT.of (sE _ _ hpa), SqT.of hEz, ?_, fun h0 => ?_, fun _ h1 => (nomatch h1), fun h0 _ p hp => ?_⟩
  · rw [List.length_map]
    show ex.2.length + 1 ≤ _
    exact Nat.le_of_lt (sz100 (by omega))
  · refine ⟨_, rfl, _, rfl, D, _, rfl, DPut.k (k := Sum.inr y) (sE _ _ hDz.at_) kvL, ?_⟩
    refine ⟨_, rfl, .inl ⟨rfl, _, SqL.of (by rw [upd_ne nFD]; exact sE _ _ hFz)⟩, _, rfl, F, _, _, rfl, rfl, (by rw [upd_ne nFD]; exact sE _ _ hFz), fuL, ?_⟩
    refine nxt E Hz1 sE ?_
    rw [List.map_append, h0]
    exact hEz
  · have sp := same_new hp (.tup (ex.2.map V.str ++ [.str l]))
    refine ⟨_, rfl, _, rfl, D, _, rfl, DPut.k (k := Sum.inr y) (sp _ _ (sE _ _ hDz.at_)) kvL, ?_⟩
    refine ⟨_, rfl, .inl ⟨rfl, _, SqL.of (by rw [upd_ne nFD]; exact sp _ _ (sE _ _ hFz))⟩, _, rfl, F, _, _, rfl, rfl, (by rw [upd_ne nFD]; exact sp _ _ (sE _ _ hFz)), fuL, ?_⟩
    refine nxt p _ (sE.trans sp) ?_
    rw [upd_same, List.map_append]
    rfl
end
theorem outs_mem {rows : List (List Str)} {faces : List Str} {x : Str} {r : List Str} (hr : ∀ r ∈ rows, ∃ n a b : Str, r = [n, a, b]) (h : r ∈ outs rows faces x) : ∃ (i : Nat) (l a b : Str), r = [l, oth a b x] ∧ rows[i]? = some [l, a, b] ∧ faces[i]? = some x := by
  unfold outs ways at h
  obtain ⟨q, hq, rfl⟩ := List.mem_map.mp h
  obtain ⟨hq1, hq2⟩ := List.mem_filter.mp hq
  obtain ⟨p, hp, rfl⟩ := List.mem_map.mp hq1
  obtain ⟨i, hi⟩ := List.mem_iff_getElem?.mp hp
  obtain ⟨h1, h2⟩ := List.getElem?_zip_eq_some.mp hi
  obtain ⟨n, a, b, e⟩ := hr _ (List.mem_of_getElem? h1)
  have e2 : p.2 = x := of_decide_eq_true hq2
  refine ⟨i, n, a, b, ?_, by rw [h1, e], by rw [h2, e2]⟩
  unfold wyR
  rw [e, e2]
  rfl
theorem outs_of {rows : List (List Str)} {faces : List Str} {x l a b : Str} {i : Nat} (h1 : rows[i]? = some [l, a, b]) (h2 : faces[i]? = some x) : [l, oth a b x] ∈ outs rows faces x := by
  unfold outs ways
  refine List.mem_map.mpr ⟨wyR ([l, a, b], x), List.mem_filter.mpr ⟨List.mem_map.mpr ⟨([l, a, b], x), List.mem_of_getElem? (i := i) (List.getElem?_zip_eq_some.mpr ⟨h1, h2⟩), rfl⟩, decide_eq_true rfl⟩, rfl⟩
theorem oth_in {rooms : List Str} {a b f : Str} (ha : a ∈ rooms) (hb : b ∈ rooms) : oth a b f ∈ rooms := by
  unfold oth
  split <;> assumption
def spFrom (T : List (Addr × Str)) : Sp := fun vs H Q _ => ∃ (h fa : Addr) (x : Str) (rooms : List Str) (rows : List (List Str)) (faces : List Str), vs = [.ref h, .ref fa, .str x] ∧ HS H h rooms rows ∧ HallV rooms rows ∧ TZ H fa (faces.map V.str) ∧ faces.length = rows.length ∧ x ∈ rooms ∧ Tabs T H ∧
  ∀ D m fd H', Nx T H H' → Fr H D → DiP H' D m fd → Spd (outs rows faces) x fd → (∀ y ∈ ks fd, y ∈ rooms) → Q (.ref D) H'
section
variable {P : Program} {w : World} {K : PySem.W.Frag} {mg : Str → Option Value} {base : Heap} {f : Addr} {fd : FuncData}
abbrev s_ways_from : Stmt := top 14
abbrev n_ways_from : List Str := ["hall", "faces", "room"]
theorem sc_ways_from : FnScope n_ways_from ["hall", "faces", "room"] (defScope s_ways_from) := ⟨rfl, rfl, rfl, by decide +kernel, rfl, by decide +kernel, by decide +kernel⟩
theorem ok_ways_from (F : FnP K "ways_from" s_ways_from f fd) (hf : f = He.fAd K ("ways_from", none)) (hm : mg "ways_from" = some (.ref f)) {T : List (Addr × Str)} (TB : TabB base mg (He.cT K ("ways_from", none)).1 (He.cT K ("ways_from", none)).2) (hT1 : ((He.cT K ("ways_from", none)).2, ("ways_from.<locals>.<lambda>" : Str)) ∈ T) (hT2 : ∀ p ∈ T, p.1 = (He.cT K ("ways_from", none)).2 → p.2 = ("ways_from.<locals>.<lambda>" : Str)) (c_spread : Giv P w K mg base 2 "spread" spSpread) (c_ways_out : Cal P w K mg base 2 "ways_out" spOuts) :
    Cal P w K mg base 5 "ways_from" (spFrom T) := by
  refine cal_of (okC F hf sc_ways_from (fun vs H Q E h => ?_) (fun A outer s H vs Q E hr h => ?_)) hm F.kp (F.bindsN (ps := ["hall", "faces", "room"]) fun _ _ _ _ _ _ us hl => match us, hl with | [_, _, _], _ => rfl)
  · obtain ⟨h, fa, x, rooms, rows, faces, rfl, hH, hV, hF, hfl, hx, hT, q⟩ := h
    rfl
  obtain ⟨h, fa, x, rooms, rows, faces, rfl, hH, hV, hF, hfl, hx, hT, q⟩ := h
  have nd := sc_ways_from.nd
  refine ⟨_, PSs.nox (pss_one (ps_ret (pe_lam1 (N := ["here", "hall", "faces"]) (fr := ["hall", "faces"]) (js := [0, 1]) (k0 := 2) c_spread hr (by omega) (by omega) (by rfl) TB rfl hT1 hT2 (nscope_by (by decide +kernel)) (show ndefB (defScope s_ways_from) _ _ = true from by decide +kernel) (by rfl) (by rfl) (fun _ _ _ _ _ _ => rfl) (pv 2) (fun _ _ _ _ _ _ hr => (C8.pe_c c_ways_out hr (by omega) (by rfl) (pa_cons (pv 1) (pa_cons (pv 2) (pa_cons (pv 0) pa_nil)))))))), ?_⟩
  have hrow : ∀ r ∈ rows, ∃ n a b : Str, r = [n, a, b] := fun r hr => by
    obtain ⟨n, a, b, e, _⟩ := hV.row r hr
    exact ⟨n, a, b, e⟩
  refine ⟨_, rfl, hT, fun H2 e2 t2 => ?_⟩
  refine ⟨x, rooms, outs rows faces, rfl, hx, Nat.le_trans hV.r8 (by decide), fun y hy r hr => ?_, fun y hy H1 s1 Q1 q1 => ?_, fun D m fd2 H' s' hD hDi hS hU => q D m fd2 H' ⟨e2.trans (ExtN.of s'), Tabs.same t2 s'⟩ (Nx.fr ⟨e2, t2⟩ hD) hDi hS hU⟩
  · obtain ⟨i, l, a, b, rfl, h1, _⟩ := outs_mem hrow hr
    obtain ⟨n, a', b', e, _, ha, hb, _⟩ := hV.row _ (List.mem_of_getElem? h1)
    cases e
    exact ⟨_, _, rfl, oth_in ha hb⟩
  · have x2 : Nx T H H2 := ⟨e2, t2⟩
    have HFx : HF H h fa rooms rows faces := ⟨hH, hF, hfl, hV.d12, hrow⟩
    refine ⟨_, rfl, _, rfl, _, rfl, h, fa, y, rooms, rows, faces, rfl, (HFx.nx x2).same s1, fun p as H3 s3 hp hp2 hR => q1 p as H3 s3 hp hp2 hR⟩
end
end Td
set_option maxHeartbeats 4000000
namespace Td
open PySem PySem.Spec PyProof.Rows L2
/-! ### xs[::e], e 1 or -1 -/
def tStepL (K : PySem.W.Frag) (te ts : TE) : TE := fun σ H Q => te σ H fun x H1 => ∃ a xs, x = .ref a ∧ tPart ts σ H1 fun o H2 => ∃ j : Int, o = some j ∧ (j = 1 ∨ j = -1) ∧ SqL K H2 a xs ∧ ∀ p, H2 p = none → Q (.ref p) (L2.upd H2 p (.lst (if j = 1 then xs else xs.reverse)))
theorem pick_one (items : Array Value) : slicePick items none none (some 1) = slicePick items none none none := rfl
theorem cut_all (xs : List V) : cutV xs none none = xs := by
  unfold cutV
  rw [HT.sIx_none, HT.sIx_none, List.drop_zero, Nat.sub_zero, List.take_length]
theorem pe_stepL {X : Cx} {e f : Expr} {te ts : TE} {p3 pos : Pos} (he : PE X e te) (hf : PE X f ts) : PE X (.Subscript e (.Slice none none (some f) p3) pos) (tStepL X.K te ts) := by
  refine ⟨fun pins s σ H Q I h => ?_⟩
  refine Subscript_ (thn (he.run pins s σ H _ I h) fun v s1 ⟨x, H1, I1, r1, q1⟩ => ?_)
  obtain ⟨a, xs, ex, q⟩ := q1
  subst ex
  cases r1
  have hst : PO X (some f) (tPart ts) := po_some hf
  refine wpAny_Slice (thn (po_none.run pins s1 σ H1 (fun o H2 => o = none ∧ H2 = H1) I1 ⟨rfl, rfl⟩) fun vl s2 ⟨l, H2, I2, pl, el, e2⟩ => ?_)
  subst el e2
  refine thn (po_none.run pins s2 σ H2 (fun o H3 => o = none ∧ H3 = H2) I2 ⟨rfl, rfl⟩) fun vu s3 ⟨u, H3, I3, pu, eu, e3⟩ => ?_
  subst eu e3
  refine thn (hst.run pins s3 σ H3 _ I3 q) fun vs s4 ⟨o, H4, I4, ps, j, eo, hj, hx, q⟩ => ?_
  subst eo
  have I5 : Inv X pins σ H4 { s4 with heap := s4.heap.push { cls := .type "slice", data := .fields #[vl, vu, vs] } } := I4.kept (t' := s4.toks) fun b ob q => Heap.get?_push_of_some _ q
  obtain ⟨its, r, ht, hz⟩ := I5.list hx
  have hlen := r.length
  show wpAny (model X.prog X.w) X.A (subscriptTail e (.Slice none none (some f) p3) (.ref a) (.ref s4.heap.objs.size)) (EP X pins σ Q) X.xe { s4 with heap := s4.heap.push { cls := .type "slice", data := .fields #[vl, vu, vs] } }
  refine tail_any (ops := [.ref a, .ref s4.heap.objs.size]) ht.isList.typeIs (PySem.slot_list_getitem.lookup) ?_ (by with_unfolding_all rfl)
  rcases hj with rfl | rfl
  · refine wpAny_getItem_list_slice ht.isList (Heap.IsSliceOf.new _ vl vu vs) pl pu ps (by decide) ?_ (by rw [List.size_toArray]; omega)
    rw [pick_one, slicePick_cut, ← hlen]
    have e2 : ((its.drop (HT.sIx xs.length 0 none)).take (HT.sIx xs.length xs.length none - HT.sIx xs.length 0 none)) = its := by
      rw [HT.sIx_none, HT.sIx_none, List.drop_zero, Nat.sub_zero, hlen, List.take_length]
    refine ⟨.ref _, _, I5.laid (t' := s4.toks) (o := .lst xs) (fun b ob q => Heap.get?_push_of_some _ q) (Nat.le_refl _) ?_, rfl, q _ (I5.hok.fresh (Nat.le_refl _))⟩
    exact ⟨hz, its, 0, r, by rw [e2]; exact Heap.get?_push_size _ rfl⟩
  · refine wpAny_getItem_list_slice ht.isList (Heap.IsSliceOf.new _ vl vu vs) pl pu ps (by decide) ?_ (by rw [List.size_toArray]; omega)
    rw [PySem.W.krv_pick]
    refine ⟨.ref _, _, I5.laid (t' := s4.toks) (o := .lst xs.reverse) (fun b ob q => Heap.get?_push_of_some _ q) (Nat.le_refl _) ?_, rfl, q _ (I5.hok.fresh (Nat.le_refl _))⟩
    exact ⟨by rw [List.length_reverse]; exact hz, _, 0, r.reverse, Heap.get?_push_size _ rfl⟩
/-! ### slices and sums of tuples -/
theorem cut_full {xs : List V} {lo hi : Option Int} (h : HT.sIx xs.length 0 lo = 0 ∧ HT.sIx xs.length xs.length hi = xs.length) : cutV xs lo hi = xs := by
  unfold cutV
  rw [h.1, h.2, List.drop_zero, Nat.sub_zero, List.take_length]
theorem slA {K : PySem.W.Frag} {H : Hp} {a : Addr} {xs : List V} {lo hi : Option Int} {Q : VK} (h : SqT K H a xs) (hc : ∀ p H', Same H H' → (H' p = some (.tup (cutV xs lo hi)) ∨ (p = a ∧ H' = H ∧ cutV xs lo hi = xs)) → Q (.ref p) H') : rSlA K (.ref a) lo hi H Q :=
  ⟨a, xs, rfl, h, fun z => hc a H (Same.refl H) (.inr ⟨rfl, rfl, cut_full z⟩), fun _ p hp => hc p _ (same_new hp _) (.inl upd_same)⟩
theorem slT {K : PySem.W.Frag} {H : Hp} {a : Addr} {xs ys : List V} {lo hi : Option Int} {Q : VK} (h : H a = some (.tup xs)) (e : cutV xs lo hi = ys) (hc : ∀ p H', Same H H' → H' p = some (.tup ys) → Q (.ref p) H') : rSlA K (.ref a) lo hi H Q :=
  slA (SqT.of h) fun p H' s z => hc p H' s (by
    rcases z with z | ⟨rfl, rfl, z⟩
    · rw [← e]; exact z
    · rw [← e, z]; exact h)
theorem slTN {K : PySem.W.Frag} {σ : L2.St} {H : Hp} {a : Addr} {xs ys : List V} {lo : Option Int} {Q : VK} (h : H a = some (.tup xs)) (e : cutV xs lo none = ys) (hc : ∀ p H', Same H H' → H' p = some (.tup ys) → Q (.ref p) H') : tNoPart σ H (fun u H3 => rSlA K (.ref a) lo u H3 Q) := slT h e hc
theorem catT {K : PySem.W.Frag} {H : Hp} {a b : Addr} {xs ys : List V} {Q : VK} (ha : H a = some (.tup xs)) (hb : H b = some (.tup ys)) (hl : xs.length + ys.length ≤ 1000) (hc : ∀ p H', Same H H' → H' p = some (.tup (xs ++ ys)) → Q (.ref p) H') : rCatA K (.ref a) (.ref b) H Q :=
  ⟨a, b, xs, ys, rfl, rfl, SqT.of ha, SqT.of hb, Nat.le_of_lt (sz100 hl), fun e => hc b H (Same.refl H) (by rw [e]; exact hb), fun _ e => hc a H (Same.refl H) (by rw [e, List.append_nil]; exact ha), fun _ _ p hp => hc p _ (same_new hp _) upd_same⟩
end Td
set_option maxHeartbeats 4000000
namespace Td
open PySem PySem.Spec PyProof.Rows L2
/-! ### states whose first tuple is known whole (HZ), or may be (HG) -/
def HG (H : Hp) (h : Addr) (ss : List Str) (rows : List (List Str)) : Prop := ∃ r d : Addr, H h = some (.tup [.ref r, .ref d]) ∧ L2.Rd H r (.tup (ss.map V.str)) ∧ Rows H d rows
theorem HZ.hg {H : Hp} {h : Addr} {ss : List Str} {rows : List (List Str)} (x : HZ H h ss rows) : HG H h ss rows := by
  obtain ⟨r, d, h1, ⟨o, _, h2⟩, h3⟩ := x
  exact ⟨r, d, h1, .inr ⟨o, h2⟩, h3⟩
theorem HS.hg {H : Hp} {h : Addr} {ss : List Str} {rows : List (List Str)} (x : HS H h ss rows) : HG H h ss rows := by
  obtain ⟨r, d, h1, h2, h3⟩ := x
  exact ⟨r, d, h1, .inl h2, h3⟩
theorem rd_same {H H' : Hp} {a : Addr} {u : HO} (s : Same H H') (h : L2.Rd H a u) : L2.Rd H' a u := by
  rcases h with h | ⟨o, h⟩
  · exact .inl (s _ _ h)
  · exact .inr ⟨o, s _ _ h⟩
theorem rd_ne {H : Hp} {a b : Addr} {xs us : List V} (h : L2.Rd H a (.tup xs)) (hb : H b = some (.lst us)) : a ≠ b := fun e => by
  rcases h with h | ⟨o, h⟩
  · rw [e, hb] at h
    cases h
  · rw [e, hb] at h
    cases h
theorem rd_ch {H H' : Hp} {a b : Addr} {xs : List V} (c : Ch b H H') (B : Box H b) (h : L2.Rd H a (.tup xs)) : L2.Rd H' a (.tup xs) := by
  have n : a ≠ b := by
    obtain ⟨x, y, z, hb, _⟩ := B
    exact rd_ne h hb
  rcases h with h | ⟨o, h⟩
  · exact .inl (c _ _ n h)
  · exact .inr ⟨o, c _ _ n h⟩
theorem rd_mut {H : Hp} {a p : Addr} {xs us : List V} (h : L2.Rd H a (.tup xs)) (hp : H p = some (.lst us)) (us' : List V) : L2.Rd (upd H p (.lst us')) a (.tup xs) := by
  have n := rd_ne h hp
  rcases h with h | ⟨o, h⟩
  · exact .inl (by rw [upd_ne n]; exact h)
  · exact .inr ⟨o, by rw [upd_ne n]; exact h⟩
theorem HG.same {H H' : Hp} {h : Addr} {ss : List Str} {rows : List (List Str)} (s : Same H H') (x : HG H h ss rows) : HG H' h ss rows := by
  obtain ⟨r, d, h1, h2, h3⟩ := x
  exact ⟨r, d, s _ _ h1, rd_same s h2, h3.tu (Tu.same s)⟩
theorem HG.ch {H H' : Hp} {h b : Addr} {ss : List Str} {rows : List (List Str)} (c : Ch b H H') (B : Box H b) (x : HG H h ss rows) : HG H' h ss rows := by
  obtain ⟨r, d, h1, h2, h3⟩ := x
  exact ⟨r, d, Tu.of c B _ _ h1, rd_ch c B h2, h3.tu (Tu.of c B)⟩
theorem HG.mut {H : Hp} {h p : Addr} {ss : List Str} {rows : List (List Str)} {us : List V} (x : HG H h ss rows) (hp : H p = some (.lst us)) (us' : List V) : HG (upd H p (.lst us')) h ss rows := by
  obtain ⟨r, d, h1, h2, h3⟩ := x
  have t : Tu H (upd H p (.lst us')) := fun a xs h => by
    rw [upd_ne (fun e => by rw [e, hp] at h; cases h)]
    exact h
  exact ⟨r, d, t _ _ h1, rd_mut h2 hp us', h3.tu t⟩
structure HStZ (H : Hp) (h st : Addr) (rooms : List Str) (rows : List (List Str)) (faces : List Str) (places : List (List Str)) : Prop where
  h : HZ H h rooms rows
  v : HallV rooms rows
  s : HZ H st faces places
  t : StV rooms rows faces places
structure HStG (H : Hp) (h st : Addr) (rooms : List Str) (rows : List (List Str)) (faces : List Str) (places : List (List Str)) : Prop where
  h : HZ H h rooms rows
  v : HallV rooms rows
  s : HG H st faces places
  t : StV rooms rows faces places
theorem HStZ.same {H H' : Hp} {h st : Addr} {rooms : List Str} {rows : List (List Str)} {faces : List Str} {places : List (List Str)} (s : Same H H') (y : HStZ H h st rooms rows faces places) : HStZ H' h st rooms rows faces places := ⟨y.h.same s, y.v, y.s.same s, y.t⟩
theorem HStZ.ch {H H' : Hp} {b h st : Addr} {rooms : List Str} {rows : List (List Str)} {faces : List Str} {places : List (List Str)} (c : Ch b H H') (B : Box H b) (y : HStZ H h st rooms rows faces places) : HStZ H' h st rooms rows faces places := ⟨y.h.ch c B, y.v, y.s.ch c B, y.t⟩
theorem HStZ.g {H : Hp} {h st : Addr} {rooms : List Str} {rows : List (List Str)} {faces : List Str} {places : List (List Str)} (y : HStZ H h st rooms rows faces places) : HStG H h st rooms rows faces places := ⟨y.h, y.v, y.s.hg, y.t⟩
theorem HStG.same {H H' : Hp} {h st : Addr} {rooms : List Str} {rows : List (List Str)} {faces : List Str} {places : List (List Str)} (s : Same H H') (y : HStG H h st rooms rows faces places) : HStG H' h st rooms rows faces places := ⟨y.h.same s, y.v, y.s.same s, y.t⟩
theorem HStG.ch {H H' : Hp} {b h st : Addr} {rooms : List Str} {rows : List (List Str)} {faces : List Str} {places : List (List Str)} (c : Ch b H H') (B : Box H b) (y : HStG H h st rooms rows faces places) : HStG H' h st rooms rows faces places := ⟨y.h.ch c B, y.v, y.s.ch c B, y.t⟩
theorem HStG.mut {H : Hp} {h st p : Addr} {rooms : List Str} {rows : List (List Str)} {faces : List Str} {places : List (List Str)} {us : List V} (y : HStG H h st rooms rows faces places) (hp : H p = some (.lst us)) (us' : List V) : HStG (upd H p (.lst us')) h st rooms rows faces places := ⟨y.h.mut hp us', y.v, y.s.mut hp us', y.t⟩
/-- a part of a tuple that is not the whole -/
theorem slTR {K : PySem.W.Frag} {H : Hp} {a : Addr} {xs ys : List V} {lo hi : Option Int} {Q : VK} (h : SqT K H a xs) (e : cutV xs lo hi = ys) (hl : ys.length ≠ xs.length) (hc : ∀ p H', Same H H' → H' p = some (.tup ys) → Q (.ref p) H') : rSlA K (.ref a) lo hi H Q :=
  slA h fun p H' s z => hc p H' s (by
    rcases z with z | ⟨rfl, rfl, z⟩
    · rw [← e]; exact z
    · exact absurd (by rw [← e, z]) hl)
theorem slTRN {K : PySem.W.Frag} {σ : L2.St} {H : Hp} {a : Addr} {xs ys : List V} {lo : Option Int} {Q : VK} (h : SqT K H a xs) (e : cutV xs lo none = ys) (hl : ys.length ≠ xs.length) (hc : ∀ p H', Same H H' → H' p = some (.tup ys) → Q (.ref p) H') : tNoPart σ H (fun u H3 => rSlA K (.ref a) lo u H3 Q) := slTR h e hl hc
def spRoomIZ (K : PySem.W.Frag) : Sp := fun vs H Q E => ∃ (st : Addr) (x : Str) (faces : List Str) (places : List (List Str)), vs = [.ref st, .str x] ∧ HZ H st faces places ∧ (∀ p ∈ places, ∃ w r : Str, p = [w, r]) ∧
  (∀ (j : Nat) (r : Str), places[j]? = some [x, r] → ∀ H', Same H H' → Q (.str r) H') ∧ (x ∉ places.map hd0 → errW K E "UnknownWalker" "name" (.str x) H)
def spFaceIZ (K : PySem.W.Frag) : Sp := fun vs H Q E => ∃ (h st : Addr) (x : Str) (rooms : List Str) (rows : List (List Str)) (faces : List Str) (places : List (List Str)), vs = [.ref h, .ref st, .str x] ∧ HZ H h rooms rows ∧ HallV rooms rows ∧ HZ H st faces places ∧ faces.length = rows.length ∧
  (∀ (i : Nat) (a b f : Str), rows[i]? = some [x, a, b] → faces[i]? = some f → ∀ H', Same H H' → Q (.str f) H') ∧ (x ∉ rows.map hd0 → errW K E "UnknownDoor" "name" (.str x) H)
def spCanPZ (K : PySem.W.Frag) : Sp := fun vs H Q E => ∃ (h st : Addr) (w x : Str) (rooms : List Str) (rows : List (List Str)) (faces : List Str) (places : List (List Str)), vs = [.ref h, .ref st, .str w, .str x] ∧ HStZ H h st rooms rows faces places ∧
  (w ∉ places.map hd0 → errW K E "UnknownWalker" "name" (.str w) H) ∧ (w ∈ places.map hd0 → x ∉ rows.map hd0 → errW K E "UnknownDoor" "name" (.str x) H) ∧
  (∀ (i j : Nat) (a b f r : Str), rows[i]? = some [x, a, b] → faces[i]? = some f → places[j]? = some [w, r] → ∀ H', Same H H' → Q (.bl (decide (f = r))) H')
def spTurnIZ (K : PySem.W.Frag) : Sp := fun vs H Q E => ∃ (h st : Addr) (x : Str) (rooms : List Str) (rows : List (List Str)) (faces : List Str) (places : List (List Str)), vs = [.ref h, .ref st, .str x] ∧ HStZ H h st rooms rows faces places ∧
  (x ∉ rows.map hd0 → errW K E "UnknownDoor" "name" (.str x) H) ∧ (∀ (i : Nat) (a b f : Str), rows[i]? = some [x, a, b] → faces[i]? = some f → ∀ p H', Same H H' → HZ H' p (faces.set i (oth a b f)) places → Q (.ref p) H')
def spPassIZ (K : PySem.W.Frag) : Sp := fun vs H Q E => ∃ (h st : Addr) (w x : Str) (rooms : List Str) (rows : List (List Str)) (faces : List Str) (places : List (List Str)), vs = [.ref h, .ref st, .str w, .str x] ∧ HStZ H h st rooms rows faces places ∧
  (w ∉ places.map hd0 → errW K E "UnknownWalker" "name" (.str w) H) ∧ (w ∈ places.map hd0 → x ∉ rows.map hd0 → errW K E "UnknownDoor" "name" (.str x) H) ∧
  (∀ (i j : Nat) (a b f r : Str), rows[i]? = some [x, a, b] → faces[i]? = some f → places[j]? = some [w, r] → (f ≠ r → errW K E "Blocked" "index" (.int 0) H) ∧
    (f = r → ∀ p H', Same H H' → HZ H' p (faces.set i (oth a b f)) (places.set j [w, oth a b f]) → Q (.ref p) H'))
def spCanDZ : Sp := fun vs H Q _ => ∃ (h st : Addr) (w x : Str) (rooms : List Str) (rows : List (List Str)) (faces : List Str) (places : List (List Str)), vs = [.ref h, .ref st, .str w, .str x] ∧ HStZ H h st rooms rows faces places ∧
  ((w ∉ places.map hd0 ∨ x ∉ rows.map hd0) → ∀ H', Same H H' → Q (.bl false) H') ∧
  (∀ (i j : Nat) (a b f r : Str), rows[i]? = some [x, a, b] → faces[i]? = some f → places[j]? = some [w, r] → ∀ H', Same H H' → Q (.bl (decide (f = r))) H')
def spRunZ (K : PySem.W.Frag) : Sp := fun vs H Q E => ∃ (h st r : Addr) (rooms : List Str) (rows : List (List Str)) (faces : List Str) (places : List (List Str)) (l : List Deed), vs = [.ref h, .ref st, .ref r] ∧ HStZ H h st rooms rows faces places ∧ Rw K H r l ∧
  (∀ (i : Nat) (p : Deed) (s' : Sta), l[i]? = some p → goM rows (faces, places) (l.take i) = some s' → stp rows s' p = none → errW K E "Blocked" "index" (.int i) H) ∧
  (∀ s', goM rows (faces, places) l = some s' → ∀ p H', Same H H' → HZ H' p s'.1 s'.2 → Q (.ref p) H')
def spLPassG : Sp := fun vs H Q _ => ∃ (h st : Addr) (w x : Str) (rooms : List Str) (rows : List (List Str)) (faces : List Str) (places : List (List Str)), vs = [.ref h, .ref st, .str w, .str x] ∧ HStG H h st rooms rows faces places ∧
  ((w ∉ places.map hd0 ∨ x ∉ rows.map hd0) → ∀ H', Same H H' → Q .non H') ∧
  (∀ (i j : Nat) (a b f r : Str), rows[i]? = some [x, a, b] → faces[i]? = some f → places[j]? = some [w, r] → (f ≠ r → ∀ H', Same H H' → Q .non H') ∧
    (f = r → ∀ p H', Same H H' → HS H' p (faces.set i (oth a b f)) (places.set j [w, oth a b f]) → Q (.ref p) H'))
def spDeedsLG : Sp := fun vs H Q _ => ∃ (h st : Addr) (rooms : List Str) (rows : List (List Str)) (faces : List Str) (places : List (List Str)), vs = [.ref h, .ref st] ∧ HStG H h st rooms rows faces places ∧
  ∀ p l H', H p = none → Same H H' → RowL H' p l → DoL rows (faces, places) l → l.length ≤ 60 → Q (.ref p) H'
def spWalkLG : Sp := fun vs H Q _ => ∃ (b h st : Addr) (m : Int) (rooms : List Str) (rows : List (List Str)) (faces : List Str) (places : List (List Str)), vs = [.ref b, .ref h, .ref st, .int m] ∧ Box H b ∧ HStG H h st rooms rows faces places ∧ 0 ≤ m ∧ m ≤ 60 ∧
  ∀ p rp sp l s' H', H' p = some (.tup [.ref rp, .ref sp]) → H rp = none → RowL H' rp l → HG H' sp s'.1 s'.2 → goM rows (faces, places) l = some s' → StV rooms rows s'.1 s'.2 → (l.length : Int) ≤ m → NmD l → Box H' b → Ch b H H' → Q (.ref p) H'
def spHallY : Sp := fun vs H Q _ => ∃ (b : Addr) (m1 m2 : Int), vs = [.ref b, .int m1, .int m2] ∧ Box H b ∧ 1 ≤ m1 ∧ m1 ≤ 8 ∧ 0 ≤ m2 ∧ m2 ≤ 12 ∧
  ∀ p rooms rows H', HZ H' p rooms rows → HallV rooms rows → (rooms.length : Int) ≤ m1 → (rows.length : Int) ≤ m2 → Box H' b → Ch b H H' → Q (.ref p) H'
def spStateY : Sp := fun vs H Q _ => ∃ (b h : Addr) (m : Int) (rooms : List Str) (rows : List (List Str)), vs = [.ref b, .ref h, .int m] ∧ Box H b ∧ HZ H h rooms rows ∧ HallV rooms rows ∧ 0 ≤ m ∧ m ≤ 5 ∧
  ∀ p faces places H', HZ H' p faces places → StV rooms rows faces places → (places.length : Int) ≤ m → Box H' b → Ch b H H' → Q (.ref p) H'
def spCrowdY : Sp := fun vs H Q _ => ∃ (h st : Addr) (rooms : List Str) (rows : List (List Str)) (faces : List Str) (places : List (List Str)), vs = [.ref h, .ref st] ∧ HZ H h rooms rows ∧ HallV rooms rows ∧ HZ H st faces places ∧ StV rooms rows faces places ∧
  ∀ p H', Same H H' → H' p = some (.tup ((crN rooms places).map V.int)) → Q (.ref p) H'
def spCountsY : Sp := fun vs H Q _ => ∃ (h st : Addr) (rooms : List Str) (rows : List (List Str)) (faces : List Str) (places : List (List Str)), vs = [.ref h, .ref st] ∧ HZ H h rooms rows ∧ HallV rooms rows ∧ HZ H st faces places ∧ StV rooms rows faces places ∧
  ∀ p H', Same H H' → H' p = some (.tup ((coN rooms faces places).map V.int)) → Q (.ref p) H'
def spEndsY (K : PySem.W.Frag) : Sp := fun vs H Q E => ∃ (h : Addr) (x : Str) (rooms : List Str) (rows : List (List Str)), vs = [.ref h, .str x] ∧ HZ H h rooms rows ∧ HallV rooms rows ∧
  (∀ (i : Nat) (a b : Str), rows[i]? = some [x, a, b] → ∀ p H', Same H H' → H' p = some (.tup [.str a, .str b]) → Q (.ref p) H') ∧ (x ∉ rows.map hd0 → errW K E "UnknownDoor" "name" (.str x) H)
section
variable {X : Cx}
def rIdxT (K : PySem.W.Frag) : V → List V → Hp → VK → Prop := fun x zs H Q => ∃ (a : Addr) (ss : List Str) (k : Str) (j : Nat), x = .ref a ∧ zs = [.str k] ∧ SqT K H a (ss.map V.str) ∧ ss[j]? = some k ∧ (∀ m, m < j → ss[m]? ≠ some k) ∧ Q (.int (j : Nat)) H
theorem mt_indexT : MtR X "tuple.index" (rIdxT X.K) := by
  intro pins s σ H x xs v us Q I rx rxs h
  obtain ⟨p, ss, k, j, rfl, rfl, hs, hj, hno, q⟩ := h
  cases rx
  obtain ⟨u, rfl, t, rfl⟩ := rxs.one
  obtain ⟨its, rv, ⟨⟨c, dd, dt, sl⟩, ho, hc, n, hd⟩, _⟩ := I.tuple hs
  simp only at hc hd
  subst hc hd
  have hvl : ss.length = its.length := by rw [← rv.length, List.length_map]
  have hjs : j < ss.length := (List.getElem?_eq_some_iff.mp hj).1
  have at_ : ∀ (m : Nat) (s' : Str), ss[m]? = some s' → ∃ tk, its[m]? = some (.str s' tk) := fun m s' hm => by
    obtain ⟨u, hu, ru⟩ := rv.get (show (ss.map V.str)[m]? = some (.str s') by rw [List.getElem?_map, hm]; rfl)
    obtain ⟨tk, rfl⟩ := ru
    exact ⟨tk, hu⟩
  refine call_meets PySem.F.slot_tuple_index ⟨_, ho, rfl⟩ PySem.F.entry_tuple_index (PySem.F.args_tuple_index_2 _ _)
    (PySem.SeqAt.tuple_index2_found p its.toArray n dd sl (.str k t) (fun m => eqT k ((its[m]?).getD .none)) j (by simpa using (by omega : j < its.length)) (Nat.zero_le _) (by simpa using (by omega : j < its.length)) ?_ ?_) ⟨ho, fun m hm => ?_, ?_⟩
  · obtain ⟨tk, e⟩ := at_ j k hj
    show eqT k ((its[j]?).getD .none) = true
    rw [e]
    exact beq_self_eq_true k
  · intro m hm _ hmj
    have hms : m < ss.length := by omega
    obtain ⟨tk, e⟩ := at_ m _ (List.getElem?_eq_getElem hms)
    show eqT k ((its[m]?).getD .none) = false
    rw [e]
    exact beq_eq_false_iff_ne.mpr fun z => hno m hmj (by rw [List.getElem?_eq_getElem hms, z])
  · have hml : m < its.length := by simpa using hm
    have e1 : its.toArray[m] = its[m] := by simp
    have e2 : (its[m]?).getD .none = its[m] := by rw [List.getElem?_eq_getElem hml]; rfl
    rw [e1, e2]
    exact (eqT_gives rv _ (List.getElem_mem hml)).at _ _
  · exact ⟨.int (j : Nat), H, I.tok _, ⟨_, rfl⟩, q⟩
def tIdxZ (K : PySem.W.Frag) (to : TE) (t : TA) : TE := fun σ H Q => to σ H fun x H1 => (∃ a xs, x = .ref a ∧ TZ H1 a xs) ∧ t σ H1 fun zs H2 => rIdxT K x zs H2 Q
variable {o e : Expr} {es : List Expr} {to : TE} {t : TA} {apos cpos : Pos}
theorem pe_idxZ (ho : PE X o to) (ha : PA X (e :: es) t)
    (hbase : attributeBase o "index" X.env (eval o X.env) = eval o X.env := by rfl)
    (hfew : ((backTo cpos (starEach (e :: es) X.env)).all (fun x => !x.1) && (backToKw cpos (keywordEach [] X.env)).all (fun x => x.1.isSome)
      && decide ((e :: es).length + ([] : List Keyword).length + (if ([] : List Keyword).isEmpty then 0 else 1) < 30)) = true := by rfl)
    (hline : (apos.endLine == cpos.line) = true := by rfl) (hs : starEach (e :: es) X.env = (false, eval e X.env) :: starEach es X.env := by rfl) (hplain : (backTo cpos (starEach es X.env)).any (·.1) = false := by rfl) :
    PE X (.Call (.Attribute o "index" apos) (e :: es) [] cpos) (tIdxZ X.K to t) := by
  refine ⟨fun pins s σ H Q I h => ?_⟩
  refine wpAny_Call_method_late hbase hfew hline rfl (thn (ho.run pins s σ H _ I h) fun v s1 ⟨x, H1, I1, r1, ty, q1⟩ => ?_)
  obtain ⟨a, xs, rfl, hz⟩ := ty
  obtain ⟨h1, h2⟩ := tz_is I1 r1 hz
  refine ⟨"tuple", "tuple.index", PySem.F.plainAttrs_tuple, PySem.F.slot_tuple_index, PySem.F.type_tuple_index, h1, h2, ?_⟩
  have hA := ha.run cpos pins s1 σ H1 _ I1 q1
  rw [hs] at hA ⊢
  refine Calls.callWith_builtin (by show (false || (backTo cpos (starEach es X.env)).any (·.1)) = false; rw [hplain] <;> rfl) (Calls.evalArgs_plain ?_)
  exact thn hA fun us s2 ⟨vs, H2, I2, r2, q2⟩ => mt_indexT pins s2 σ H2 (.ref a) vs v us Q I2 r1 r2 q2
end
end Td
set_option maxHeartbeats 4000000
namespace Td
open PySem PySem.Spec PyProof.Rows L2 LamX NdefX
theorem HZ.nx {T : List (Addr × Str)} {H H' : Hp} {h : Addr} {ss : List Str} {rows : List (List Str)} (n : Nx T H H') (x : HZ H h ss rows) : HZ H' h ss rows := by
  obtain ⟨r, d, h1, h2, h3⟩ := x
  exact ⟨r, d, n.tu _ _ h1, h2.nx n, h3.tu n.tu⟩
/-- a hall and a state of it whose faces are kept as they are -/
structure HSy (H : Hp) (h st : Addr) (rooms : List Str) (rows : List (List Str)) (faces : List Str) (places : List (List Str)) : Prop where
  h : HS H h rooms rows
  v : HallV rooms rows
  s : HZ H st faces places
  t : StV rooms rows faces places
theorem HSy.nx {T : List (Addr × Str)} {H H' : Hp} {h st : Addr} {rooms : List Str} {rows : List (List Str)} {faces : List Str} {places : List (List Str)} (n : Nx T H H') (x : HSy H h st rooms rows faces places) : HSy H' h st rooms rows faces places := ⟨x.h.tu n.tu, x.v, x.s.nx n, x.t⟩
theorem HSy.same {H H' : Hp} {h st : Addr} {rooms : List Str} {rows : List (List Str)} {faces : List Str} {places : List (List Str)} (n : Same H H') (x : HSy H h st rooms rows faces places) : HSy H' h st rooms rows faces places := ⟨x.h.tu (Tu.same n), x.v, x.s.same n, x.t⟩
/-- the rooms that are found -/
def spReach (K : PySem.W.Frag) (T : List (Addr × Str)) : Sp := fun vs H Q E => ∃ (h st : Addr) (w : Str) (rooms : List Str) (rows : List (List Str)) (faces : List Str) (places : List (List Str)), vs = [.ref h, .ref st, .str w] ∧ HSy H h st rooms rows faces places ∧ Tabs T H ∧
  (w ∉ places.map hd0 → errW K E "UnknownWalker" "name" (.str w) H) ∧
  (∀ (j : Nat) (r : Str), places[j]? = some [w, r] → ∀ p fd H', Nx T H H' → Spd (outs rows faces) r fd → H' p = some (.tup ((rooms.filter fun x => decide (x ∈ ks fd)).map V.str)) → Q (.ref p) H')
def spChkRI (K : PySem.W.Frag) : Sp := fun vs H Q E => ∃ (h : Addr) (x : Str) (rooms : List Str) (rows : List (List Str)), vs = [.ref h, .str x] ∧ HS H h rooms rows ∧
  (x ∈ rooms → ∀ H', Same H H' → Q .non H') ∧ (x ∉ rooms → errW K E "UnknownRoom" "name" (.str x) H)
def spPath (K : PySem.W.Frag) (T : List (Addr × Str)) : Sp := fun vs H Q E => ∃ (h st : Addr) (w x : Str) (rooms : List Str) (rows : List (List Str)) (faces : List Str) (places : List (List Str)), vs = [.ref h, .ref st, .str w, .str x] ∧ HSy H h st rooms rows faces places ∧ Tabs T H ∧
  (w ∉ places.map hd0 → errW K E "UnknownWalker" "name" (.str w) H) ∧ (w ∈ places.map hd0 → x ∉ rooms → errW K E "UnknownRoom" "name" (.str x) H) ∧
  (∀ (j : Nat) (r : Str), places[j]? = some [w, r] → x ∈ rooms → ∀ fd H', Nx T H H' → Spd (outs rows faces) r fd → (∀ p a, (x, p) ∈ fd → H' a = some (.tup (p.map V.str)) → Q (.ref a) H') ∧ (x ∉ ks fd → Q .non H'))
section
variable {P : Program} {w : World} {K : PySem.W.Frag} {mg : Str → Option Value} {base : Heap} {f : Addr} {fd : FuncData} {T : List (Addr × Str)}
abbrev s_check_room : Stmt := top 8
abbrev n_check_room : List Str := ["hall", "room"]
theorem sc_check_room : FnScope n_check_room ["hall", "room"] (defScope s_check_room) := ⟨rfl, rfl, rfl, by decide +kernel, rfl, by decide +kernel, by decide +kernel⟩
theorem ok_check_room (F : FnP K "check_room" s_check_room f fd) (hm : mg "check_room" = some (.ref f)) (M_UnknownRoom : ErrM P w K mg base "UnknownRoom") :
    CalX P w K mg base 3 "check_room" (spChkRI K) := by
  refine ⟨f, fd, ["hall", "room"], F.ok (CX := L2.CX P w) sc_check_room (fun vs H Q E h => ?_) (fun cdv A outer s H vs Q E hr h => ?_), hm, F.kp, F.bindsN (ps := ["hall", "room"]) fun _ _ _ _ _ _ us hl => match us, hl with | [_, _], _ => rfl⟩
  · obtain ⟨h, x, rooms, rows, rfl, hH, q1, q2⟩ := h
    rfl
  obtain ⟨h, x, rooms, rows, rfl, hH, q1, q2⟩ := h
  have nd := sc_check_room.nd
  refine ⟨_, (pss_one (ps_if (pt_cmpR (r := rIn K true) op_notIn_seq (pv 1) (pe_ix (r := rIxT K) ix_tup (pv 0) pe_int (fun _ _ => rfl)) (by rfl)) (pss_one (ps_raise rfl (takes_of rfl rfl rfl rfl) (pmk_err M_UnknownRoom hr (by omega) (by rfl) (pa_cons (pv 1) pa_nil)))) pss_nil)), ?_⟩
  obtain ⟨r, d, h1, h2, as, h3, hRA⟩ := hH
  refine ⟨_, rfl, _, rfl, h, _, _, _, rfl, rfl, SqT.of h1, atI_nat (j := 0) rfl, r, _, rfl, .inr (SqT.of h2), rfl, flat_strs _, _, rfl, ?_⟩
  have ng : (if true = true then !inV (.str x) (rooms.map V.str) else inV (.str x) (rooms.map V.str)) = !decide (x ∈ rooms) := by rw [if_pos rfl, inV_str]
  by_cases hx : x ∈ rooms
  · rw [ng, decide_eq_true hx]
    refine iteF ?_
    exact q1 hx H (Same.refl H)
  · rw [ng, decide_eq_false hx]
    refine iteT ?_
    exact ⟨_, rfl, mk_end_k fun d hd => q2 hx H (Same.refl H) d hd⟩
abbrev s_room_of : Stmt := top 10
abbrev n_room_of : List Str := ["state", "walker", "name", "room"]
theorem sc_room_of : FnScope n_room_of ["state", "walker"] (defScope s_room_of) := ⟨rfl, rfl, rfl, by decide +kernel, rfl, by decide +kernel, by decide +kernel⟩
theorem ok_room_of (F : FnP K "room_of" s_room_of f fd) (hm : mg "room_of" = some (.ref f)) (M_UnknownWalker : ErrM P w K mg base "UnknownWalker") :
    CalX P w K mg base 3 "room_of" (spRoomIZ K) := by
  refine ⟨f, fd, ["state", "walker"], F.ok (CX := L2.CX P w) sc_room_of (fun vs H Q E h => ?_) (fun cdv A outer s H vs Q E hr h => ?_), hm, F.kp, F.bindsN (ps := ["state", "walker"]) fun _ _ _ _ _ _ us hl => match us, hl with | [_, _], _ => rfl⟩
  · obtain ⟨st, x, faces, places, rfl, hS, hp, q1, q2⟩ := h
    rfl
  obtain ⟨st, x, faces, places, rfl, hS, hp, q1, q2⟩ := h
  have nd := sc_room_of.nd
  refine ⟨_, (pss_cons (ps_for (passes_of rfl) rfl (pi_tup (pe_ix (r := rIxT K) ix_tup (pv 0) pe_int (fun _ _ => rfl))) (pg_tup (by rfl) (pgs_cons (pg_name (i := 2) nd rfl (Or.inl rfl)) (pgs_cons (pg_name (i := 3) nd rfl (Or.inl rfl)) pgs_nil))) (pss_one (ps_if (pt_cmpR op_eq (pv 2) (pv 1) (nomark _)) (pss_one (ps_ret (pv 3))) pss_nil)))
    (pss_one (ps_raise rfl (takes_of rfl rfl rfl rfl) (pmk_err M_UnknownWalker hr (by omega) (by rfl) (pa_cons (pv 1) pa_nil))))), ?_⟩
  obtain ⟨fa, pl, h1, h2, as, h3, hRA⟩ := hS
  have hal : (as.map V.ref).length = places.length := by rw [List.length_map]; exact hRA.1
  refine ⟨_, rfl, st, _, _, _, rfl, rfl, SqT.of h1, atI_nat (j := 1) rfl, pl, rfl, ⟨_, SqT.of h3⟩, ?_⟩
  refine for_tup (K := K) (a := pl) (xs := as.map V.ref) (fun i σ' H' => (∃ v2 v3 : Option V, σ' = [some (.ref st), some (.str x), v2, v3]) ∧ Same H H' ∧ x ∉ (places.take i).map hd0) ⟨⟨none, none, rfl⟩, Same.refl H, by simp⟩ (fun i σ' H' _ ⟨_, sx, _⟩ => SqT.of (sx _ _ h3)) (fun i y σ' H' hy hP => ?_) (fun σ' H' hP => ?_)
  · obtain ⟨⟨v2, v3, rfl⟩, sx, nf⟩ := hP
    obtain ⟨a, p, rfl, hpi, hpa⟩ := hRA.row hy
    obtain ⟨n, e1, rfl⟩ := hp p (List.mem_of_getElem? hpi)
    refine ⟨a, _, rfl, SqT.of (sx _ _ hpa), rfl, _, _, rfl, _, _, rfl, rfl, ?_⟩
    refine ⟨_, rfl, _, rfl, rfl, _, rfl, ?_⟩
    by_cases e : n = x
    · rw [decide_eq_true (show V.str n = V.str x by rw [e])]
      refine iteT ?_
      exact ⟨_, rfl, q1 i e1 (by rw [hpi, e]) _ sx⟩
    · rw [decide_eq_false (fun z => e (V.str.inj z))]
      refine iteF ?_
      exact ⟨⟨_, _, rfl⟩, sx, no_before hpi e nf⟩
  · obtain ⟨⟨v2, v3, rfl⟩, sx, nf⟩ := hP
    rw [hal, List.take_length] at nf
    exact ⟨_, rfl, mk_end_k fun d hd => q2 nf H' sx d hd⟩
abbrev s_reach : Stmt := top 18
abbrev n_reach : List Str := ["hall", "state", "walker", "ways", "room"]
theorem sc_reach : FnScope n_reach ["hall", "state", "walker"] (defScope s_reach) := ⟨rfl, rfl, rfl, by decide +kernel, rfl, by decide +kernel, by decide +kernel⟩
theorem ok_reach (F : FnP K "reach" s_reach f fd) (hm : mg "reach" = some (.ref f)) (c_room_of : CalX P w K mg base 3 "room_of" (spRoomIZ K)) (c_ways_from : Cal P w K mg base 5 "ways_from" (spFrom T)) (m_tuple : mg "tuple" = none) :
    CalX P w K mg base 6 "reach" (spReach K T) := by
  refine ⟨f, fd, ["hall", "state", "walker"], F.ok (CX := L2.CX P w) sc_reach (fun vs H Q E h => ?_) (fun cdv A outer s H vs Q E hr h => ?_), hm, F.kp, F.bindsN (ps := ["hall", "state", "walker"]) fun _ _ _ _ _ _ us hl => match us, hl with | [_, _, _], _ => rfl⟩
  · obtain ⟨h, st, wk, rooms, rows, faces, places, rfl, hs, hT, q1, q2⟩ := h
    rfl
  obtain ⟨h, st, wk, rooms, rows, faces, places, rfl, hs, hT, q1, q2⟩ := h
  have nd := sc_reach.nd
  refine ⟨_, (pss_cons (ps_set (i := 3) nd rfl (Or.inr rfl) (C8.pe_c c_ways_from hr (by omega) (by rfl) (pa_cons (pv 0) (pa_cons (pe_ix (r := rIxT K) ix_tup (pv 1) pe_int (fun _ _ => rfl)) (pa_cons (pe_cX c_room_of hr (by omega) (fun σ => passAt (takes_of rfl rfl rfl rfl) σ) (by rfl) (pa_cons (pv 1) (pa_cons (pv 2) pa_nil))) pa_nil)))))
    (pss_one (ps_ret (pe_callTy (r := rTpOf K) call_tuple_of (by rfl) m_tuple (by decide +kernel) (pa_cons (pe_lc (own := [("room", 4)]) (g := (gName 4)) (by rfl) nd (pi_tup (pe_ix (r := rIxT K) ix_tup (pv 0) pe_int (fun _ _ => rfl))) (blkOk_by (own := [("room", 4)]) (N := n_reach) (sc := defScope s_reach) (by decide +kernel)) (fun _ _ _ _ _ => (pg_name (i := 4) nd rfl (Or.inl rfl))) (fun _ _ _ _ _ => (pts_one (pt_cmp (pc_din (hu_of hr) (pv 4) (pv 3))))) (fun _ _ _ _ _ => (pv 4))) pa_nil))))), ?_⟩
  obtain ⟨fa, pl, g1, g2, g3⟩ := id hs.s
  have hpl : ∀ p ∈ places, ∃ w r : Str, p = [w, r] := fun p hp => by
    obtain ⟨w, r, e, _⟩ := hs.t.pl p hp
    exact ⟨w, r, e⟩
  have r8 := hs.v.r8
  refine ⟨_, rfl, _, rfl, st, _, _, _, rfl, rfl, SqT.of g1, atI_nat (j := 0) rfl, _, rfl, _, rfl, st, wk, faces, places, rfl, hs.s, hpl, fun j r hj H1 s1 => ?_, fun h => q1 h⟩
  have hrr : r ∈ rooms := by
    obtain ⟨w, r', e, _, h⟩ := hs.t.pl _ (List.mem_of_getElem? hj)
    cases e
    exact h
  refine ⟨h, fa, r, rooms, rows, faces, rfl, hs.h.tu (Tu.same s1), hs.v, g2.same s1, hs.t.fl, hrr, Tabs.same hT s1, fun D m fd2 H2 n2 _ hDi hS hU => ?_⟩
  have n02 : Nx T H H2 := (Nx.same (Nx.refl hT) s1).trans n2
  obtain ⟨ra, da, h1, h2, h3⟩ := hs.h.tu n02.tu
  refine ⟨_, rfl, h, _, _, _, rfl, rfl, SqT.of h1, atI_nat (j := 0) rfl, ra, rfl, ⟨_, SqT.of h2⟩, fun B hB => ?_⟩
  refine lc_tup (K := K) (a := ra) (xs := rooms.map V.str) (fun k Hx => Same H2 Hx ∧ Hx B = some (.lst (((rooms.take k).filter fun x => decide (x ∈ ks fd2)).map V.str))) ⟨same_new hB _, upd_same⟩ (fun k Hx _ ⟨sy, _⟩ => SqT.of (sy _ _ h2)) (fun k y Hx hy ⟨sy, hBx⟩ => ?_) (fun Hx ⟨sy, hBx⟩ => ?_)
  · obtain ⟨x, hx, rfl⟩ : ∃ x, rooms[k]? = some x ∧ V.str x = y := by
      rw [List.getElem?_map] at hy
      cases z : rooms[k]? with
      | none => rw [z] at hy; cases hy
      | some x => rw [z] at hy; exact ⟨x, rfl, Option.some.inj hy⟩
    have hDx := hDi.same sy
    refine ⟨rfl, _, rfl, _, rfl, D, _, rfl, DGet.k (k := Sum.inr x) hDx.at_, _, rfl, ?_⟩
    rw [hDx.is hS.nd, take_snoc hx, List.filter_append, List.map_append]
    by_cases z : x ∈ ks fd2
    · rw [decide_eq_true z]
      refine iteT ⟨_, rfl, _, hBx, ?_, same_mut sy hB _, ?_⟩
      · rw [List.length_map]
        exact sz100 (Nat.le_trans (List.length_filter_le _ _) (by rw [List.length_take]; omega))
      · rw [upd_same, show List.filter (fun x : Str => decide (x ∈ ks fd2)) [x] = [x] from List.filter_cons_of_pos (decide_eq_true z)]
        rfl
    · rw [decide_eq_false z]
      refine iteF ⟨sy, ?_⟩
      rw [show List.filter (fun x : Str => decide (x ∈ ks fd2)) [x] = [] from List.filter_cons_of_neg (by rw [decide_eq_true_iff]; exact z), List.map_nil, List.append_nil]
      exact hBx
  rw [List.length_map, List.take_length] at hBx
  refine ⟨B, _, rfl, .inl ⟨SqL.of hBx, fun t ht => ?_⟩⟩
  exact q2 j r hj t fd2 _ (n02.same (sy.trans (same_new ht _))) hS upd_same
abbrev s_path : Stmt := top 19
abbrev n_path : List Str := ["hall", "state", "walker", "room", "start"]
theorem sc_path : FnScope n_path ["hall", "state", "walker", "room"] (defScope s_path) := ⟨rfl, rfl, rfl, by decide +kernel, rfl, by decide +kernel, by decide +kernel⟩
theorem ok_path (F : FnP K "path" s_path f fd) (hm : mg "path" = some (.ref f)) (c_check_room : CalX P w K mg base 3 "check_room" (spChkRI K)) (c_room_of : CalX P w K mg base 3 "room_of" (spRoomIZ K)) (c_ways_from : Cal P w K mg base 5 "ways_from" (spFrom T)) :
    CalX P w K mg base 6 "path" (spPath K T) := by
  refine ⟨f, fd, ["hall", "state", "walker", "room"], F.ok (CX := L2.CX P w) sc_path (fun vs H Q E h => ?_) (fun cdv A outer s H vs Q E hr h => ?_), hm, F.kp, F.bindsN (ps := ["hall", "state", "walker", "room"]) fun _ _ _ _ _ _ us hl => match us, hl with | [_, _, _, _], _ => rfl⟩
  · obtain ⟨h, st, wk, x, rooms, rows, faces, places, rfl, hs, hT, q1, q2, q3⟩ := h
    rfl
  obtain ⟨h, st, wk, x, rooms, rows, faces, places, rfl, hs, hT, q1, q2, q3⟩ := h
  have nd := sc_path.nd
  refine ⟨_, (pss_cons (ps_set (i := 4) nd rfl (Or.inl rfl) (pe_cX c_room_of hr (by omega) (fun σ => passAt (takes_of rfl rfl rfl rfl) σ) (by rfl) (pa_cons (pv 1) (pa_cons (pv 2) pa_nil))))
    (pss_cons (ps_expr (pe_cX c_check_room hr (by omega) (fun σ => passAt (takes_of rfl rfl rfl rfl) σ) (by rfl) (pa_cons (pv 0) (pa_cons (pv 3) pa_nil))))
    (pss_one (ps_ret (pe_dget1 (hu_of hr) (C8.pe_c c_ways_from hr (by omega) (by rfl) (pa_cons (pv 0) (pa_cons (pe_ix (r := rIxT K) ix_tup (pv 1) pe_int (fun _ _ => rfl)) (pa_cons (pv 4) pa_nil)))) (pv 3) ⟨by rfl, by rfl, by rfl, by rfl⟩))))), ?_⟩
  obtain ⟨fa, pl, g1, g2, g3⟩ := id hs.s
  have hpl : ∀ p ∈ places, ∃ w r : Str, p = [w, r] := fun p hp => by
    obtain ⟨w, r, e, _⟩ := hs.t.pl p hp
    exact ⟨w, r, e⟩
  refine ⟨_, rfl, _, rfl, st, wk, faces, places, rfl, hs.s, hpl, fun j r hj H1 s1 => ?_, fun h => q1 h⟩
  have hw : wk ∈ places.map hd0 := List.mem_map.mpr ⟨_, List.mem_of_getElem? hj, rfl⟩
  have hrr : r ∈ rooms := by
    obtain ⟨w, r', e, _, h⟩ := hs.t.pl _ (List.mem_of_getElem? hj)
    cases e
    exact h
  refine ⟨_, rfl, _, rfl, h, x, rooms, rows, rfl, hs.h.tu (Tu.same s1), fun hx H2 s2 => ?_, fun hx => (q2 hw hx).same s1⟩
  have s02 := s1.trans s2
  refine ⟨_, rfl, _, rfl, st, _, _, _, rfl, rfl, SqT.of (s02 _ _ g1), atI_nat (j := 0) rfl, _, rfl, h, fa, r, rooms, rows, faces, rfl, hs.h.tu (Tu.same s02), hs.v, g2.same s02, hs.t.fl, hrr, Tabs.same hT s02, fun D m fd2 H3 n3 _ hDi hS hU => ?_⟩
  have n03 : Nx T H H3 := (Nx.same (Nx.refl hT) s02).trans n3
  obtain ⟨k1, k2⟩ := q3 j r hj hx fd2 H3 n03 hS
  refine ⟨D, rfl, .inl ⟨_, .inl hDi.at_⟩, _, rfl, _, DGet.k (k := Sum.inr x) hDi.at_, ?_⟩
  by_cases z : x ∈ ks fd2
  · obtain ⟨e, he, rfl⟩ := List.mem_map.mp z
    obtain ⟨a, ha, hp⟩ := hDi.get hS.nd (x := e.1) (p := e.2) he
    rw [ha]
    exact k1 e.2 a he hp
  · rw [hDi.no z]
    exact k2 z
end
end Td
set_option maxHeartbeats 4000000
namespace Td
open PySem PySem.Spec PyProof.Rows L2
/-! ### a new thing is kept as it is -/
def tKeepE (t : TE) : TE := fun σ H Q => t σ H fun v H1 => ∃ d u, v = .ref d ∧ H1 d = some u ∧ Mut (some u) ∧ ∀ od, Q v (upd H1 d (.frz od u))
theorem pe_keep {X : Cx} {e : Expr} {t : TE} (h : PE X e t) : PE X e (tKeepE t) := by
  refine ⟨fun pins s σ H Q I hw => thn (h.run pins s σ H _ I hw) fun v s1 z => ?_⟩
  obtain ⟨x, H1, I1, r, d, u, rfl, hd, mu, q⟩ := z
  obtain ⟨od, I2⟩ := I1.lock hd mu
  exact ⟨.ref d, _, I2, r, q od⟩
/-! ### reaches: who has a common room with whom -/
abbrev Rs := List (Str × List Str)
def lk (rs : Rs) (w : Str) : List Str := ((rs.find? fun e => e.1 == w).map (·.2)).getD []
theorem lk_of : ∀ {rs : Rs} {w : Str} {m : List Str}, (ks rs).Nodup → (w, m) ∈ rs → lk rs w = m
  | [], _, _, _, h => nomatch h
  | p :: r, w, m, nd, h => by
    have nd' := List.nodup_cons.mp (show (p.1 :: ks r).Nodup from nd)
    unfold lk
    rcases List.mem_cons.mp h with q | q
    · rw [← q, List.find?_cons_of_pos (p := fun e : Str × List Str => e.1 == w) (a := (w, m)) (beq_self_eq_true w)]
      rfl
    · have ne : ¬ (p.1 == w) = true := fun z => nd'.1 (by rw [beq_iff_eq.mp z]; exact ks_mem q)
      rw [List.find?_cons_of_neg (p := fun e : Str × List Str => e.1 == w) ne]
      exact lk_of nd'.2 q
def nbr (rs : Rs) : Stp := fun w => (rs.filter fun e => e.2.any fun x => decide (x ∈ lk rs w)).map fun e => [e.1, e.1]
theorem nbr_mem {rs : Rs} {w : Str} {r : List Str} : r ∈ nbr rs w ↔ ∃ e ∈ rs, r = [e.1, e.1] ∧ ∃ x ∈ e.2, x ∈ lk rs w := by
  unfold nbr
  rw [List.mem_map]
  constructor
  · rintro ⟨e, he, rfl⟩
    obtain ⟨h1, h2⟩ := List.mem_filter.mp he
    obtain ⟨x, h3, h4⟩ := List.any_eq_true.mp h2
    exact ⟨e, h1, rfl, x, h3, of_decide_eq_true h4⟩
  · rintro ⟨e, h1, rfl, x, h3, h4⟩
    exact ⟨e, List.mem_filter.mpr ⟨h1, List.any_eq_true.mpr ⟨x, h3, decide_eq_true h4⟩⟩, rfl⟩
def Cn (rs : Rs) (u v : Str) : Prop := ∃ q, Wk (nbr rs) u q v
theorem Cn.refl (rs : Rs) (u : Str) : Cn rs u u := ⟨[], .nil⟩
theorem Cn.trans {rs : Rs} {u v w : Str} (a : Cn rs u v) (b : Cn rs v w) : Cn rs u w := by
  obtain ⟨p, hp⟩ := a
  obtain ⟨q, hq⟩ := b
  exact ⟨_, hp.app hq.wf⟩
theorem Cn.mem {rs : Rs} {u v : Str} (hu : u ∈ ks rs) (h : Cn rs u v) : v ∈ ks rs := by
  obtain ⟨q, h⟩ := h
  induction h with
  | nil => exact hu
  | snoc _ g _ =>
    obtain ⟨e, he, q, _⟩ := nbr_mem.mp g
    cases q
    exact ks_mem he
theorem Cn.share {rs : Rs} (nd : (ks rs).Nodup) {u v x : Str} (hu : u ∈ ks rs) (hv : v ∈ ks rs) (h1 : x ∈ lk rs u) (h2 : x ∈ lk rs v) : Cn rs u v := by
  obtain ⟨e, he, rfl⟩ := List.mem_map.mp hv
  refine ⟨[] ++ [e.1], Wk.nil.snoc (nbr_mem.mpr ⟨e, he, rfl, x, ?_, h1⟩)⟩
  rw [lk_of (m := e.2) nd he] at h2
  exact h2
theorem Cn.symm {rs : Rs} (nd : (ks rs).Nodup) {u v : Str} (hu : u ∈ ks rs) (h : Cn rs u v) : Cn rs v u := by
  obtain ⟨q, h⟩ := h
  induction h with
  | nil => exact Cn.refl rs u
  | @snoc p x l y hw g ih =>
    have hx := Cn.mem hu ⟨_, hw⟩
    obtain ⟨e, he, q, z, h1, h2⟩ := nbr_mem.mp g
    cases q
    have h1' : z ∈ lk rs e.1 := by rw [lk_of (m := e.2) nd he]; exact h1
    exact (Cn.share nd (ks_mem he) hx h1' h2).trans ih
noncomputable def cnb (rs : Rs) (u v : Str) : Bool := @decide (Cn rs u v) (Classical.propDecidable _)
theorem cnb_iff {rs : Rs} {u v : Str} : cnb rs u v = true ↔ Cn rs u v := by
  unfold cnb
  exact @decide_eq_true_iff _ (Classical.propDecidable _)
theorem cnb_ext {rs : Rs} {u v w x : Str} (h : Cn rs u v ↔ Cn rs w x) : cnb rs u v = cnb rs w x := by
  rw [Bool.eq_iff_iff, cnb_iff, cnb_iff]
  exact h
/-- those of one's band -/
noncomputable def cm (rs : Rs) (w : Str) : List Str := (ks rs).filter fun v => cnb rs w v
theorem cm_mem {rs : Rs} {w v : Str} : v ∈ cm rs w ↔ v ∈ ks rs ∧ Cn rs w v := by
  unfold cm
  rw [List.mem_filter, cnb_iff]
theorem cm_asc {rs : Rs} (h : AscS (ks rs)) (w : Str) : AscS (cm rs w) := h.sublist List.filter_sublist
theorem cm_sorted {rs : Rs} (h : AscS (ks rs)) {w : Str} (hw : w ∈ ks rs) {fd : List (Str × List Str)} (S : Spd (nbr rs) w fd) {ys : List Str} (hp : ys.Perm (ks fd)) (hs : sortedS ys = true) : ys = cm rs w :=
  asc_unique (asc_sorted hs (hp.nodup_iff.mpr S.nd)) (cm_asc h w) fun x => by
    rw [hp.mem_iff, S.iff, cm_mem]
    exact ⟨fun z => ⟨Cn.mem hw z, z⟩, fun z => z.2⟩
theorem cm_eq {rs : Rs} (nd : (ks rs).Nodup) {u w : Str} (hu : u ∈ ks rs) (h : Cn rs u w) : cm rs u = cm rs w := by
  unfold cm
  exact List.filter_congr fun v _ => cnb_ext ⟨fun z => (h.symm nd hu).trans z, fun z => h.trans z⟩
/-- the rooms of one's band -/
noncomputable def gr (rooms : List Str) (rs : Rs) (w : Str) : List Str := rooms.filter fun x => (cm rs w).any fun m => decide (x ∈ lk rs m)
theorem gr_mem {rooms : List Str} {rs : Rs} {w x : Str} : x ∈ gr rooms rs w ↔ x ∈ rooms ∧ ∃ m ∈ cm rs w, x ∈ lk rs m := by
  unfold gr
  rw [List.mem_filter, List.any_eq_true]
  exact ⟨fun ⟨a, m, b, c⟩ => ⟨a, m, b, of_decide_eq_true c⟩, fun ⟨a, m, b, c⟩ => ⟨a, m, b, decide_eq_true c⟩⟩
/-- the firsts of the bands of some walkers -/
noncomputable def fbs (rs : Rs) : List Str → List Str := fun l => l.foldl (fun acc w => if (acc.any fun u => cnb rs u w) = true then acc else acc ++ [w]) []
theorem frs_snoc (rs : Rs) (l : List Str) (w : Str) : fbs rs (l ++ [w]) = if ((fbs rs l).any fun u => cnb rs u w) = true then fbs rs l else fbs rs l ++ [w] := by
  unfold fbs
  rw [List.foldl_append]
  rfl
theorem any_cn {rs : Rs} {l : List Str} {w : Str} : (l.any fun u => cnb rs u w) = true ↔ ∃ u ∈ l, Cn rs u w := by
  rw [List.any_eq_true]
  exact ⟨fun ⟨u, a, b⟩ => ⟨u, a, cnb_iff.mp b⟩, fun ⟨u, a, b⟩ => ⟨u, a, cnb_iff.mpr b⟩⟩
theorem frs_old {rs : Rs} {l : List Str} {w : Str} (h : ∃ u ∈ fbs rs l, Cn rs u w) : fbs rs (l ++ [w]) = fbs rs l := by rw [frs_snoc, if_pos (any_cn.mpr h)]
theorem frs_new {rs : Rs} {l : List Str} {w : Str} (h : ¬ ∃ u ∈ fbs rs l, Cn rs u w) : fbs rs (l ++ [w]) = fbs rs l ++ [w] := by rw [frs_snoc, if_neg (fun z => h (any_cn.mp z))]
theorem snoc_ind {P : List Str → Prop} (h0 : P []) (h1 : ∀ l x, P l → P (l ++ [x])) : ∀ l, P l := fun l => by
  have : ∀ n, ∀ l : List Str, l.length = n → P l := fun n => by
    induction n with
    | zero => intro l h; rw [List.eq_nil_of_length_eq_zero h]; exact h0
    | succ n ih =>
      intro l h
      rcases List.eq_nil_or_concat l with rfl | ⟨l0, x, rfl⟩
      · exact h0
      · rw [List.concat_eq_append] at h ⊢
        exact h1 _ _ (ih l0 (by rw [List.length_append] at h; simpa using h))
  exact this _ l rfl
theorem frs_sub (rs : Rs) : ∀ l, ∀ x ∈ fbs rs l, x ∈ l := snoc_ind (fun x hx => nomatch hx) fun l w ih x hx => by
  by_cases h : ∃ u ∈ fbs rs l, Cn rs u w
  · rw [frs_old h] at hx
    exact List.mem_append_left _ (ih x hx)
  · rw [frs_new h] at hx
    rcases List.mem_append.mp hx with q | q
    · exact List.mem_append_left _ (ih x q)
    · exact List.mem_append_right _ q
theorem frs_len (rs : Rs) : ∀ l, (fbs rs l).length ≤ l.length := snoc_ind (Nat.le_refl _) fun l w ih => by
  rw [List.length_append]
  by_cases h : ∃ u ∈ fbs rs l, Cn rs u w
  · rw [frs_old h]
    exact Nat.le_succ_of_le ih
  · rw [frs_new h, List.length_append]
    exact Nat.succ_le_succ ih
/-- everybody is in some band -/
theorem frs_all (rs : Rs) : ∀ l, ∀ x ∈ l, ∃ u ∈ fbs rs l, Cn rs u x := snoc_ind (fun x hx => nomatch hx) fun l w ih x hx => by
  by_cases h : ∃ u ∈ fbs rs l, Cn rs u w
  · rw [frs_old h]
    rcases List.mem_append.mp hx with q | q
    · exact ih x q
    · rw [List.mem_singleton.mp q]
      exact h
  · rw [frs_new h]
    rcases List.mem_append.mp hx with q | q
    · obtain ⟨u, h1, h2⟩ := ih x q
      exact ⟨u, List.mem_append_left _ h1, h2⟩
    · rw [List.mem_singleton.mp q]
      exact ⟨w, List.mem_append_right _ (List.mem_singleton.mpr rfl), Cn.refl rs w⟩
/-- two firsts are of two bands -/
theorem frs_apart {rs : Rs} (nd : (ks rs).Nodup) : ∀ l, (∀ x ∈ l, x ∈ ks rs) → (fbs rs l).Pairwise fun u v => ¬ Cn rs u v := snoc_ind (fun _ => List.Pairwise.nil) fun l w ih hl => by
  have ihl := ih fun x hx => hl x (List.mem_append_left _ hx)
  by_cases h : ∃ u ∈ fbs rs l, Cn rs u w
  · rw [frs_old h]
    exact ihl
  · rw [frs_new h]
    refine List.pairwise_append.mpr ⟨ihl, List.pairwise_singleton _ _, fun a ha b hb z => h ⟨a, ha, ?_⟩⟩
    rw [List.mem_singleton.mp hb] at z
    exact z
theorem frs_one {rs : Rs} (nd : (ks rs).Nodup) {l : List Str} (hl : ∀ x ∈ l, x ∈ ks rs) {u v : Str} (hu : u ∈ fbs rs l) (hv : v ∈ fbs rs l) (h : Cn rs u v) : u = v := by
  have hp := List.pairwise_iff_getElem.mp (frs_apart nd l hl)
  have hs := h.symm nd (hl _ (frs_sub rs l u hu))
  obtain ⟨i, hi, rfl⟩ := List.getElem_of_mem hu
  obtain ⟨j, hj, rfl⟩ := List.getElem_of_mem hv
  rcases Nat.lt_trichotomy i j with z | rfl | z
  · exact absurd h (hp i j hi hj z)
  · rfl
  · exact absurd hs (hp j i hj hi z)
/-- the bands -/
noncomputable def bds (rooms : List Str) (rs : Rs) (l : List Str) : List (List Str × List Str) := (fbs rs l).map fun w => (cm rs w, gr rooms rs w)
structure BdAt (H : Hp) (as : List Addr) (L : List (List Str × List Str)) : Prop where
  len : as.length = L.length
  at_ : ∀ (i : Nat) (a : Addr) (e : List Str × List Str), as[i]? = some a → L[i]? = some e → ∃ x y : Addr, H a = some (.tup [.ref x, .ref y]) ∧ H x = some (.tup (e.1.map V.str)) ∧ H y = some (.tup (e.2.map V.str))
theorem BdAt.nil {H : Hp} : BdAt H [] [] := ⟨rfl, fun i a e h => by cases h⟩
theorem BdAt.tu {H H' : Hp} {as : List Addr} {L : List (List Str × List Str)} (x : Tu H H') (b : BdAt H as L) : BdAt H' as L := ⟨b.len, fun i a e h1 h2 => by
  obtain ⟨p, q, a1, a2, a3⟩ := b.at_ i a e h1 h2
  exact ⟨p, q, x _ _ a1, x _ _ a2, x _ _ a3⟩⟩
theorem BdAt.snoc {H : Hp} {as : List Addr} {L : List (List Str × List Str)} {a x y : Addr} {e : List Str × List Str} (b : BdAt H as L) (h1 : H a = some (.tup [.ref x, .ref y])) (h2 : H x = some (.tup (e.1.map V.str))) (h3 : H y = some (.tup (e.2.map V.str))) : BdAt H (as ++ [a]) (L ++ [e]) := by
  refine ⟨by rw [List.length_append, List.length_append, b.len]; rfl, fun i c g e1 e2 => ?_⟩
  by_cases hi : i < as.length
  · rw [List.getElem?_append_left hi] at e1
    rw [List.getElem?_append_left (by rw [← b.len]; exact hi)] at e2
    exact b.at_ i c g e1 e2
  · have l1 := (List.getElem?_eq_some_iff.mp e1).1
    rw [List.length_append] at l1
    obtain rfl : i = as.length := by simp at l1; omega
    rw [List.getElem?_append_right (Nat.le_refl _), Nat.sub_self] at e1
    rw [b.len, List.getElem?_append_right (Nat.le_refl _), Nat.sub_self] at e2
    cases e1
    cases e2
    exact ⟨x, y, h1, h2, h3⟩
theorem BdAt.row {H : Hp} {as : List Addr} {L : List (List Str × List Str)} (b : BdAt H as L) {i : Nat} {v : V} (h : (as.map V.ref)[i]? = some v) : ∃ a e x y, v = .ref a ∧ L[i]? = some e ∧ H a = some (.tup [.ref x, .ref y]) ∧ H x = some (.tup (e.1.map V.str)) ∧ H y = some (.tup (e.2.map V.str)) := by
  rw [List.getElem?_map] at h
  cases z : as[i]? with
  | none => rw [z] at h; cases h
  | some a =>
    rw [z] at h
    have hl : i < L.length := by rw [← b.len]; exact (List.getElem?_eq_some_iff.mp z).1
    obtain ⟨x, y, h1, h2, h3⟩ := b.at_ i a _ z (List.getElem?_eq_getElem hl)
    exact ⟨a, L[i], x, y, (Option.some.inj h).symm, List.getElem?_eq_getElem hl, h1, h2, h3⟩
/-! ### a dict of tuples that is kept -/
structure DiF (H : Hp) (D : Addr) (m : List (Str × Addr)) (fd : Rs) : Prop where
  at_ : ∃ o, H D = some (.frz o (.dK (kvOf m)))
  kk : m.map (·.1) = ks fd
  pa : ∀ (i : Nat) (e : Str × Addr) (p : Str × List Str), m[i]? = some e → fd[i]? = some p → H e.2 = some (.tup (p.2.map V.str))
theorem DiF.same {H H' : Hp} {D : Addr} {m : List (Str × Addr)} {fd : Rs} (x : Same H H') (d : DiF H D m fd) : DiF H' D m fd := ⟨d.at_.elim fun o z => ⟨o, x _ _ z⟩, d.kk, fun i e p h1 h2 => x _ _ (d.pa i e p h1 h2)⟩
theorem DiF.nx {T : List (Addr × Str)} {H H' : Hp} {D : Addr} {m : List (Str × Addr)} {fd : Rs} (x : Nx T H H') (d : DiF H D m fd) : DiF H' D m fd := ⟨d.at_.elim fun o z => ⟨o, x.e _ _ z fun ps q => by cases q⟩, d.kk, fun i e p h1 h2 => x.tu _ _ (d.pa i e p h1 h2)⟩
theorem DiF.rd {H : Hp} {D : Addr} {m : List (Str × Addr)} {fd : Rs} (d : DiF H D m fd) : L2.Rd H D (.dK (kvOf m)) := .inr d.at_
theorem DiF.get {H : Hp} {D : Addr} {m : List (Str × Addr)} {fd : Rs} (d : DiF H D m fd) (nd : (ks fd).Nodup) {x : Str} {p : List Str} (h : (x, p) ∈ fd) : ∃ a, DGet H D (.str x) (some (.ref a)) ∧ H a = some (.tup (p.map V.str)) := by
  obtain ⟨i, hi⟩ := List.mem_iff_getElem?.mp h
  have ln : m.length = fd.length := by
    have := congrArg List.length d.kk
    rw [List.length_map, List.length_map] at this
    exact this
  have hl : i < m.length := by
    rw [ln]
    exact (List.getElem?_eq_some_iff.mp hi).1
  have e1 : m[i]? = some m[i] := List.getElem?_eq_getElem hl
  have ex : m[i].1 = x := by
    have := congrArg (fun l => l[i]?) d.kk
    unfold ks at this
    simp only [List.getElem?_map, e1, hi, Option.map_some] at this
    exact Option.some.inj this
  have hv : valV (kvOf m) (Sum.inr x) = some (.ref m[i].2) := kvOf_get (by rw [d.kk]; exact nd) (by rw [← ex]; exact List.getElem_mem hl)
  exact ⟨m[i].2, .inl ⟨kvOf m, Sum.inr x, d.rd, rfl, hv.symm⟩, d.pa i _ _ e1 hi⟩
theorem DiF.val {H : Hp} {D : Addr} {m : List (Str × Addr)} {fd : Rs} (d : DiF H D m fd) (nd : (ks fd).Nodup) {x : Str} {p : List Str} (h : (x, p) ∈ fd) : ∃ a, ∀ H', DiF H' D m fd → DGet H' D (.str x) (some (.ref a)) ∧ H' a = some (.tup (p.map V.str)) := by
  obtain ⟨i, hi⟩ := List.mem_iff_getElem?.mp h
  have ln : m.length = fd.length := by
    have := congrArg List.length d.kk
    rw [List.length_map, List.length_map] at this
    exact this
  have hl : i < m.length := by
    rw [ln]
    exact (List.getElem?_eq_some_iff.mp hi).1
  have e1 : m[i]? = some m[i] := List.getElem?_eq_getElem hl
  have ex : m[i].1 = x := by
    have := congrArg (fun l => l[i]?) d.kk
    unfold ks at this
    simp only [List.getElem?_map, e1, hi, Option.map_some] at this
    exact Option.some.inj this
  have hv : valV (kvOf m) (Sum.inr x) = some (.ref m[i].2) := kvOf_get (by rw [d.kk]; exact nd) (by rw [← ex]; exact List.getElem_mem hl)
  exact ⟨m[i].2, fun H' d' => ⟨.inl ⟨kvOf m, Sum.inr x, d'.rd, rfl, hv.symm⟩, d'.pa i _ _ e1 hi⟩⟩
theorem DiP.keep {H : Hp} {D : Addr} {m : List (Str × Addr)} {fd : Rs} (d : DiP H D m fd) (o : Obj) : DiF (upd H D (.frz o (.dK (kvOf m)))) D m fd :=
  ⟨⟨o, upd_same⟩, d.kk, fun i e p h1 h2 => by
    have z := d.pa i e p h1 h2
    rw [upd_ne (fun q => by rw [q, d.at_] at z; cases z)]
    exact z⟩
end Td
set_option maxHeartbeats 4000000
namespace Td
open PySem PySem.Spec PyProof.Rows L2 LamX NdefX
/-- the reaches of a state -/
noncomputable def rchB (rooms : List Str) (rows : List (List Str)) (faces : List Str) (r x : Str) : Bool := @decide (∃ q, Wk (outs rows faces) r q x) (Classical.propDecidable _)
theorem rchB_iff {rooms : List Str} {rows : List (List Str)} {faces : List Str} {r x : Str} : rchB rooms rows faces r x = true ↔ ∃ q, Wk (outs rows faces) r q x := by
  unfold rchB
  exact @decide_eq_true_iff _ (Classical.propDecidable _)
noncomputable def rch (rooms : List Str) (rows : List (List Str)) (faces : List Str) (r : Str) : List Str := rooms.filter fun x => rchB rooms rows faces r x
theorem rch_of {rooms : List Str} {rows : List (List Str)} {faces : List Str} {r : Str} {fd : List (Str × List Str)} (S : Spd (outs rows faces) r fd) : (rooms.filter fun x => decide (x ∈ ks fd)) = rch rooms rows faces r := by
  unfold rch
  refine List.filter_congr fun x _ => ?_
  rw [Bool.eq_iff_iff, decide_eq_true_iff, rchB_iff, S.iff]
noncomputable def rsOf (rooms : List Str) (rows : List (List Str)) (faces : List Str) (places : List (List Str)) : Rs := places.map fun p => (hd0 p, rch rooms rows faces (p.getD 1 ""))
theorem rsOf_ks (rooms : List Str) (rows : List (List Str)) (faces : List Str) (places : List (List Str)) : ks (rsOf rooms rows faces places) = places.map hd0 := by
  unfold ks rsOf
  rw [List.map_map]
  rfl
noncomputable def bdL (rooms : List Str) (rows : List (List Str)) (faces : List Str) (places : List (List Str)) : List (List Str × List Str) := bds rooms (rsOf rooms rows faces places) (ks (rsOf rooms rows faces places))
def lotB (gs : List (List Str)) (a b : Str) : Bool := gs.any fun g => decide (a ∈ g) && decide (b ∈ g)
noncomputable def stillL (rooms : List Str) (rows : List (List Str)) (faces : List Str) (places : List (List Str)) : List Str := (rows.filter fun r => !lotB ((bdL rooms rows faces places).map (·.2)) (r.getD 1 "") (r.getD 2 "")).map hd0
def spReaches (T : List (Addr × Str)) : Sp := fun vs H Q _ => ∃ (h st : Addr) (rooms : List Str) (rows : List (List Str)) (faces : List Str) (places : List (List Str)), vs = [.ref h, .ref st] ∧ HSy H h st rooms rows faces places ∧ Tabs T H ∧
  ∀ D m H', Nx T H H' → DiF H' D m (rsOf rooms rows faces places) → Q (.ref D) H'
def spNbr : Sp := fun vs H Q _ => ∃ (D : Addr) (w : Str) (m : List (Str × Addr)) (rs : Rs), vs = [.ref D, .str w] ∧ DiF H D m rs ∧ (ks rs).Nodup ∧ w ∈ ks rs ∧ rs.length ≤ 5 ∧ (∀ e ∈ rs, e.2.length ≤ 8) ∧
  ∀ p (as : List Addr) H', Same H H' → H p = none → H' p = some (.lst (as.map V.ref)) → RowsAt H' as (nbr rs w) → Q (.ref p) H'
def spChains (T : List (Addr × Str)) : Sp := fun vs H Q _ => ∃ (D : Addr) (w : Str) (m : List (Str × Addr)) (rs : Rs), vs = [.ref D, .str w] ∧ DiF H D m rs ∧ (ks rs).Nodup ∧ w ∈ ks rs ∧ rs.length ≤ 5 ∧ (∀ e ∈ rs, e.2.length ≤ 8) ∧ Tabs T H ∧
  ∀ E n fd H', Nx T H H' → Fr H E → DiP H' E n fd → Spd (nbr rs) w fd → (∀ y ∈ ks fd, y ∈ ks rs) → Q (.ref E) H'
def spBands (T : List (Addr × Str)) : Sp := fun vs H Q _ => ∃ (h st : Addr) (rooms : List Str) (rows : List (List Str)) (faces : List Str) (places : List (List Str)), vs = [.ref h, .ref st] ∧ HSy H h st rooms rows faces places ∧ Tabs T H ∧
  ∀ p (as : List Addr) H', Nx T H H' → H' p = some (.tup (as.map V.ref)) → BdAt H' as (bdL rooms rows faces places) → Q (.ref p) H'
def spGrounds (T : List (Addr × Str)) : Sp := fun vs H Q _ => ∃ (h st : Addr) (rooms : List Str) (rows : List (List Str)) (faces : List Str) (places : List (List Str)), vs = [.ref h, .ref st] ∧ HSy H h st rooms rows faces places ∧ Tabs T H ∧
  ∀ p H', Nx T H H' → Rows H' p ((bdL rooms rows faces places).map (·.2)) → Q (.ref p) H'
def spLot : Sp := fun vs H Q _ => ∃ (l : Addr) (a b : Str) (gs : List (List Str)), vs = [.ref l, .str a, .str b] ∧ Rows H l gs ∧ gs.length ≤ 60 ∧ ∀ H', Same H H' → Q (.bl (lotB gs a b)) H'
def spStill (T : List (Addr × Str)) : Sp := fun vs H Q _ => ∃ (h st : Addr) (rooms : List Str) (rows : List (List Str)) (faces : List Str) (places : List (List Str)), vs = [.ref h, .ref st] ∧ HSy H h st rooms rows faces places ∧ Tabs T H ∧
  ∀ p H', Nx T H H' → H' p = some (.tup ((stillL rooms rows faces places).map V.str)) → Q (.ref p) H'
theorem rsOf_nd {rooms : List Str} {rows : List (List Str)} {faces : List Str} {places : List (List Str)} (t : StV rooms rows faces places) : (ks (rsOf rooms rows faces places)).Nodup := by rw [rsOf_ks]; exact t.pnd
theorem rsOf_asc {rooms : List Str} {rows : List (List Str)} {faces : List Str} {places : List (List Str)} (t : StV rooms rows faces places) : AscS (ks (rsOf rooms rows faces places)) := by rw [rsOf_ks]; exact t.asc
theorem rsOf_len {rooms : List Str} {rows : List (List Str)} {faces : List Str} {places : List (List Str)} (t : StV rooms rows faces places) : (rsOf rooms rows faces places).length ≤ 5 := by
  unfold rsOf
  rw [List.length_map]
  exact t.p5
theorem rsOf_8 {rooms : List Str} {rows : List (List Str)} {faces : List Str} {places : List (List Str)} (v : HallV rooms rows) : ∀ e ∈ rsOf rooms rows faces places, e.2.length ≤ 8 := fun e he => by
  obtain ⟨p, _, rfl⟩ := List.mem_map.mp he
  exact Nat.le_trans (List.length_filter_le _ _) v.r8
/-- a call of in -/
theorem in_val {x : Str} {ys : List Str} : V.bl (if false = true then !inV (.str x) (ys.map V.str) else inV (.str x) (ys.map V.str)) = V.bl (decide (x ∈ ys)) := by rw [if_neg (by decide), inV_str]
theorem any_ids {α : Type} (l : List α) (p : α → Bool) : (l.map p).any id = l.any p := by
  rw [List.any_map]
  rfl
section
variable {P : Program} {w : World} {K : PySem.W.Frag} {mg : Str → Option Value} {base : Heap} {f : Addr} {fd : FuncData} {T : List (Addr × Str)}
abbrev s_reaches : Stmt := top 23
abbrev n_reaches : List Str := ["hall", "state", "walker", "room"]
theorem sc_reaches : FnScope n_reaches ["hall", "state"] (defScope s_reaches) := ⟨rfl, rfl, rfl, by decide +kernel, rfl, by decide +kernel, by decide +kernel⟩
theorem ok_reaches (F : FnP K "_reaches" s_reaches f fd) (hm : mg "_reaches" = some (.ref f)) (c_reach : CalX P w K mg base 6 "reach" (spReach K T)) :
    Cal P w K mg base 7 "_reaches" (spReaches T) := by
  refine cal_of (F.ok sc_reaches (fun vs H Q E h => ?_) (fun cdv A outer s H vs Q E hr h => ?_)) hm F.kp (F.bindsN (ps := ["hall", "state"]) fun _ _ _ _ _ _ us hl => match us, hl with | [_, _], _ => rfl)
  · obtain ⟨h, st, rooms, rows, faces, places, rfl, hs, hT, q⟩ := h
    rfl
  obtain ⟨h, st, rooms, rows, faces, places, rfl, hs, hT, q⟩ := h
  have nd := sc_reaches.nd
  refine ⟨_, PSs.nox (pss_one (ps_ret (pe_keep (pe_dc (own := [("walker", 2), ("room", 3)]) (g := (gTup K 2 (gCons (gName 2) (gCons (gName 3) gNil)))) (by rfl) nd (pi_tup (pe_ix (r := rIxT K) ix_tup (pv 1) pe_int (fun _ _ => rfl))) (blkOk_by (own := [("walker", 2), ("room", 3)]) (N := n_reaches) (sc := defScope s_reaches) (by decide +kernel)) (fun _ _ _ _ _ => (pg_tup (by rfl) (pgs_cons (pg_name (i := 2) nd rfl (Or.inl rfl)) (pgs_cons (pg_name (i := 3) nd rfl (Or.inl rfl)) pgs_nil)))) (fun _ _ _ _ _ => pts_nil) (fun _ _ _ _ _ => (pv 2)) (fun _ _ _ _ _ => (pe_cX c_reach hr (by omega) (fun σ => passF) (by rfl) (pa_cons (pv 0) (pa_cons (pv 1) (pa_cons (pv 2) pa_nil))))))))), ?_⟩
  obtain ⟨fa, pl, g1, g2, pas, g3, hRB⟩ := id hs.s
  have hbl : (pas.map V.ref).length = places.length := by rw [List.length_map]; exact hRB.1
  have p5 := hs.t.p5
  refine ⟨_, rfl, st, _, _, _, rfl, rfl, SqT.of g1, atI_nat (j := 1) rfl, pl, rfl, ⟨_, SqT.of g3⟩, fun D hD => ?_⟩
  refine dc_tup (K := K) (a := pl) (xs := pas.map V.ref) (fun i Hx => Nx T H Hx ∧ ∃ m, DiP Hx D m ((rsOf rooms rows faces places).take i)) ⟨Nx.same (Nx.refl hT) (same_new hD _), [], ⟨upd_same, rfl, fun i e p h1 _ => by cases h1⟩⟩ (fun i Hx _ ⟨n, _⟩ => SqT.of (n.tu _ _ g3)) (fun i y Hx hy ⟨n, m, d⟩ => ?_) (fun Hx ⟨n, m, d⟩ => ?_)
  · obtain ⟨ap, p, rfl, hpi, hpa⟩ := hRB.row hy
    obtain ⟨wn, rn, rfl, _, hrr⟩ := hs.t.pl p (List.mem_of_getElem? hpi)
    have hil : i < places.length := (List.getElem?_eq_some_iff.mp hpi).1
    refine ⟨ap, _, rfl, SqT.of (n.tu _ _ hpa), rfl, _, _, rfl, _, _, rfl, rfl, rfl, lcY ?_⟩
    refine ⟨_, rfl, _, rfl, _, rfl, _, rfl, h, st, wn, rooms, rows, faces, places, rfl, hs.nx n, n.t, fun hw => absurd (List.mem_map.mpr ⟨_, List.mem_of_getElem? hpi, rfl⟩) hw, fun j r hj p fd2 H2 n2 hS hp => ?_⟩
    have ej : i = j := at_one (l := places) hs.t.pnd hpi hj rfl
    subst ej
    rw [hpi] at hj
    cases hj
    have d2 := d.nx n2
    have hri : (rsOf rooms rows faces places)[i]? = some (wn, rooms.filter fun x => decide (x ∈ ks fd2)) := by
      unfold rsOf
      rw [List.getElem?_map, hpi, rch_of hS]
      rfl
    have hno : wn ∉ ks ((rsOf rooms rows faces places).take i) := fun hm => by
      obtain ⟨e, he, e1⟩ := List.mem_map.mp hm
      obtain ⟨k, hk⟩ := List.mem_iff_getElem?.mp he
      rw [List.getElem?_take] at hk
      split at hk
      · rename_i hki
        have h1 : (ks (rsOf rooms rows faces places))[k]? = some wn := by unfold ks; rw [List.getElem?_map, hk, ← e1]; rfl
        have h2 : (ks (rsOf rooms rows faces places))[i]? = some wn := by unfold ks; rw [List.getElem?_map, hri]; rfl
        have := nd_ix (rsOf_nd hs.t) h1 h2
        omega
      · cases hk
    refine ⟨kvOf m, Sum.inr wn, rfl, d2.at_, ?_, (n.trans n2).mutD d2.at_ (Fr.of hD) _, m ++ [(wn, p)], ?_⟩
    · rw [kvOf_len, d.len, List.length_take]
      exact sz100 (by omega)
    · rw [take_snoc hri]
      exact d2.put hno hp
  · rw [hbl, List.take_of_length_le (show (rsOf rooms rows faces places).length ≤ places.length by unfold rsOf; rw [List.length_map]; exact Nat.le_refl _)] at d
    exact ⟨D, _, rfl, d.at_, True.intro, fun od => q D m _ (n.mutD d.at_ (Fr.of hD) _) (d.keep od)⟩
abbrev s_neighbours : Stmt := top 25
abbrev n_neighbours : List Str := ["reaches", "walker", "found", "other", "rooms", "room"]
theorem sc_neighbours : FnScope n_neighbours ["reaches", "walker"] (defScope s_neighbours) := ⟨rfl, rfl, rfl, by decide +kernel, rfl, by decide +kernel, by decide +kernel⟩
theorem ok_neighbours (F : FnP K "_neighbours" s_neighbours f fd) (hm : mg "_neighbours" = some (.ref f)) (m_any : mg "any" = none) :
    Cal P w K mg base 1 "_neighbours" spNbr := by
  refine cal_of (F.ok sc_neighbours (fun vs H Q E h => ?_) (fun cdv A outer s H vs Q E hr h => ?_)) hm F.kp (F.bindsN (ps := ["reaches", "walker"]) fun _ _ _ _ _ _ us hl => match us, hl with | [_, _], _ => rfl)
  · obtain ⟨D, wk, m, rs, rfl, hD, ndr, hw, l5, l8, q⟩ := h
    rfl
  obtain ⟨D, wk, m, rs, rfl, hD, ndr, hw, l5, l8, q⟩ := h
  have nd := sc_neighbours.nd
  refine ⟨_, PSs.nox (pss_cons (ps_set (i := 2) nd rfl (Or.inl rfl) (pe_lst pa_nil))
    (pss_cons (ps_for PassesOwn.never rfl (pi_items (pv 0)) (pg_tup (by rfl) (pgs_cons (pg_name (i := 3) nd rfl (Or.inl rfl)) (pgs_cons (pg_name (i := 4) nd rfl (Or.inl rfl)) pgs_nil))) (pss_one (ps_if (pt_val (pe_callB (r := rAny K) (cr_any rfl) (by rfl) m_any (by decide +kernel) (pa_cons (pe_lc (own := [("room", 5)]) (g := (gName 5)) (by rfl) nd (pi_tup (pv 4)) (blkOk_by (own := [("room", 5)]) (N := n_neighbours) (sc := defScope s_neighbours) (by decide +kernel)) (fun _ _ _ _ _ => (pg_name (i := 5) nd rfl (Or.inl rfl))) (fun _ _ _ _ _ => pts_nil) (fun _ _ _ _ _ => (pe_cmpR (r := rIn K false) op_in_seq (pv 5) (pe_dget (hu_of hr) (pv 0) (pv 1) (fun _ _ => rfl)) (by rfl)))) pa_nil))) (pss_one (ps_expr (show PE _ _ (tBM K _ _ _ _) from pe_bm PySem.F.plainAttrs_list PySem.F.slot_list_append PySem.F.type_list_append mt_append (pv 2) (pa_cons (pe_tup (pa_cons (pv 3) (pa_cons (pv 3) pa_nil))) pa_nil)))) pss_nil)))
    (pss_one (ps_ret (pv 2))))), ?_⟩
  obtain ⟨⟨wk', mine⟩, hmine, ew⟩ := List.mem_map.mp hw
  have ew : wk' = wk := ew
  subst ew
  have hlk := lk_of ndr hmine
  have ml : m.length = rs.length := by
    have := congrArg List.length hD.kk
    rw [List.length_map, List.length_map] at this
    exact this
  refine ⟨(by show 0 ≤ sizeLine; decide), fun F hF => ?_⟩
  have sF := same_new hF (.lst [])
  obtain ⟨o, hDo⟩ := (hD.same sF).at_
  refine ⟨_, rfl, D, o, kvOf m, rfl, hDo, ?_⟩
  refine for_gen (n := m.length) (fun i σ' Hx => ∃ (v3 v4 v5 : Option V) (as : List Addr), σ' = [some (.ref D), some (.str wk'), some (.ref F), v3, v4, v5] ∧ Same H Hx ∧ Hx D = some (.frz o (.dK (kvOf m))) ∧ Hx F = some (.lst (as.map V.ref)) ∧ RowsAt Hx as (((rs.take i).filter fun e => e.2.any fun x => decide (x ∈ lk rs wk')).map fun e => [e.1, e.1]))
    ⟨_, _, _, [], rfl, sF, hDo, upd_same, RowsAt.nil⟩ (fun i σ' Hx hi ⟨v3, v4, v5, as, e, sx, hDx, hFx, hR⟩ => ?_) (fun σ' Hx ⟨v3, v4, v5, as, e, sx, hDx, hFx, hR⟩ => ?_)
  rotate_left
  · subst e
    refine ⟨⟨hDx, by rw [kvOf_len]; exact Nat.le_refl _⟩, _, rfl, ?_⟩
    rw [ml, List.take_length] at hR
    exact q F as Hx sx hF hFx hR
  subst e
  refine ⟨⟨hDx, by rw [kvOf_len]; exact hi⟩, ?_⟩
  rintro _ _ ⟨T1, k, v, hkv, rfl, hT1, rfl⟩
  have hmi : m[i]? = some m[i] := List.getElem?_eq_getElem hi
  have hri : rs[i]? = some (rs[i]'(by omega)) := List.getElem?_eq_getElem (by omega)
  have hits := (hD.same sx).pa i _ _ hmi hri
  have e1 : m[i].1 = (rs[i]'(by omega)).1 := by
    have := congrArg (fun l => l[i]?) hD.kk
    unfold ks at this
    simp only [List.getElem?_map, hmi, hri, Option.map_some] at this
    exact Option.some.inj this
  have hkv2 : (kvOf m)[i]? = some (Sum.inr m[i].1, V.ref m[i].2) := by unfold kvOf; rw [List.getElem?_map, hmi]; rfl
  rw [hkv2] at hkv
  cases hkv
  have l8i := l8 _ (List.getElem_mem (show i < rs.length by omega))
  generalize m[i].1 = nm at e1
  generalize m[i].2 = a1 at hits
  generalize rs[i]'(by omega) = re at hri hits e1 l8i
  obtain ⟨x1, its⟩ := re
  have e1 : nm = x1 := e1
  subst e1
  have sT := same_new hT1 (.tup [kV (Sum.inr nm), .ref a1])
  refine ⟨T1, _, rfl, SqT.of upd_same, rfl, _, _, rfl, _, _, rfl, rfl, ?_⟩
  have sx2 := sx.trans sT
  have hDx2 := sT _ _ hDx
  have hFx2 := sT _ _ hFx
  have hR2 := hR.tu (Tu.same sT)
  have hits2 := sT _ _ hits
  clear sT hits hDx hFx hR hkv2
  generalize upd Hx T1 (.tup [kV (Sum.inr nm), .ref a1]) = H2 at sx2 hDx2 hFx2 hR2 hits2 ⊢
  obtain ⟨am, ham, htm⟩ := (hD.same sx2).get ndr hmine
  refine ⟨_, rfl, a1, rfl, ⟨_, SqT.of hits2⟩, fun B hB => ?_⟩
  refine lc_tup (K := K) (a := a1) (xs := its.map V.str) (fun k Hy => Same H2 Hy ∧ Hy B = some (.lst (((its.take k).map fun x => decide (x ∈ mine)).map V.bl))) ⟨same_new hB _, upd_same⟩ (fun k Hy _ ⟨sy, _⟩ => SqT.of (sy _ _ hits2)) (fun k y Hy hy ⟨sy, hBy⟩ => ?_) (fun Hy ⟨sy, hBy⟩ => ?_)
  · obtain ⟨x, hx, rfl⟩ := str_at hy
    have hkl : k < its.length := (List.getElem?_eq_some_iff.mp hx).1
    obtain ⟨am2, ham2, htm2⟩ := (hD.same (sx2.trans sy)).get ndr hmine
    refine ⟨rfl, lcY ?_⟩
    refine ⟨_, rfl, _, rfl, _, rfl, D, .ref am2, rfl, ham2, am2, _, rfl, .inr (SqT.of htm2), rfl, flat_strs _, _, hBy, ?_, same_mut sy hB _, ?_⟩
    · rw [List.length_map, List.length_map, List.length_take]
      exact sz100 (by show min k its.length ≤ 1000; have : its.length ≤ 8 := l8i; omega)
    · rw [in_val, upd_same, take_snoc hx, List.map_append, List.map_append]
      rfl
  rw [List.length_map, List.take_length] at hBy
  have sx3 := sx2.trans sy
  have hany : (its.map fun x => decide (x ∈ mine)).any id = its.any fun x => decide (x ∈ lk rs wk') := by rw [any_ids, hlk]
  refine ⟨B, _, rfl, SqL.of hBy, _, rfl, ?_⟩
  rw [hany]
  have hsn : rs.take (i + 1) = rs.take i ++ [(nm, its)] := take_snoc hri
  by_cases z : (its.any fun x => decide (x ∈ lk rs wk')) = true
  · rw [z]
    refine iteT ⟨_, rfl, .inl ⟨rfl, _, SqL.of (sy _ _ hFx2)⟩, _, rfl, _, rfl, (by show 2 ≤ sizeLine; decide), fun t ht => ?_⟩
    have st := same_new ht (.tup [.str nm, .str nm])
    have hFy := st _ _ (sy _ _ hFx2)
    have ntF : t ≠ F := fun e => by rw [e, sy _ _ hFx2] at ht; cases ht
    refine ⟨F, _, _, rfl, rfl, hFy, ?_, _, _, _, as ++ [t], rfl, same_mut (sx3.trans st) hF _, ?_, ?_, ?_⟩
    · rw [List.length_map, hR2.1, List.length_map]
      exact sz100 (Nat.le_trans (List.length_filter_le _ _) (by rw [List.length_take]; omega))
    · rw [upd_ne (fun e => by rw [e, hFx2] at hDx2; cases hDx2)]
      exact st _ _ (sy _ _ hDx2)
    · rw [upd_same, List.map_append]
      rfl
    · rw [hsn, List.filter_append, List.map_append, show List.filter (fun e : Str × List Str => e.2.any fun x => decide (x ∈ lk rs wk')) [(nm, its)] = [(nm, its)] from List.filter_cons_of_pos z]
      refine RowsAt.snoc ((hR2.tu (Tu.same (sy.trans st))).tu fun b xs w => ?_) ?_
      · rw [upd_ne (fun e => by rw [e, hFy] at w; cases w)]
        exact w
      · rw [upd_ne ntF]
        exact upd_same
  · rw [Bool.eq_false_iff.mpr z]
    refine iteF ⟨_, _, _, as, rfl, sx3, sy _ _ hDx2, sy _ _ hFx2, ?_⟩
    rw [hsn, List.filter_append, List.map_append, show List.filter (fun e : Str × List Str => e.2.any fun x => decide (x ∈ lk rs wk')) [(nm, its)] = [] from List.filter_cons_of_neg z, List.map_nil, List.append_nil]
    exact hR2.tu (Tu.same sy)
abbrev s_chains : Stmt := top 24
abbrev n_chains : List Str := ["reaches", "walker"]
theorem sc_chains : FnScope n_chains ["reaches", "walker"] (defScope s_chains) := ⟨rfl, rfl, rfl, by decide +kernel, rfl, by decide +kernel, by decide +kernel⟩
theorem ok_chains (F : FnP K "_chains" s_chains f fd) (hf : f = He.fAd K ("_chains", none)) (hm : mg "_chains" = some (.ref f)) {T : List (Addr × Str)} (TB : TabB base mg (He.cT K ("_chains", none)).1 (He.cT K ("_chains", none)).2) (hT1 : ((He.cT K ("_chains", none)).2, ("_chains.<locals>.<lambda>" : Str)) ∈ T) (hT2 : ∀ p ∈ T, p.1 = (He.cT K ("_chains", none)).2 → p.2 = ("_chains.<locals>.<lambda>" : Str)) (c_neighbours : Cal P w K mg base 1 "_neighbours" spNbr) (c_spread : Giv P w K mg base 2 "spread" spSpread) :
    Cal P w K mg base 4 "_chains" (spChains T) := by
  refine cal_of (okC F hf sc_chains (fun vs H Q E h => ?_) (fun A outer s H vs Q E hr h => ?_)) hm F.kp (F.bindsN (ps := ["reaches", "walker"]) fun _ _ _ _ _ _ us hl => match us, hl with | [_, _], _ => rfl)
  · obtain ⟨D, wk, m, rs, rfl, hD, ndr, hw, l5, l8, hT, q⟩ := h
    rfl
  obtain ⟨D, wk, m, rs, rfl, hD, ndr, hw, l5, l8, hT, q⟩ := h
  have nd := sc_chains.nd
  refine ⟨_, PSs.nox (pss_one (ps_ret (pe_lam1 (N := ["here", "reaches"]) (fr := ["reaches"]) (js := [0]) (k0 := 1) c_spread hr (by omega) (by omega) (by rfl) TB rfl hT1 hT2 (nscope_by (by decide +kernel)) (show ndefB (defScope s_chains) _ _ = true from by decide +kernel) (by rfl) (by rfl) (fun _ _ _ _ _ _ => rfl) (pv 1) (fun _ _ _ _ _ _ hr => (C8.pe_c c_neighbours hr (by omega) (by rfl) (pa_cons (pv 1) (pa_cons (pv 0) pa_nil))))))), ?_⟩
  refine ⟨_, rfl, hT, fun H2 e2 t2 => ?_⟩
  have n2 : Nx T H H2 := ⟨e2, t2⟩
  refine ⟨wk, ks rs, nbr rs, rfl, hw, by unfold ks; rw [List.length_map]; omega, fun y hy r hr => ?_, fun y hy H1 s1 Q1 q1 => ?_, fun E n fd2 H' s' hE0 hDi hS hU => q E n fd2 H' (n2.same s') (n2.fr hE0) hDi hS hU⟩
  · obtain ⟨e, he, rfl, _⟩ := nbr_mem.mp hr
    exact ⟨_, _, rfl, ks_mem he⟩
  · exact ⟨_, rfl, _, rfl, D, y, m, rs, rfl, (hD.nx n2).same s1, ndr, hy, l5, l8, fun p as H3 s3 hp hp2 hR => q1 p as H3 s3 hp hp2 hR⟩
abbrev s_bands : Stmt := top 20
abbrev n_bands : List Str := ["hall", "state", "reaches", "found", "walker", "walkers", "joined", "member", "room", "members", "ground"]
theorem sc_bands : FnScope n_bands ["hall", "state"] (defScope s_bands) := ⟨rfl, rfl, rfl, by decide +kernel, rfl, by decide +kernel, by decide +kernel⟩
theorem ok_bands (F : FnP K "bands" s_bands f fd) (hm : mg "bands" = some (.ref f)) (c_chains : Cal P w K mg base 4 "_chains" (spChains T)) (c_reaches : Cal P w K mg base 7 "_reaches" (spReaches T)) (m_any : mg "any" = none) (m_sorted : mg "sorted" = none) (m_tuple : mg "tuple" = none) :
    Cal P w K mg base 8 "bands" (spBands T) := by
  refine cal_of (F.ok sc_bands (fun vs H Q E h => ?_) (fun cdv A outer s H vs Q E hr h => ?_)) hm F.kp (F.bindsN (ps := ["hall", "state"]) fun _ _ _ _ _ _ us hl => match us, hl with | [_, _], _ => rfl)
  · obtain ⟨h, st, rooms, rows, faces, places, rfl, hs, hT, q⟩ := h
    rfl
  obtain ⟨h, st, rooms, rows, faces, places, rfl, hs, hT, q⟩ := h
  have nd := sc_bands.nd
  refine ⟨_, PSs.nox (pss_cons (ps_set (i := 2) nd rfl (Or.inr rfl) (C8.pe_c c_reaches hr (by omega) (by rfl) (pa_cons (pv 0) (pa_cons (pv 1) pa_nil))))
    (pss_cons (ps_set (i := 3) nd rfl (Or.inl rfl) (pe_lst pa_nil))
    (pss_cons (ps_for PassesOwn.never rfl (pi_keys (pv 2)) (pg_name (i := 4) nd rfl (Or.inr rfl)) (pss_one (ps_if (pt_not (pt_val (pe_callB (r := rAny K) (cr_any rfl) (by rfl) m_any (by decide +kernel) (pa_cons (pe_lc (own := [("members", 9), ("ground", 10)]) (g := (gTup K 2 (gCons (gName 9) (gCons (gName 10) gNil)))) (by rfl) nd (pi_list (pv 3)) (blkOk_by (own := [("members", 9), ("ground", 10)]) (N := n_bands) (sc := defScope s_bands) (by decide +kernel)) (fun _ _ _ _ _ => (pg_tup (by rfl) (pgs_cons (pg_name (i := 9) nd rfl (Or.inl rfl)) (pgs_cons (pg_name (i := 10) nd rfl (Or.inl rfl)) pgs_nil)))) (fun _ _ _ _ _ => pts_nil) (fun _ _ _ _ _ => (pe_cmpR (r := rIn K false) op_in_seq (pv 4) (pv 9) (by rfl)))) pa_nil)))) (pss_cons (ps_set (i := 5) nd rfl (Or.inl rfl) (pe_callTy (r := rTpOf K) call_tuple_of (by rfl) m_tuple (by decide +kernel) (pa_cons (pe_callB (r := rSortedDK) (call_sortedD (by rfl)) (by rfl) m_sorted (by decide +kernel) (pa_cons (C8.pe_c c_chains hr (by omega) (by rfl) (pa_cons (pv 2) (pa_cons (pv 4) pa_nil))) pa_nil)) pa_nil)))
    (pss_cons (ps_set (i := 6) nd rfl (Or.inr rfl) (pe_lc2 (own := [("member", 7), ("room", 8)]) (vs1 := [8]) (wi1 := iTup K _) (g := (gName 7)) (g1 := (gName 8)) (by rfl) nd (pi_tup (pv 5)) (blkOk_by (own := [("member", 7), ("room", 8)]) (N := n_bands) (sc := defScope s_bands) (by decide +kernel)) (by decide) (fun _ _ _ _ _ => (pg_name (i := 7) nd rfl (Or.inl rfl))) (fun _ _ _ _ _ => pts_nil) (fun _ _ _ _ _ => (pi_tup (pe_dget (hu_of hr) (pv 2) (pv 7) (fun _ _ => rfl)))) (fun _ _ _ _ _ => (pg_name (i := 8) nd rfl (Or.inl rfl))) (fun _ _ _ _ _ => pts_nil) (fun _ _ _ _ _ => (pv 8))))
    (pss_one (ps_expr (show PE _ _ (tBM K _ _ _ _) from pe_bm PySem.F.plainAttrs_list PySem.F.slot_list_append PySem.F.type_list_append mt_append (pv 3) (pa_cons (pe_tup (pa_cons (pv 5) (pa_cons (pe_callTy (r := rTpOf K) call_tuple_of (by rfl) m_tuple (by decide +kernel) (pa_cons (pe_lc (own := [("room", 8)]) (g := (gName 8)) (by rfl) nd (pi_tup (pe_ix (r := rIxT K) ix_tup (pv 0) pe_int (fun _ _ => rfl))) (blkOk_by (own := [("room", 8)]) (N := n_bands) (sc := defScope s_bands) (by decide +kernel)) (fun _ _ _ _ _ => (pg_name (i := 8) nd rfl (Or.inl rfl))) (fun _ _ _ _ _ => (pts_one (pt_cmpR (r := rIn K false) op_in_seq (pv 8) (pv 6) (by rfl)))) (fun _ _ _ _ _ => (pv 8))) pa_nil)) pa_nil))) pa_nil)))))) pss_nil)))
    (pss_one (ps_ret (pe_callTy (r := rTpOf K) call_tuple_of (by rfl) m_tuple (by decide +kernel) (pa_cons (pv 3) pa_nil))))))), ?_⟩
  have ndr := rsOf_nd (rooms := rooms) hs.t
  have asc := rsOf_asc (rooms := rooms) hs.t
  have l5 := rsOf_len (rooms := rooms) hs.t
  have l8 := rsOf_8 (rows := rows) (faces := faces) (places := places) hs.v
  have r8 := hs.v.r8
  refine ⟨_, rfl, _, rfl, h, st, rooms, rows, faces, places, rfl, hs, hT, fun D m H1 n1 hD => ?_⟩
  unfold bdL at q
  generalize rsOf rooms rows faces places = rs at ndr asc l5 l8 hD q
  have kl : (ks rs).length = rs.length := by unfold ks; rw [List.length_map]
  have ml : m.length = rs.length := by
    have := congrArg List.length hD.kk
    rw [List.length_map, List.length_map] at this
    exact this
  refine ⟨(by show 0 ≤ sizeLine; decide), fun F hF => ?_⟩
  have hs1 := hs.nx n1
  have sF := same_new hF (.lst [])
  obtain ⟨o, hDo⟩ := (hD.same sF).at_
  refine ⟨_, rfl, D, o, rfl, .inl ⟨kvOf m, hDo, ?_⟩⟩
  refine for_gen (n := m.length) (fun i σ' Hx => ∃ (v4 v5 v6 v7 v8 v9 v10 : Option V) (as : List Addr), σ' = [some (.ref h), some (.ref st), some (.ref D), some (.ref F), v4, v5, v6, v7, v8, v9, v10] ∧ Nx T H1 Hx ∧ Hx F = some (.lst (as.map V.ref)) ∧ BdAt Hx as (bds rooms rs ((ks rs).take i)))
    ⟨_, _, _, _, _, _, _, [], rfl, Nx.same (Nx.refl n1.t) sF, upd_same, BdAt.nil⟩ (fun i σ' Hx hi hP => ?_) (fun σ' Hx hP => ?_)
  rotate_left
  · obtain ⟨v4, v5, v6, v7, v8, v9, v10, as, rfl, nx, hFx, hB⟩ := hP
    have hDx := (hD.nx nx).at_
    obtain ⟨o2, hDx⟩ := hDx
    have eo : o2 = o := by
      have z := nx.e D _ (show H1 D = some (.frz o (.dK (kvOf m))) by
        have w := hDo
        rw [upd_ne (fun e => by rw [e, upd_same] at w; cases w)] at w
        exact w) fun ps q => by cases q
      rw [hDx] at z
      cases z
      rfl
    subst eo
    refine ⟨⟨hDx, by rw [kvOf_len]; exact Nat.le_refl _⟩, ?_⟩
    rw [ml, ← kl, List.take_length] at hB
    refine ⟨_, rfl, F, _, rfl, .inl ⟨SqL.of hFx, fun t ht => ?_⟩⟩
    have st := same_new ht (.tup (as.map V.ref))
    exact q t as _ ((n1.trans nx).same st) upd_same (hB.tu (Tu.same st))
  obtain ⟨v4, v5, v6, v7, v8, v9, v10, as, rfl, nx, hFx, hB⟩ := hP
  have hDx := nx.e D _ (show H1 D = some (.frz o (.dK (kvOf m))) by
    have w := hDo
    rw [upd_ne (fun e => by rw [e, upd_same] at w; cases w)] at w
    exact w) fun ps q => by cases q
  refine ⟨⟨hDx, by rw [kvOf_len]; exact hi⟩, ?_⟩
  rintro _ H' ⟨eH, k, v, hkv, rfl⟩
  have eH := eH.symm
  subst eH
  have hmi : m[i]? = some m[i] := List.getElem?_eq_getElem hi
  obtain ⟨w1, hwi⟩ : ∃ w, (ks rs)[i]? = some w := ⟨_, List.getElem?_eq_getElem (by omega)⟩
  have e1 : m[i].1 = w1 := by
    have z : (m.map (·.1))[i]? = (ks rs)[i]? := by rw [hD.kk]
    rw [List.getElem?_map, hmi, hwi] at z
    exact Option.some.inj z
  have hkv2 : (kvOf m)[i]? = some (Sum.inr m[i].1, V.ref m[i].2) := by unfold kvOf; rw [List.getElem?_map, hmi]; rfl
  rw [hkv2] at hkv
  cases hkv
  rw [e1]
  have hwm : w1 ∈ ks rs := List.mem_of_getElem? hwi
  have hsn : (ks rs).take (i + 1) = (ks rs).take i ++ [w1] := take_snoc hwi
  show tIfS _ _ _ _ _ _
  -- is it in a band already
  have flen : (fbs rs ((ks rs).take i)).length ≤ 5 := Nat.le_trans (frs_len rs _) (by rw [List.length_take]; omega)
  refine ⟨_, rfl, F, rfl, ⟨_, SqL.of hFx⟩, fun B hB0 => ?_⟩
  refine lc_list (K := K) (a := F) (xs := as.map V.ref) (fun k Hy => Same Hx Hy ∧ Hy B = some (.lst ((((fbs rs ((ks rs).take i)).take k).map fun u => decide (w1 ∈ cm rs u)).map V.bl))) ⟨same_new hB0 _, upd_same⟩ (fun k Hy _ ⟨sy, _⟩ => SqL.of (sy _ _ hFx)) (fun k y Hy hy ⟨sy, hBy⟩ => ?_) (fun Hy ⟨sy, hBy⟩ => ?_)
  · obtain ⟨a, e, x, y2, rfl, hLe, k1, k2, k3⟩ := (hB.tu (Tu.same sy)).row hy
    unfold bds at hLe
    rw [List.getElem?_map] at hLe
    obtain ⟨u, hu, rfl⟩ : ∃ u, (fbs rs ((ks rs).take i))[k]? = some u ∧ (cm rs u, gr rooms rs u) = e := by
      cases z : (fbs rs ((ks rs).take i))[k]? with
      | none => rw [z] at hLe; cases hLe
      | some u => rw [z] at hLe; exact ⟨u, rfl, Option.some.inj hLe⟩
    have hkl : k < (fbs rs ((ks rs).take i)).length := (List.getElem?_eq_some_iff.mp hu).1
    refine ⟨a, _, rfl, SqT.of k1, rfl, _, _, rfl, _, _, rfl, rfl, rfl, lcY ?_⟩
    refine ⟨_, rfl, _, rfl, x, _, rfl, .inr (SqT.of k2), rfl, flat_strs _, _, hBy, ?_, same_mut sy hB0 _, ?_⟩
    · rw [List.length_map, List.length_map, List.length_take]
      exact sz100 (by omega)
    · rw [show V.bl (if false = true then !inV (kV (Sum.inr w1)) (List.map V.str (cm rs u, gr rooms rs u).fst) else inV (kV (Sum.inr w1)) (List.map V.str (cm rs u, gr rooms rs u).fst)) = V.bl (decide (w1 ∈ cm rs u)) from in_val, upd_same, take_snoc hu, List.map_append, List.map_append]
      rfl
  have hasl : (as.map V.ref).length = (fbs rs ((ks rs).take i)).length := by
    rw [List.length_map, hB.len]
    unfold bds
    rw [List.length_map]
  rw [hasl, List.take_length] at hBy
  refine ⟨B, _, rfl, SqL.of hBy, _, rfl, ?_⟩
  have nxy := nx.same sy
  have hFy := sy _ _ hFx
  have hBdy := hB.tu (Tu.same sy)
  clear hBy sy hB hFx nx hDx
  have hany : ((fbs rs ((ks rs).take i)).map fun u => decide (w1 ∈ cm rs u)).any id = (fbs rs ((ks rs).take i)).any fun u => cnb rs u w1 := by
    rw [any_ids]
    refine congrArg (fun p => List.any _ p) (funext fun u => ?_)
    rw [Bool.eq_iff_iff, decide_eq_true_iff, cnb_iff, cm_mem]
    exact ⟨fun z => z.2, fun z => ⟨hwm, z⟩⟩
  rw [hany]
  by_cases hc : ∃ u ∈ fbs rs ((ks rs).take i), Cn rs u w1
  · rw [any_cn.mpr hc]
    refine iteF ⟨_, _, _, _, _, _, _, as, rfl, nxy, hFy, ?_⟩
    unfold bds at hBdy ⊢
    rw [hsn, frs_old hc]
    exact hBdy
  rw [Bool.eq_false_iff.mpr (fun z => hc (any_cn.mp z))]
  refine iteT ?_
  -- the walkers
  refine ⟨_, rfl, _, rfl, D, w1, m, rs, rfl, hD.nx nxy, ndr, hwm, l5, l8, nxy.t, fun E n fd2 H2 n2 _ hE hS hU => ?_⟩
  have fl2 : (ks fd2).length ≤ (ks rs).length := nodup_sub hS.nd hU
  refine ⟨E, kvOf n, ks fd2, rfl, .inl hE.at_, by rw [kvOf_keys, hE.kk], by omega, fun ys p hperm hsort hp => ?_⟩
  have hys := cm_sorted asc hwm hS hperm hsort
  subst hys
  refine ⟨p, _, rfl, .inl ⟨SqL.of upd_same, fun t ht => ?_⟩⟩
  have s3 := (same_new hp (.lst ((cm rs w1).map V.str))).trans (same_new ht (.tup ((cm rs w1).map V.str)))
  have ht3 : upd (upd H2 p (.lst ((cm rs w1).map V.str))) t (.tup ((cm rs w1).map V.str)) t = some (.tup ((cm rs w1).map V.str)) := upd_same
  generalize upd (upd H2 p (.lst ((cm rs w1).map V.str))) t (.tup ((cm rs w1).map V.str)) = H3 at s3 ht3 ⊢
  have n13 := (nxy.trans n2).same s3
  have hF3 := s3 _ _ (n2.lst hFy)
  have hB3 := hBdy.tu ((n2.same s3).tu)
  have cml : (cm rs w1).length ≤ 5 := Nat.le_trans (List.length_filter_le _ _) (by omega)
  clear hany hBdy hFy nxy hE hS hU hperm hsort n2 s3 fl2
  -- the joined rooms
  refine ⟨_, rfl, t, rfl, ⟨_, SqT.of ht3⟩, fun J1 hJ => ?_⟩
  refine lc2_gen (n := (cm rs w1).length) (fun k Hy => Same H3 Hy ∧ Hy J1 = some (.lst ((((cm rs w1).take k).flatMap (lk rs)).map V.str))) ⟨same_new hJ _, upd_same⟩ (fun k Hy hk ⟨sy, hJy⟩ => ?_) (fun Hy ⟨sy, hJy⟩ => ?_)
  · refine itt_go (SqT.of (sy _ _ ht3)) (by rw [List.length_map]; exact hk) fun x hx => ?_
    obtain ⟨u, hu, rfl⟩ := str_at hx
    have hum : u ∈ ks rs := (cm_mem.mp (List.mem_of_getElem? hu)).1
    obtain ⟨⟨u', its⟩, hits, eu⟩ := List.mem_map.mp hum
    have eu : u' = u := eu
    subst eu
    have hlk := lk_of ndr hits
    have hl8 : its.length ≤ 8 := l8 _ hits
    obtain ⟨au, hau0⟩ := hD.val ndr hits
    obtain ⟨hau, htu⟩ := hau0 _ ((hD.nx n13).same sy)
    have hfl : (((cm rs w1).take k).flatMap (lk rs)).length ≤ 40 := by
      have : ∀ l : List Str, (∀ x ∈ l, x ∈ ks rs) → (l.flatMap (lk rs)).length ≤ l.length * 8 := fun l => by
        induction l with
        | nil => intro _; exact Nat.le_refl _
        | cons x l ih =>
          intro hl
          obtain ⟨⟨x', ix⟩, h1, h2⟩ := List.mem_map.mp (hl x List.mem_cons_self)
          have h2 : x' = x := h2
          subst h2
          rw [List.flatMap_cons, List.length_append, lk_of ndr h1, List.length_cons]
          have a1 := ih fun y hy => hl y (List.mem_cons_of_mem _ hy)
          have a2 : ix.length ≤ 8 := l8 _ h1
          omega
      refine Nat.le_trans (this _ fun x hx => (cm_mem.mp (List.mem_of_mem_take hx)).1) ?_
      rw [List.length_take]
      omega
    refine ⟨rfl, lcY ?_⟩
    refine ⟨_, rfl, _, rfl, D, .ref au, rfl, hau, au, rfl, ⟨_, SqT.of htu⟩, ?_⟩
    refine in2_gen (n := its.length) (fun j Hz => Same H3 Hz ∧ Hz J1 = some (.lst ((((cm rs w1).take k).flatMap (lk rs) ++ its.take j).map V.str))) ⟨sy, by rw [List.take_zero, List.append_nil]; exact hJy⟩ (fun j Hz hj ⟨sz, hJz⟩ => ?_) (fun Hz ⟨sz, hJz⟩ => ?_)
    · have htz := (hau0 _ ((hD.nx n13).same sz)).2
      refine itt_go (SqT.of htz) (by rw [List.length_map]; exact hj) fun x hx => ?_
      obtain ⟨rm, hrm, rfl⟩ := str_at hx
      refine ⟨rfl, lcY ⟨_, rfl, _, hJz, ?_, same_mut sz hJ _, ?_⟩⟩
      · rw [List.length_map, List.length_append, List.length_take]
        exact sz100 (by omega)
      · rw [upd_same, take_snoc hrm, ← List.append_assoc, List.map_append (l₁ := _ ++ its.take j)]
        rfl
    · refine ⟨?_, sz, ?_⟩
      · have htz := (hau0 _ ((hD.nx n13).same sz)).2
        exact ⟨_, SqT.of htz, by rw [List.length_map]; exact Nat.le_refl _⟩
      · rw [hJz, List.take_length, take_snoc hu, List.flatMap_append, List.flatMap_singleton, hlk]
  refine ⟨⟨_, SqT.of (sy _ _ ht3), by rw [List.length_map]; exact Nat.le_refl _⟩, ?_⟩
  rw [List.take_length] at hJy
  have n1y := n13.same sy
  have hFy := sy _ _ hF3
  have hBy := hB3.tu (Tu.same sy)
  have hty := sy _ _ ht3
  obtain ⟨ra, da, h1, h2, h3⟩ := hs1.h.tu n1y.tu
  -- the pair
  refine ⟨_, rfl, .inl ⟨rfl, _, SqL.of hFy⟩, _, rfl, _, rfl, h, _, _, _, rfl, rfl, SqT.of h1, atI_nat (j := 0) rfl, ra, rfl, ⟨_, SqT.of h2⟩, fun G hG => ?_⟩
  refine lc_tup (K := K) (a := ra) (xs := rooms.map V.str) (fun k Hz => Same Hy Hz ∧ Hz G = some (.lst (((rooms.take k).filter fun x => (cm rs w1).any fun m => decide (x ∈ lk rs m)).map V.str))) ⟨same_new hG _, upd_same⟩ (fun k Hz _ ⟨sz, _⟩ => SqT.of (sz _ _ h2)) (fun k y Hz hy ⟨sz, hGz⟩ => ?_) (fun Hz ⟨sz, hGz⟩ => ?_)
  · obtain ⟨x, hx, rfl⟩ := str_at hy
    refine ⟨rfl, _, rfl, _, rfl, J1, _, rfl, .inl (SqL.of (sz _ _ hJy)), rfl, flat_strs _, _, rfl, ?_⟩
    have ng : (if false = true then !inV (.str x) (((cm rs w1).flatMap (lk rs)).map V.str) else inV (.str x) (((cm rs w1).flatMap (lk rs)).map V.str)) = (cm rs w1).any fun m => decide (x ∈ lk rs m) := by
      rw [if_neg (by decide), inV_str, Bool.eq_iff_iff, decide_eq_true_iff, List.mem_flatMap, List.any_eq_true]
      exact ⟨fun ⟨a, b, c⟩ => ⟨a, b, decide_eq_true c⟩, fun ⟨a, b, c⟩ => ⟨a, b, of_decide_eq_true c⟩⟩
    rw [ng, take_snoc hx, List.filter_append, List.map_append]
    by_cases z : ((cm rs w1).any fun m => decide (x ∈ lk rs m)) = true
    · rw [z]
      refine iteT ⟨_, rfl, _, hGz, ?_, same_mut sz hG _, ?_⟩
      · rw [List.length_map]
        exact sz100 (Nat.le_trans (List.length_filter_le _ _) (by rw [List.length_take]; omega))
      · rw [upd_same, show List.filter (fun x : Str => (cm rs w1).any fun m => decide (x ∈ lk rs m)) [x] = [x] from List.filter_cons_of_pos z]
        rfl
    · rw [Bool.eq_false_iff.mpr z]
      refine iteF ⟨sz, ?_⟩
      rw [show List.filter (fun x : Str => (cm rs w1).any fun m => decide (x ∈ lk rs m)) [x] = [] from List.filter_cons_of_neg z, List.map_nil, List.append_nil]
      exact hGz
  rw [List.length_map, List.take_length] at hGz
  have egr : (rooms.filter fun x => (cm rs w1).any fun m => decide (x ∈ lk rs m)) = gr rooms rs w1 := rfl
  rw [egr] at hGz
  refine ⟨G, _, rfl, .inl ⟨SqL.of hGz, fun t2 ht2 => ⟨(by show 2 ≤ sizeLine; decide), fun t3 ht3 => ?_⟩⟩⟩
  have su := sz.trans ((same_new ht2 (.tup ((gr rooms rs w1).map V.str))).trans (same_new ht3 (.tup [.ref t, .ref t2])))
  have k2 : upd (upd Hz t2 (.tup ((gr rooms rs w1).map V.str))) t3 (.tup [.ref t, .ref t2]) t2 = some (.tup ((gr rooms rs w1).map V.str)) := same_new ht3 _ _ _ upd_same
  have k3 : upd (upd Hz t2 (.tup ((gr rooms rs w1).map V.str))) t3 (.tup [.ref t, .ref t2]) t3 = some (.tup [.ref t, .ref t2]) := upd_same
  show ∃ l xs y, _
  generalize upd (upd Hz t2 (.tup ((gr rooms rs w1).map V.str))) t3 (.tup [.ref t, .ref t2]) = HZ at su k2 k3 ⊢
  have hFZ := su _ _ hFy
  have tum : Tu HZ (upd HZ F (.lst (as.map V.ref ++ [.ref t3]))) := fun b xs w => by
    rw [upd_ne (fun e => by rw [e, hFZ] at w; cases w)]
    exact w
  refine ⟨F, _, _, rfl, rfl, hFZ, ?_, _, _, _, _, _, _, _, as ++ [t3], rfl, (n1y.same su).mut hFZ (Fr.of hF) _, ?_, ?_⟩
  · rw [List.length_map, hBy.len]
    unfold bds
    rw [List.length_map]
    exact sz100 (by omega)
  · rw [upd_same, List.map_append]
    rfl
  · have e3 : bds rooms rs ((ks rs).take (i + 1)) = bds rooms rs ((ks rs).take i) ++ [(cm rs w1, gr rooms rs w1)] := by
      unfold bds
      rw [hsn, frs_new hc, List.map_append]
      rfl
    rw [e3]
    exact ((hBy.tu (Tu.same su)).tu tum).snoc (tum _ _ k3) (tum _ _ (su _ _ hty)) (tum _ _ k2)
abbrev s_grounds : Stmt := top 21
abbrev n_grounds : List Str := ["hall", "state", "walkers", "ground"]
theorem sc_grounds : FnScope n_grounds ["hall", "state"] (defScope s_grounds) := ⟨rfl, rfl, rfl, by decide +kernel, rfl, by decide +kernel, by decide +kernel⟩
theorem ok_grounds (F : FnP K "grounds" s_grounds f fd) (hm : mg "grounds" = some (.ref f)) (c_bands : Cal P w K mg base 8 "bands" (spBands T)) (m_tuple : mg "tuple" = none) :
    Cal P w K mg base 9 "grounds" (spGrounds T) := by
  refine cal_of (F.ok sc_grounds (fun vs H Q E h => ?_) (fun cdv A outer s H vs Q E hr h => ?_)) hm F.kp (F.bindsN (ps := ["hall", "state"]) fun _ _ _ _ _ _ us hl => match us, hl with | [_, _], _ => rfl)
  · obtain ⟨h, st, rooms, rows, faces, places, rfl, hs, hT, q⟩ := h
    rfl
  obtain ⟨h, st, rooms, rows, faces, places, rfl, hs, hT, q⟩ := h
  have nd := sc_grounds.nd
  refine ⟨_, PSs.nox (pss_one (ps_ret (pe_callTy (r := rTpOf K) call_tuple_of (by rfl) m_tuple (by decide +kernel) (pa_cons (pe_lc (own := [("walkers", 2), ("ground", 3)]) (g := (gTup K 2 (gCons (gName 2) (gCons (gName 3) gNil)))) (by rfl) nd (pi_tup (C8.pe_c c_bands hr (by omega) (by rfl) (pa_cons (pv 0) (pa_cons (pv 1) pa_nil)))) (blkOk_by (own := [("walkers", 2), ("ground", 3)]) (N := n_grounds) (sc := defScope s_grounds) (by decide +kernel)) (fun _ _ _ _ _ => (pg_tup (by rfl) (pgs_cons (pg_name (i := 2) nd rfl (Or.inl rfl)) (pgs_cons (pg_name (i := 3) nd rfl (Or.inl rfl)) pgs_nil)))) (fun _ _ _ _ _ => pts_nil) (fun _ _ _ _ _ => (pv 3))) pa_nil)))), ?_⟩
  have l5 := rsOf_len (rooms := rooms) hs.t
  have bl : (bdL rooms rows faces places).length ≤ 5 := by
    unfold bdL bds
    rw [List.length_map]
    refine Nat.le_trans (frs_len _ _) ?_
    unfold ks
    rw [List.length_map]
    exact l5
  refine ⟨_, rfl, _, rfl, h, st, rooms, rows, faces, places, rfl, hs, hT, fun p as H1 n1 hp hB => ⟨p, rfl, ⟨_, SqT.of hp⟩, fun D hD => ?_⟩⟩
  refine lc_tup (K := K) (a := p) (xs := as.map V.ref) (fun k Hx => Same H1 Hx ∧ ∃ es : List Addr, Hx D = some (.lst (es.map V.ref)) ∧ RowsAt Hx es (((bdL rooms rows faces places).map (·.2)).take k)) ⟨same_new hD _, [], upd_same, RowsAt.nil⟩ (fun k Hx _ ⟨sx, _⟩ => SqT.of (sx _ _ hp)) (fun k y Hx hy ⟨sx, es, hDx, hR⟩ => ?_) (fun Hx ⟨sx, es, hDx, hR⟩ => ?_)
  · obtain ⟨a, e, x, y2, rfl, hLe, k1, k2, k3⟩ := (hB.tu (Tu.same sx)).row hy
    have hk : ((bdL rooms rows faces places).map (·.2))[k]? = some e.2 := by rw [List.getElem?_map, hLe]; rfl
    refine ⟨a, _, rfl, SqT.of k1, rfl, _, _, rfl, _, _, rfl, rfl, rfl, lcY ⟨_, rfl, _, hDx, ?_, same_mut sx hD _, es ++ [y2], ?_, ?_⟩⟩
    · rw [List.length_map, hR.1, List.length_take, List.length_map]
      exact sz100 (by omega)
    · rw [upd_same, List.map_append]
      rfl
    · rw [take_snoc hk]
      have tum : Tu Hx (upd Hx D (.lst (es.map V.ref ++ [.ref y2]))) := fun b xs w => by
        rw [upd_ne (fun e => by rw [e, hDx] at w; cases w)]
        exact w
      exact (hR.tu tum).snoc (tum _ _ k3)
  rw [show (as.map V.ref).length = ((bdL rooms rows faces places).map (·.2)).length by rw [List.length_map, List.length_map, hB.len], List.take_length] at hR
  refine ⟨D, _, rfl, .inl ⟨SqL.of hDx, fun t ht => ?_⟩⟩
  have st := same_new ht (.tup (es.map V.ref))
  exact q t _ (n1.same (sx.trans st)) ⟨es, upd_same, hR.tu (Tu.same st)⟩
end
end Td
set_option maxHeartbeats 4000000
namespace Td
open PySem PySem.Spec PyProof.Rows L2
/-! ### bands never change -/
def Rch (S : Stp) (r z : Str) : Prop := ∃ q, Wk S r q z
theorem Rch.refl (S : Stp) (r : Str) : Rch S r r := ⟨[], .nil⟩
theorem Rch.step {S : Stp} {r u l v : Str} (h : Rch S r u) (g : [l, v] ∈ S u) : Rch S r v := by
  obtain ⟨q, h⟩ := h
  exact ⟨_, h.snoc g⟩
theorem Rch.ind {S : Stp} {r z : Str} {P : Str → Prop} (h : Rch S r z) (h0 : P r) (h1 : ∀ u l v, Rch S r u → P u → [l, v] ∈ S u → P v) : P z := by
  obtain ⟨q, h⟩ := h
  induction h with
  | nil => exact h0
  | snoc hw g ih => exact h1 _ _ _ ⟨_, hw⟩ ih g
/-- one edge turned -/
structure Flp (S S' : Stp) (x y : Str) : Prop where
  fw : ∀ u l v, [l, v] ∈ S u → (u = x ∧ v = y) ∨ [l, v] ∈ S' u
  bw : ∀ u l v, [l, v] ∈ S' u → (u = y ∧ v = x) ∨ [l, v] ∈ S u
  xy : ∃ l, [l, y] ∈ S x
  yx : ∃ l, [l, x] ∈ S' y
section
variable {S S' : Stp} {x y r z : Str}
theorem Flp.symm (F : Flp S S' x y) : Flp S' S y x := ⟨F.bw, F.fw, F.yx, F.xy⟩
theorem Flp.pivot (F : Flp S S' x y) (h : Rch S x z) : Rch S' y z := by
  obtain ⟨l0, g0⟩ := F.yx
  refine h.ind ((Rch.refl S' y).step g0) fun u l v _ ih g => ?_
  rcases F.fw u l v g with ⟨_, rfl⟩ | g
  · exact Rch.refl _ _
  · exact ih.step g
theorem Flp.pivot_iff (F : Flp S S' x y) : Rch S x z ↔ Rch S' y z := ⟨F.pivot, F.symm.pivot⟩
theorem Flp.off (F : Flp S S' x y) (hx : ¬ Rch S r x) (hy : ¬ Rch S r y) : Rch S r z ↔ Rch S' r z := by
  constructor
  · intro h
    refine h.ind (Rch.refl _ _) fun u l v hu ih g => ?_
    rcases F.fw u l v g with ⟨rfl, _⟩ | g
    · exact absurd hu hx
    · exact ih.step g
  · intro h
    refine h.ind (Rch.refl _ _) fun u l v _ ih g => ?_
    rcases F.bw u l v g with ⟨rfl, _⟩ | g
    · exact absurd ih hy
    · exact ih.step g
theorem Flp.on (F : Flp S S' x y) (h : Rch S r z) : Rch S' r z ∨ Rch S x z := by
  refine h.ind (P := fun z => Rch S' r z ∨ Rch S x z) (.inl (Rch.refl _ _)) fun u l v _ ih g => ?_
  rcases ih with ih | ih
  · rcases F.fw u l v g with ⟨rfl, rfl⟩ | g'
    · exact .inr ((Rch.refl _ _).step g)
    · exact .inl (ih.step g')
  · exact .inr (ih.step g)
theorem Flp.tch (F : Flp S S' x y) (h : Rch S r x ∨ Rch S r y) : Rch S' r x ∨ Rch S' r y := Classical.byContradiction fun n => by
  have n1 : ¬ Rch S' r x := fun z => n (.inl z)
  have n2 : ¬ Rch S' r y := fun z => n (.inr z)
  rcases h with h | h
  · exact n1 ((F.symm.off n2 n1).mpr h)
  · exact n2 ((F.symm.off n2 n1).mpr h)
end
/-- reaches that change within one walker's -/
structure Alt (rs rs' : Rs) (w : Str) : Prop where
  kk : ks rs = ks rs'
  nd : (ks rs).Nodup
  wm : w ∈ ks rs
  ww : ∀ x, x ∈ lk rs w ↔ x ∈ lk rs' w
  ch : ∀ u ∈ ks rs, (∀ x, x ∈ lk rs u ↔ x ∈ lk rs' u) ∨ ((∃ x, x ∈ lk rs u ∧ x ∈ lk rs w) ∧ (∃ x, x ∈ lk rs' u ∧ x ∈ lk rs' w) ∧ (∀ x ∈ lk rs u, x ∈ lk rs' u ∨ x ∈ lk rs w) ∧ (∀ x ∈ lk rs' u, x ∈ lk rs u ∨ x ∈ lk rs' w))
section
variable {rs rs' : Rs} {w u v : Str}
theorem Alt.symm (A : Alt rs rs' w) : Alt rs' rs w := ⟨A.kk.symm, A.kk ▸ A.nd, A.kk ▸ A.wm, fun x => (A.ww x).symm, fun u hu => by
  rcases A.ch u (A.kk ▸ hu) with h | ⟨h1, h2, h3, h4⟩
  · exact .inl fun x => (h x).symm
  · exact .inr ⟨h2, h1, h4, h3⟩⟩
theorem Alt.adj (A : Alt rs rs' w) (hu : u ∈ ks rs) (hv : v ∈ ks rs) {x : Str} (h1 : x ∈ lk rs u) (h2 : x ∈ lk rs v) : Cn rs' u v := by
  have nd' : (ks rs').Nodup := A.kk ▸ A.nd
  have hu' : u ∈ ks rs' := A.kk ▸ hu
  have hv' : v ∈ ks rs' := A.kk ▸ hv
  have hw' : w ∈ ks rs' := A.kk ▸ A.wm
  -- x is in u's, or u changes and x is in w's
  have split : ∀ {t}, t ∈ ks rs → x ∈ lk rs t → x ∈ lk rs' t ∨ (Cn rs' t w ∧ x ∈ lk rs' w) := fun {t} ht h => by
    rcases A.ch t ht with c | ⟨_, ⟨z, z1, z2⟩, c3, _⟩
    · exact .inl ((c x).mp h)
    · rcases c3 x h with e | e
      · exact .inl e
      · exact .inr ⟨Cn.share nd' (A.kk ▸ ht) hw' z1 z2, (A.ww x).mp e⟩
  rcases split hu h1 with a | ⟨a1, a2⟩
  · rcases split hv h2 with b | ⟨b1, b2⟩
    · exact Cn.share nd' hu' hv' a b
    · exact (Cn.share nd' hu' hw' a b2).trans (b1.symm nd' hv')
  · rcases split hv h2 with b | ⟨b1, b2⟩
    · exact a1.trans (Cn.share nd' hw' hv' a2 b)
    · exact a1.trans (b1.symm nd' hv')
theorem Alt.cn1 (A : Alt rs rs' w) (hu : u ∈ ks rs) (h : Cn rs u v) : Cn rs' u v := by
  obtain ⟨q, h⟩ := h
  induction h with
  | nil => exact Cn.refl _ _
  | @snoc p x l y hw g ih =>
    have hx : x ∈ ks rs := Cn.mem hu ⟨_, hw⟩
    obtain ⟨e, he, q, z, h1, h2⟩ := nbr_mem.mp g
    cases q
    refine ih.trans (A.adj hx (ks_mem he) (x := z) h2 ?_)
    rw [lk_of (m := e.2) A.nd he]
    exact h1
theorem Alt.cn (A : Alt rs rs' w) (hu : u ∈ ks rs) : Cn rs u v ↔ Cn rs' u v := ⟨A.cn1 hu, A.symm.cn1 (A.kk ▸ hu)⟩
theorem Alt.cnb (A : Alt rs rs' w) (hu : u ∈ ks rs) : cnb rs u v = cnb rs' u v := by
  rw [Bool.eq_iff_iff, cnb_iff, cnb_iff]
  exact A.cn hu
theorem Alt.cm (A : Alt rs rs' w) (hu : u ∈ ks rs) : cm rs u = cm rs' u := by
  unfold Td.cm
  rw [← A.kk]
  exact List.filter_congr fun v _ => A.cnb hu
theorem Alt.gr1 (A : Alt rs rs' w) (hu : u ∈ ks rs) {x : Str} (h : ∃ m ∈ Td.cm rs u, x ∈ lk rs m) : ∃ m ∈ Td.cm rs' u, x ∈ lk rs' m := by
  obtain ⟨m, hm, hx⟩ := h
  obtain ⟨m1, m2⟩ := cm_mem.mp hm
  rcases A.ch m m1 with c | ⟨⟨z, z1, z2⟩, _, c3, _⟩
  · exact ⟨m, A.cm hu ▸ hm, (c x).mp hx⟩
  · rcases c3 x hx with e | e
    · exact ⟨m, A.cm hu ▸ hm, e⟩
    · exact ⟨w, A.cm hu ▸ cm_mem.mpr ⟨A.wm, m2.trans (Cn.share A.nd m1 A.wm z1 z2)⟩, (A.ww x).mp e⟩
theorem Alt.gr (A : Alt rs rs' w) (hu : u ∈ ks rs) (rooms : List Str) : gr rooms rs u = gr rooms rs' u := by
  have e : ∀ x, ((Td.cm rs u).any fun m => decide (x ∈ lk rs m)) = (Td.cm rs' u).any fun m => decide (x ∈ lk rs' m) := fun x => by
    rw [Bool.eq_iff_iff, List.any_eq_true, List.any_eq_true]
    constructor
    · rintro ⟨m, h1, h2⟩
      obtain ⟨m', h3, h4⟩ := A.gr1 hu ⟨m, h1, of_decide_eq_true h2⟩
      exact ⟨m', h3, decide_eq_true h4⟩
    · rintro ⟨m, h1, h2⟩
      obtain ⟨m', h3, h4⟩ := A.symm.gr1 (A.kk ▸ hu) ⟨m, h1, of_decide_eq_true h2⟩
      exact ⟨m', h3, decide_eq_true h4⟩
  unfold Td.gr
  exact List.filter_congr fun x _ => e x
theorem Alt.fbs (A : Alt rs rs' w) : ∀ l, (∀ x ∈ l, x ∈ ks rs) → fbs rs l = fbs rs' l := snoc_ind (fun _ => rfl) fun l t ih hl => by
  have ih := ih fun x hx => hl x (List.mem_append_left _ hx)
  rw [frs_snoc, frs_snoc, ← ih]
  have e : ((Td.fbs rs l).any fun u => Td.cnb rs u t) = (Td.fbs rs l).any fun u => Td.cnb rs' u t := by
    rw [Bool.eq_iff_iff, List.any_eq_true, List.any_eq_true]
    have k : ∀ u ∈ Td.fbs rs l, Td.cnb rs u t = Td.cnb rs' u t := fun u hu => A.cnb (hl u (List.mem_append_left _ (frs_sub rs l u hu)))
    exact ⟨fun ⟨u, h1, h2⟩ => ⟨u, h1, by rw [← k u h1]; exact h2⟩, fun ⟨u, h1, h2⟩ => ⟨u, h1, by rw [k u h1]; exact h2⟩⟩
  rw [e]
theorem Alt.bds (A : Alt rs rs' w) (rooms : List Str) : bds rooms rs (ks rs) = bds rooms rs' (ks rs') := by
  unfold Td.bds
  rw [← A.kk, ← A.fbs (ks rs) fun x h => h]
  refine List.map_congr_left fun u hu => ?_
  have hk := frs_sub rs _ u hu
  rw [A.cm hk, A.gr hk]
end
theorem oth_oth {a b f : Str} (hab : a ≠ b) (hf : f = a ∨ f = b) : oth a b (oth a b f) = f := by
  unfold oth
  rcases hf with rfl | rfl
  · rw [if_pos rfl, if_neg hab.symm]
  · rw [if_neg hab.symm, if_pos rfl]
theorem flp_outs {rows : List (List Str)} {faces : List Str} (hr : ∀ r ∈ rows, ∃ n a b : Str, r = [n, a, b]) {i : Nat} {d a b f : Str} (hi : rows[i]? = some [d, a, b]) (hf : faces[i]? = some f) (hab : a ≠ b) (hfab : f = a ∨ f = b) :
    Flp (outs rows faces) (outs rows (faces.set i (oth a b f))) f (oth a b f) := by
  have il : i < faces.length := (List.getElem?_eq_some_iff.mp hf).1
  have hf' : (faces.set i (oth a b f))[i]? = some (oth a b f) := by rw [List.getElem?_set_self il]
  have g2 : [d, oth a b (oth a b f)] ∈ outs rows (faces.set i (oth a b f)) (oth a b f) := outs_of hi hf'
  rw [oth_oth hab hfab] at g2
  refine ⟨fun u l v g => ?_, fun u l v g => ?_, ⟨d, outs_of hi hf⟩, ⟨d, g2⟩⟩
  · obtain ⟨k, l', a', b', e, hk, hfk⟩ := outs_mem hr g
    cases e
    by_cases z : k = i
    · subst z
      rw [hi] at hk
      cases hk
      rw [hf] at hfk
      cases hfk
      exact .inl ⟨rfl, rfl⟩
    · exact .inr (outs_of hk (by rw [List.getElem?_set_ne (fun e => z e.symm)]; exact hfk))
  · obtain ⟨k, l', a', b', e, hk, hfk⟩ := outs_mem hr g
    cases e
    by_cases z : k = i
    · subst z
      rw [hi] at hk
      cases hk
      rw [hf'] at hfk
      cases hfk
      exact .inl ⟨rfl, oth_oth hab hfab⟩
    · refine .inr (outs_of hk ?_)
      rw [List.getElem?_set_ne (fun e => z e.symm)] at hfk
      exact hfk
theorem rch_mem {rooms : List Str} {rows : List (List Str)} {faces : List Str} {r x : Str} : x ∈ rch rooms rows faces r ↔ x ∈ rooms ∧ Rch (outs rows faces) r x := by
  unfold rch
  rw [List.mem_filter, rchB_iff]
  rfl
theorem rsOf_at {rooms : List Str} {rows : List (List Str)} {faces : List Str} {places : List (List Str)} {k : Nat} {w r : Str} (h : places[k]? = some [w, r]) : (rsOf rooms rows faces places)[k]? = some (w, rch rooms rows faces r) := by
  unfold rsOf
  rw [List.getElem?_map, h]
  rfl
theorem lk_rsOf {rooms : List Str} {rows : List (List Str)} {faces : List Str} {places : List (List Str)} (t : StV rooms rows faces places) {k : Nat} {w r : Str} (h : places[k]? = some [w, r]) : lk (rsOf rooms rows faces places) w = rch rooms rows faces r := lk_of (rsOf_nd t) (List.mem_of_getElem? (rsOf_at h))
/-- a pass changes reaches within the walker's only -/
theorem alt_stp {rooms : List Str} {rows : List (List Str)} {s s' : Sta} {p : Deed} (hv : HallV rooms rows) (ht : StV rooms rows s.1 s.2) (h : stp rows s p = some s') : Alt (rsOf rooms rows s.1 s.2) (rsOf rooms rows s'.1 s'.2) p.1 := by
  have ht' := stp_st hv ht h
  obtain ⟨i, j, a, b, f, hi, hf, hj, hab, hfab, ha, hb, rfl⟩ := stp_some hv ht h
  have hr : ∀ r ∈ rows, ∃ n a b : Str, r = [n, a, b] := fun r hr => by
    obtain ⟨n, a, b, e, _⟩ := hv.row r hr
    exact ⟨n, a, b, e⟩
  have F := flp_outs hr hi hf hab hfab
  have fr : f ∈ rooms := by rcases hfab with rfl | rfl <;> assumption
  have yr : oth a b f ∈ rooms := oth_in ha hb
  have jl : j < s.2.length := (List.getElem?_eq_some_iff.mp hj).1
  have hj' : (s.2.set j [p.1, oth a b f])[j]? = some [p.1, oth a b f] := by rw [List.getElem?_set_self jl]
  have kk : ks (rsOf rooms rows s.1 s.2) = ks (rsOf rooms rows (s.1.set i (oth a b f)) (s.2.set j [p.1, oth a b f])) := by
    rw [rsOf_ks, rsOf_ks, map_hd0_set hj]
  have l1 := lk_rsOf ht hj
  have l2 := lk_rsOf ht' hj'
  have ww : ∀ x, x ∈ lk (rsOf rooms rows s.1 s.2) p.1 ↔ x ∈ lk (rsOf rooms rows (s.1.set i (oth a b f)) (s.2.set j [p.1, oth a b f])) p.1 := fun x => by
    rw [l1, l2, rch_mem, rch_mem, F.pivot_iff]
  refine ⟨kk, rsOf_nd ht, ks_mem (List.mem_of_getElem? (rsOf_at hj)), ww, fun u hu => ?_⟩
  obtain ⟨e, he, rfl⟩ := List.mem_map.mp hu
  obtain ⟨k, hk⟩ := List.mem_iff_getElem?.mp he
  have hkp : ∃ q, s.2[k]? = some q := by
    unfold rsOf at hk
    rw [List.getElem?_map] at hk
    cases z : s.2[k]? with
    | none => rw [z] at hk; cases hk
    | some q => exact ⟨q, rfl⟩
  obtain ⟨q, hq⟩ := hkp
  obtain ⟨w, r, rfl, _, hrr⟩ := ht.pl q (List.mem_of_getElem? hq)
  rw [rsOf_at hq] at hk
  cases hk
  by_cases z : k = j
  · subst z
    rw [hj] at hq
    cases hq
    exact .inl ww
  have hq' : (s.2.set j [p.1, oth a b f])[k]? = some [w, r] := by rw [List.getElem?_set_ne (fun e => z e.symm)]; exact hq
  show (∀ x, x ∈ lk _ w ↔ _) ∨ _
  rw [lk_rsOf ht hq, lk_rsOf ht' hq', l1, l2]
  by_cases tc : Rch (outs rows s.1) r f ∨ Rch (outs rows s.1) r (oth a b f)
  · have tc' := F.tch tc
    refine .inr ⟨?_, ?_, fun x hx => ?_, fun x hx => ?_⟩
    · rcases tc with t | t
      · exact ⟨f, rch_mem.mpr ⟨fr, t⟩, rch_mem.mpr ⟨fr, Rch.refl _ _⟩⟩
      · obtain ⟨l, g⟩ := F.xy
        exact ⟨_, rch_mem.mpr ⟨yr, t⟩, rch_mem.mpr ⟨yr, (Rch.refl _ _).step g⟩⟩
    · rcases tc' with t | t
      · obtain ⟨l, g⟩ := F.yx
        exact ⟨f, rch_mem.mpr ⟨fr, t⟩, rch_mem.mpr ⟨fr, (Rch.refl _ _).step g⟩⟩
      · exact ⟨_, rch_mem.mpr ⟨yr, t⟩, rch_mem.mpr ⟨yr, Rch.refl _ _⟩⟩
    · obtain ⟨x1, x2⟩ := rch_mem.mp hx
      rcases F.on x2 with t | t
      · exact .inl (rch_mem.mpr ⟨x1, t⟩)
      · exact .inr (rch_mem.mpr ⟨x1, t⟩)
    · obtain ⟨x1, x2⟩ := rch_mem.mp hx
      rcases F.symm.on x2 with t | t
      · exact .inl (rch_mem.mpr ⟨x1, t⟩)
      · exact .inr (rch_mem.mpr ⟨x1, t⟩)
  · refine .inl fun x => ?_
    rw [rch_mem, rch_mem, F.off (fun t => tc (.inl t)) (fun t => tc (.inr t))]
theorem bdL_stp {rooms : List Str} {rows : List (List Str)} {s s' : Sta} {p : Deed} (hv : HallV rooms rows) (ht : StV rooms rows s.1 s.2) (h : stp rows s p = some s') : bdL rooms rows s'.1 s'.2 = bdL rooms rows s.1 s.2 := ((alt_stp hv ht h).bds rooms).symm
theorem bdL_goM {rooms : List Str} {rows : List (List Str)} (hv : HallV rooms rows) : ∀ {l : List Deed} {s s' : Sta}, StV rooms rows s.1 s.2 → goM rows s l = some s' → bdL rooms rows s'.1 s'.2 = bdL rooms rows s.1 s.2
  | [], s, s', ht, h => by cases h; rfl
  | p :: l, s, s', ht, h => by
    cases z : stp rows s p with
    | none =>
      have h : (stp rows s p).bind (fun s1 => goM rows s1 l) = some s' := h
      rw [z] at h
      cases h
    | some s1 =>
      have h2 : goM rows s1 l = some s' := by
        have h : (stp rows s p).bind (fun s1 => goM rows s1 l) = some s' := h
        rw [z] at h
        exact h
      rw [bdL_goM hv (stp_st hv ht z) h2, bdL_stp hv ht z]
theorem stillL_eq {rooms : List Str} {rows : List (List Str)} {f1 f2 : List Str} {p1 p2 : List (List Str)} (h : bdL rooms rows f1 p1 = bdL rooms rows f2 p2) : stillL rooms rows f1 p1 = stillL rooms rows f2 p2 := by
  unfold stillL
  rw [h]
/-- everybody stands on the ground of his band -/
theorem own_ground {rooms : List Str} {rows : List (List Str)} {faces : List Str} {places : List (List Str)} (ht : StV rooms rows faces places) {k : Nat} {w r x : Str} (hk : places[k]? = some [w, r]) (hx : x ∈ rch rooms rows faces r) :
    ∀ e ∈ bdL rooms rows faces places, w ∈ e.1 → x ∈ e.2 := fun e he hw => by
  obtain ⟨u, hu, rfl⟩ := List.mem_map.mp he
  refine gr_mem.mpr ⟨(rch_mem.mp hx).1, w, hw, ?_⟩
  rw [lk_rsOf ht hk]
  exact hx
theorem in_band {rooms : List Str} {rows : List (List Str)} {faces : List Str} {places : List (List Str)} (ht : StV rooms rows faces places) {k : Nat} {w r : Str} (hk : places[k]? = some [w, r]) : ∃ e ∈ bdL rooms rows faces places, w ∈ e.1 := by
  have hw := ks_mem (List.mem_of_getElem? (rsOf_at (rooms := rooms) (rows := rows) (faces := faces) hk))
  obtain ⟨u, h1, h2⟩ := frs_all (rsOf rooms rows faces places) _ w hw
  exact ⟨_, List.mem_map.mpr ⟨u, h1, rfl⟩, cm_mem.mpr ⟨hw, h2⟩⟩
/-- a still door isn't passed -/
theorem still_stp {rooms : List Str} {rows : List (List Str)} {s s' : Sta} {p : Deed} (hv : HallV rooms rows) (ht : StV rooms rows s.1 s.2) (h : stp rows s p = some s') : p.2 ∉ stillL rooms rows s.1 s.2 := by
  obtain ⟨i, j, a, b, f, hi, hf, hj, hab, hfab, ha, hb, rfl⟩ := stp_some hv ht h
  intro hm
  unfold stillL at hm
  obtain ⟨row, h1, h2⟩ := List.mem_map.mp hm
  obtain ⟨h3, h4⟩ := List.mem_filter.mp h1
  obtain ⟨k, hk⟩ := List.mem_iff_getElem?.mp h3
  have ek : k = i := at_one (l := rows) hv.dn hk hi h2
  subst ek
  rw [hi] at hk
  cases hk
  have g : [p.2, oth a b f] ∈ outs rows s.1 f := outs_of hi hf
  have fr : f ∈ rooms := by rcases hfab with rfl | rfl <;> assumption
  have x1 : f ∈ rch rooms rows s.1 f := rch_mem.mpr ⟨fr, Rch.refl _ _⟩
  have x2 : oth a b f ∈ rch rooms rows s.1 f := rch_mem.mpr ⟨oth_in ha hb, (Rch.refl _ _).step g⟩
  obtain ⟨e, he, hw⟩ := in_band ht hj
  have y1 := own_ground ht hj x1 e he hw
  have y2 := own_ground ht hj x2 e he hw
  have lot : lotB ((bdL rooms rows s.1 s.2).map (·.2)) a b = true := by
    unfold lotB
    refine List.any_eq_true.mpr ⟨e.2, List.mem_map.mpr ⟨e, he, rfl⟩, ?_⟩
    rw [Bool.and_eq_true, decide_eq_true_eq, decide_eq_true_eq]
    unfold oth at y2
    rcases hfab with rfl | rfl
    · rw [if_pos rfl] at y2
      exact ⟨y1, y2⟩
    · rw [if_neg hab.symm] at y2
      exact ⟨y2, y1⟩
  have h4 : (!lotB ((bdL rooms rows s.1 s.2).map (·.2)) a b) = true := h4
  rw [lot] at h4
  cases h4
end Td
set_option maxHeartbeats 4000000
namespace Td
open PySem PySem.Spec PyProof.Rows L2 LamX NdefX
def spFaceM (K : PySem.W.Frag) : Sp := fun vs H Q E => ∃ (h st : Addr) (x : Str) (rooms : List Str) (rows : List (List Str)) (faces : List Str) (places : List (List Str)), vs = [.ref h, .ref st, .str x] ∧ HS H h rooms rows ∧ HallV rooms rows ∧ HZ H st faces places ∧ faces.length = rows.length ∧
  (∀ (i : Nat) (a b f : Str), rows[i]? = some [x, a, b] → faces[i]? = some f → ∀ H', Same H H' → Q (.str f) H') ∧ (x ∉ rows.map hd0 → errW K E "UnknownDoor" "name" (.str x) H)
def spEndsM (K : PySem.W.Frag) : Sp := fun vs H Q E => ∃ (h : Addr) (x : Str) (rooms : List Str) (rows : List (List Str)), vs = [.ref h, .str x] ∧ HS H h rooms rows ∧ HallV rooms rows ∧
  (∀ (i : Nat) (a b : Str), rows[i]? = some [x, a, b] → ∀ p H', Same H H' → H' p = some (.tup [.str a, .str b]) → Q (.ref p) H') ∧ (x ∉ rows.map hd0 → errW K E "UnknownDoor" "name" (.str x) H)
def spCanPM (K : PySem.W.Frag) : Sp := fun vs H Q E => ∃ (h st : Addr) (w x : Str) (rooms : List Str) (rows : List (List Str)) (faces : List Str) (places : List (List Str)), vs = [.ref h, .ref st, .str w, .str x] ∧ HSy H h st rooms rows faces places ∧
  (w ∉ places.map hd0 → errW K E "UnknownWalker" "name" (.str w) H) ∧ (w ∈ places.map hd0 → x ∉ rows.map hd0 → errW K E "UnknownDoor" "name" (.str x) H) ∧
  (∀ (i j : Nat) (a b f r : Str), rows[i]? = some [x, a, b] → faces[i]? = some f → places[j]? = some [w, r] → ∀ H', Same H H' → Q (.bl (decide (f = r))) H')
def spTurnM (K : PySem.W.Frag) : Sp := fun vs H Q E => ∃ (h st : Addr) (x : Str) (rooms : List Str) (rows : List (List Str)) (faces : List Str) (places : List (List Str)), vs = [.ref h, .ref st, .str x] ∧ HSy H h st rooms rows faces places ∧
  (x ∉ rows.map hd0 → errW K E "UnknownDoor" "name" (.str x) H) ∧ (∀ (i : Nat) (a b f : Str), rows[i]? = some [x, a, b] → faces[i]? = some f → ∀ p H', Same H H' → HZ H' p (faces.set i (oth a b f)) places → Q (.ref p) H')
def spPassM (K : PySem.W.Frag) : Sp := fun vs H Q E => ∃ (h st : Addr) (w x : Str) (rooms : List Str) (rows : List (List Str)) (faces : List Str) (places : List (List Str)), vs = [.ref h, .ref st, .str w, .str x] ∧ HSy H h st rooms rows faces places ∧
  (w ∉ places.map hd0 → errW K E "UnknownWalker" "name" (.str w) H) ∧ (w ∈ places.map hd0 → x ∉ rows.map hd0 → errW K E "UnknownDoor" "name" (.str x) H) ∧
  (∀ (i j : Nat) (a b f r : Str), rows[i]? = some [x, a, b] → faces[i]? = some f → places[j]? = some [w, r] → (f ≠ r → errW K E "Blocked" "index" (.int 0) H) ∧
    (f = r → ∀ p H', Same H H' → HZ H' p (faces.set i (oth a b f)) (places.set j [w, oth a b f]) → Q (.ref p) H'))
def spCanDM : Sp := fun vs H Q _ => ∃ (h st : Addr) (w x : Str) (rooms : List Str) (rows : List (List Str)) (faces : List Str) (places : List (List Str)), vs = [.ref h, .ref st, .str w, .str x] ∧ HSy H h st rooms rows faces places ∧
  ((w ∉ places.map hd0 ∨ x ∉ rows.map hd0) → ∀ H', Same H H' → Q (.bl false) H') ∧
  (∀ (i j : Nat) (a b f r : Str), rows[i]? = some [x, a, b] → faces[i]? = some f → places[j]? = some [w, r] → ∀ H', Same H H' → Q (.bl (decide (f = r))) H')
def spRunM (K : PySem.W.Frag) : Sp := fun vs H Q E => ∃ (h st r : Addr) (rooms : List Str) (rows : List (List Str)) (faces : List Str) (places : List (List Str)) (l : List Deed), vs = [.ref h, .ref st, .ref r] ∧ HSy H h st rooms rows faces places ∧ Rw K H r l ∧
  (∀ (i : Nat) (p : Deed) (s' : Sta), l[i]? = some p → goM rows (faces, places) (l.take i) = some s' → stp rows s' p = none → errW K E "Blocked" "index" (.int i) H) ∧
  (∀ s', goM rows (faces, places) l = some s' → ∀ p H', Same H H' → HZ H' p s'.1 s'.2 → Q (.ref p) H')
section
variable {P : Program} {w : World} {K : PySem.W.Frag} {mg : Str → Option Value} {base : Heap} {f : Addr} {fd : FuncData}
abbrev s_ends_of : Stmt := top 7
abbrev n_ends_of : List Str := ["hall", "door", "name", "one", "other"]
theorem sc_ends_of : FnScope n_ends_of ["hall", "door"] (defScope s_ends_of) := ⟨rfl, rfl, rfl, by decide +kernel, rfl, by decide +kernel, by decide +kernel⟩
theorem ok_ends_of (F : FnP K "ends_of" s_ends_of f fd) (hm : mg "ends_of" = some (.ref f)) (M_UnknownDoor : ErrM P w K mg base "UnknownDoor") :
    CalX P w K mg base 3 "ends_of" (spEndsM K) := by
  refine ⟨f, fd, ["hall", "door"], F.ok (CX := L2.CX P w) sc_ends_of (fun vs H Q E h => ?_) (fun cdv A outer s H vs Q E hr h => ?_), hm, F.kp, F.bindsN (ps := ["hall", "door"]) fun _ _ _ _ _ _ us hl => match us, hl with | [_, _], _ => rfl⟩
  · obtain ⟨h, x, rooms, rows, rfl, hH, hV, q1, q2⟩ := h
    rfl
  obtain ⟨h, x, rooms, rows, rfl, hH, hV, q1, q2⟩ := h
  have nd := sc_ends_of.nd
  refine ⟨_, (pss_cons (ps_for (passes_of rfl) rfl (pi_tup (pe_ix (r := rIxT K) ix_tup (pv 0) pe_int (fun _ _ => rfl))) (pg_tup (by rfl) (pgs_cons (pg_name (i := 2) nd rfl (Or.inl rfl)) (pgs_cons (pg_name (i := 3) nd rfl (Or.inl rfl)) (pgs_cons (pg_name (i := 4) nd rfl (Or.inl rfl)) pgs_nil)))) (pss_one (ps_if (pt_cmpR op_eq (pv 2) (pv 1) (nomark _)) (pss_one (ps_ret (pe_tup (pa_cons (pv 3) (pa_cons (pv 4) pa_nil))))) pss_nil)))
    (pss_one (ps_raise rfl (takes_of rfl rfl rfl rfl) (pmk_err M_UnknownDoor hr (by omega) (by rfl) (pa_cons (pv 1) pa_nil))))), ?_⟩
  obtain ⟨r, d, h1, h2, as, h3, hRA⟩ := hH
  have hal : (as.map V.ref).length = rows.length := by rw [List.length_map]; exact hRA.1
  refine ⟨_, rfl, h, _, _, _, rfl, rfl, SqT.of h1, atI_nat (j := 1) rfl, d, rfl, ⟨_, SqT.of h3⟩, ?_⟩
  refine for_tup (K := K) (a := d) (xs := as.map V.ref) (fun i σ' H' => (∃ v2 v3 v4 : Option V, σ' = [some (.ref h), some (.str x), v2, v3, v4]) ∧ Same H H' ∧ x ∉ (rows.take i).map hd0) ⟨⟨none, none, none, rfl⟩, Same.refl H, by simp⟩ (fun i σ' H' _ ⟨_, sx, _⟩ => SqT.of (sx _ _ h3)) (fun i y σ' H' hy hP => ?_) (fun σ' H' hP => ?_)
  · obtain ⟨⟨v2, v3, v4, rfl⟩, sx, nf⟩ := hP
    obtain ⟨a, p, rfl, hpi, hpa⟩ := hRA.row hy
    obtain ⟨n, e1, e2, rfl, _⟩ := hV.row p (List.mem_of_getElem? hpi)
    refine ⟨a, _, rfl, SqT.of (sx _ _ hpa), rfl, _, _, rfl, _, _, rfl, _, _, rfl, rfl, ?_⟩
    refine ⟨_, rfl, _, rfl, rfl, _, rfl, ?_⟩
    by_cases e : n = x
    · rw [decide_eq_true (show V.str n = V.str x by rw [e])]
      refine iteT ?_
      refine ⟨_, rfl, _, rfl, (by show 2 ≤ sizeLine; decide), fun t ht => ?_⟩
      exact q1 i e1 e2 (by rw [hpi, e]) t _ (sx.trans (same_new ht _)) upd_same
    · rw [decide_eq_false (fun z => e (V.str.inj z))]
      refine iteF ?_
      exact ⟨⟨_, _, _, rfl⟩, sx, no_before hpi e nf⟩
  · obtain ⟨⟨v2, v3, v4, rfl⟩, sx, nf⟩ := hP
    rw [hal, List.take_length] at nf
    exact ⟨_, rfl, mk_end_k fun d hd => q2 nf H' sx d hd⟩
abbrev s_face_of : Stmt := top 33
abbrev n_face_of : List Str := ["hall", "state", "door", "face", "name", "one", "other"]
theorem sc_face_of : FnScope n_face_of ["hall", "state", "door"] (defScope s_face_of) := ⟨rfl, rfl, rfl, by decide +kernel, rfl, by decide +kernel, by decide +kernel⟩
theorem ok_face_of (F : FnP K "face_of" s_face_of f fd) (hm : mg "face_of" = some (.ref f)) (M_UnknownDoor : ErrM P w K mg base "UnknownDoor") (m_zip : mg "zip" = none) :
    CalX P w K mg base 3 "face_of" (spFaceM K) := by
  refine ⟨f, fd, ["hall", "state", "door"], F.ok (CX := L2.CX P w) sc_face_of (fun vs H Q E h => ?_) (fun cdv A outer s H vs Q E hr h => ?_), hm, F.kp, F.bindsN (ps := ["hall", "state", "door"]) fun _ _ _ _ _ _ us hl => match us, hl with | [_, _, _], _ => rfl⟩
  · obtain ⟨h, st, x, rooms, rows, faces, places, rfl, hH, hV, hS, hfl, q1, q2⟩ := h
    rfl
  obtain ⟨h, st, x, rooms, rows, faces, places, rfl, hH, hV, hS, hfl, q1, q2⟩ := h
  have nd := sc_face_of.nd
  refine ⟨_, (pss_cons (ps_for (passes_of rfl) rfl (RZ.pi_zipA (by rfl) m_zip (pa_cons (pe_ix (r := rIxT K) ix_tup (pv 0) pe_int (fun _ _ => rfl)) (pa_cons (pe_ix (r := rIxT K) ix_tup (pv 1) pe_int (fun _ _ => rfl)) pa_nil))) (pg_tup (by rfl) (pgs_cons (pg_tup (by rfl) (pgs_cons (pg_name (i := 4) nd rfl (Or.inl rfl)) (pgs_cons (pg_name (i := 5) nd rfl (Or.inl rfl)) (pgs_cons (pg_name (i := 6) nd rfl (Or.inl rfl)) pgs_nil)))) (pgs_cons (pg_name (i := 3) nd rfl (Or.inl rfl)) pgs_nil))) (pss_one (ps_if (pt_cmpR op_eq (pv 4) (pv 2) (nomark _)) (pss_one (ps_ret (pv 3))) pss_nil)))
    (pss_one (ps_raise rfl (takes_of rfl rfl rfl rfl) (pmk_err M_UnknownDoor hr (by omega) (by rfl) (pa_cons (pv 2) pa_nil))))), ?_⟩
  obtain ⟨r, d, h1, h2, as, h3, hRA⟩ := hH
  obtain ⟨fa, pl, g1, g2, g3⟩ := hS
  have hal : as.length = rows.length := hRA.1
  refine ⟨_, rfl, h, _, _, _, rfl, rfl, SqT.of h1, atI_nat (j := 1) rfl, _, rfl, st, _, _, _, rfl, rfl, SqT.of g1, atI_nat (j := 0) rfl, ?_⟩
  refine ⟨d, fa, as.map V.ref, faces.map V.str, rfl, .inr ⟨SqT.of h3, g2.sq, ?_⟩⟩
  refine for_gen (n := rows.length) (fun i σ' H' => (∃ v3 v4 v5 v6 : Option V, σ' = [some (.ref h), some (.ref st), some (.str x), v3, v4, v5, v6]) ∧ Same H H' ∧ x ∉ (rows.take i).map hd0) ⟨⟨none, none, none, none, rfl⟩, Same.refl H, by simp⟩ (fun i σ' H' hi hP => ?_) (fun σ' H' hP => ?_)
  · obtain ⟨⟨v3, v4, v5, v6, rfl⟩, sx, nf⟩ := hP
    have hri : rows[i]? = some rows[i] := List.getElem?_eq_getElem hi
    have hai : as[i]? = some (as[i]'(by omega)) := List.getElem?_eq_getElem (by omega)
    have hfi : faces[i]? = some (faces[i]'(by omega)) := List.getElem?_eq_getElem (by omega)
    generalize faces[i]'(by omega) = fc at hfi
    generalize as[i]'(by omega) = ai at hai
    have hrow := hRA.2 i _ _ hai hri
    obtain ⟨n, e1, e2, er, _⟩ := hV.row _ (List.getElem_mem hi)
    rw [er] at hrow hri
    have ex : (as.map V.ref)[i]? = some (.ref ai) := by rw [List.getElem?_map, hai]; rfl
    have ey : (faces.map V.str)[i]? = some (.str fc) := by rw [List.getElem?_map, hfi]; rfl
    have qx : SqT K H' d (as.map V.ref) := SqT.of (sx _ _ h3)
    have qy : SqT K H' fa (faces.map V.str) := (g2.same sx).sq
    refine ⟨⟨_, _, _, _, qx, qy, ex, ey⟩, ?_⟩
    rintro _ _ ⟨T, v1, v2, rfl, hT, rfl, f1, f2⟩
    have t1 := (f1 _ qx).symm.trans ex
    have t2 := (f2 _ qy).symm.trans ey
    cases t1
    cases t2
    have sT := same_new hT (.tup [.ref ai, .str fc])
    refine ⟨T, _, rfl, SqT.of upd_same, rfl, _, _, rfl, ⟨ai, _, rfl, SqT.of (sT _ _ (sx _ _ hrow)), rfl, _, _, rfl, _, _, rfl, _, _, rfl, rfl, _, _, rfl, rfl, ?_⟩⟩
    refine ⟨_, rfl, _, rfl, rfl, _, rfl, ?_⟩
    by_cases e : n = x
    · rw [decide_eq_true (show V.str n = V.str x by rw [e])]
      refine iteT ?_
      exact ⟨_, rfl, q1 i e1 e2 fc (by rw [hri, e]) hfi _ (sx.trans sT)⟩
    · rw [decide_eq_false (fun z => e (V.str.inj z))]
      refine iteF ?_
      exact ⟨⟨_, _, _, _, rfl⟩, sx.trans sT, no_before hri e nf⟩
  · obtain ⟨⟨v3, v4, v5, v6, rfl⟩, sx, nf⟩ := hP
    rw [List.take_length] at nf
    refine ⟨⟨_, _, SqT.of (sx _ _ h3), (g2.same sx).sq, .inl (by rw [List.length_map]; omega)⟩, ?_⟩
    exact ⟨_, rfl, mk_end_k fun d hd => q2 nf H' sx d hd⟩
abbrev s_can_pass : Stmt := top 27
abbrev n_can_pass : List Str := ["hall", "state", "walker", "door", "room"]
theorem sc_can_pass : FnScope n_can_pass ["hall", "state", "walker", "door"] (defScope s_can_pass) := ⟨rfl, rfl, rfl, by decide +kernel, rfl, by decide +kernel, by decide +kernel⟩
theorem ok_can_pass (F : FnP K "can_pass" s_can_pass f fd) (hm : mg "can_pass" = some (.ref f)) (c_face_of : CalX P w K mg base 3 "face_of" (spFaceM K)) (c_room_of : CalX P w K mg base 3 "room_of" (spRoomIZ K)) :
    CalX P w K mg base 4 "can_pass" (spCanPM K) := by
  refine ⟨f, fd, ["hall", "state", "walker", "door"], F.ok (CX := L2.CX P w) sc_can_pass (fun vs H Q E h => ?_) (fun cdv A outer s H vs Q E hr h => ?_), hm, F.kp, F.bindsN (ps := ["hall", "state", "walker", "door"]) fun _ _ _ _ _ _ us hl => match us, hl with | [_, _, _, _], _ => rfl⟩
  · obtain ⟨h, st, wk, x, rooms, rows, faces, places, rfl, hs, q1, q2, q3⟩ := h
    rfl
  obtain ⟨h, st, wk, x, rooms, rows, faces, places, rfl, hs, q1, q2, q3⟩ := h
  have nd := sc_can_pass.nd
  refine ⟨_, (pss_cons (ps_set (i := 4) nd rfl (Or.inl rfl) (pe_cX c_room_of hr (by omega) (fun σ => passAt (takes_of rfl rfl rfl rfl) σ) (by rfl) (pa_cons (pv 1) (pa_cons (pv 2) pa_nil))))
    (pss_one (ps_ret (pe_cmpR op_eq (pe_cX c_face_of hr (by omega) (fun σ => passAt (takes_of rfl rfl rfl rfl) σ) (by rfl) (pa_cons (pv 0) (pa_cons (pv 1) (pa_cons (pv 3) pa_nil)))) (pv 4) (nomark _))))), ?_⟩
  have hpl : ∀ p ∈ places, ∃ w r : Str, p = [w, r] := fun p hp => by
    obtain ⟨a, b, e, _⟩ := hs.t.pl p hp
    exact ⟨a, b, e⟩
  refine ⟨_, rfl, _, rfl, st, wk, faces, places, rfl, hs.s, hpl, fun j r hj H1 s1 => ?_, fun h => q1 h⟩
  have hw : wk ∈ places.map hd0 := List.mem_map.mpr ⟨_, List.mem_of_getElem? hj, rfl⟩
  have hs1 := hs.same s1
  refine ⟨_, rfl, _, rfl, _, rfl, h, st, x, rooms, rows, faces, places, rfl, hs1.h, hs.v, hs1.s, hs.t.fl, fun i a b fc hi hf H2 s2 => ?_, fun hx => (q2 hw hx).same s1⟩
  refine ⟨_, rfl, rfl, ?_⟩
  have e : decide (V.str fc = V.str r) = decide (fc = r) := by
    by_cases z : fc = r
    · rw [z]
      simp
    · rw [decide_eq_false z, decide_eq_false (fun y => z (V.str.inj y))]
  rw [e]
  exact q3 i j a b fc r hi hf hj _ (s1.trans s2)
abbrev s_turn_door : Stmt := top 32
abbrev n_turn_door : List Str := ["hall", "state", "door", "turned", "one", "other", "faces", "places", "entry", "face"]
theorem sc_turn_door : FnScope n_turn_door ["hall", "state", "door"] (defScope s_turn_door) := ⟨rfl, rfl, rfl, by decide +kernel, rfl, by decide +kernel, by decide +kernel⟩
theorem ok_turn_door (F : FnP K "turn_door" s_turn_door f fd) (hm : mg "turn_door" = some (.ref f)) (c_ends_of : CalX P w K mg base 3 "ends_of" (spEndsM K)) (c_face_of : CalX P w K mg base 3 "face_of" (spFaceM K)) (m_tuple : mg "tuple" = none) (m_zip : mg "zip" = none) :
    CalX P w K mg base 4 "turn_door" (spTurnM K) := by
  refine ⟨f, fd, ["hall", "state", "door"], F.ok (CX := L2.CX P w) sc_turn_door (fun vs H Q E h => ?_) (fun cdv A outer s H vs Q E hr h => ?_), hm, F.kp, F.bindsN (ps := ["hall", "state", "door"]) fun _ _ _ _ _ _ us hl => match us, hl with | [_, _, _], _ => rfl⟩
  · obtain ⟨h, st, x, rooms, rows, faces, places, rfl, hs, q1, q2⟩ := h
    rfl
  obtain ⟨h, st, x, rooms, rows, faces, places, rfl, hs, q1, q2⟩ := h
  have nd := sc_turn_door.nd
  refine ⟨_, (pss_cons (ps_asg (pe_cX c_ends_of hr (by omega) (fun σ => passAt (takes_of rfl rfl rfl rfl) σ) (by rfl) (pa_cons (pv 0) (pa_cons (pv 2) pa_nil))) (pg_tup (by rfl) (pgs_cons (pg_name (i := 4) nd rfl (Or.inl rfl)) (pgs_cons (pg_name (i := 5) nd rfl (Or.inl rfl)) pgs_nil))))
    (C8.pss_cut (ps_set (i := 3) nd rfl (Or.inr rfl) (pe_ifExp (pt_cmpR op_eq (pe_cX c_face_of hr (by omega) (fun σ => passAt (takes_of rfl rfl rfl rfl) σ) (by rfl) (pa_cons (pv 0) (pa_cons (pv 1) (pa_cons (pv 2) pa_nil)))) (pv 4) (nomark _)) (pv 5) (pv 4)))
    (pss_cons (ps_asg (pv 1) (pg_tup (by rfl) (pgs_cons (pg_name (i := 6) nd rfl (Or.inl rfl)) (pgs_cons (pg_name (i := 7) nd rfl (Or.inl rfl)) pgs_nil))))
    (pss_one (ps_ret (pe_tup (pa_cons (pe_callTy (r := rTpZ K) call_tuple_ofZ (by rfl) m_tuple (by decide +kernel) (pa_cons (pe_lc (own := [("entry", 8), ("face", 9)]) (g := (gTup K 2 (gCons (gName 8) (gCons (gName 9) gNil)))) (by rfl) nd (RZ.pi_zipA (by rfl) m_zip (pa_cons (pe_ix (r := rIxT K) ix_tup (pv 0) pe_int (fun _ _ => rfl)) (pa_cons (pv 6) pa_nil))) (blkOk_by (own := [("entry", 8), ("face", 9)]) (N := n_turn_door) (sc := defScope s_turn_door) (by decide +kernel)) (fun _ _ _ _ _ => (pg_tup (by rfl) (pgs_cons (pg_name (i := 8) nd rfl (Or.inl rfl)) (pgs_cons (pg_name (i := 9) nd rfl (Or.inl rfl)) pgs_nil)))) (fun _ _ _ _ _ => pts_nil) (fun _ _ _ _ _ => (pe_ifExp (pt_cmpR op_eq (pe_ix (r := rIxT K) ix_tup (pv 8) pe_int (fun _ _ => rfl)) (pv 2) (nomark _)) (pv 3) (pv 9)))) pa_nil)) (pa_cons (pv 7) pa_nil)))))))), ?_⟩
  refine ⟨_, rfl, _, rfl, h, x, rooms, rows, rfl, hs.h, hs.v, fun i a b hi p H1 s1 hp => ?_, fun hx => q1 hx⟩
  have hx : x ∈ rows.map hd0 := List.mem_map.mpr ⟨_, List.mem_of_getElem? hi, rfl⟩
  have hs1 := hs.same s1
  refine ⟨p, _, rfl, SqT.of hp, rfl, _, _, rfl, _, _, rfl, rfl, ?_⟩
  obtain ⟨fc0, hf0, hfc0⟩ := face_at hs.t hi
  refine ⟨fun σ' H' => σ' = [some (.ref h), some (.ref st), some (.str x), some (.str (oth a b fc0)), some (.str a), some (.str b), none, none, none, none] ∧ Same H H', ?_, ?_⟩
  · refine ⟨_, rfl, _, rfl, _, rfl, h, st, x, rooms, rows, faces, places, rfl, hs1.h, hs.v, hs1.s, hs.t.fl, fun i2 a2 b2 fc hi2 hf H2 s2 => ?_, fun hn => absurd hx hn⟩
    have ei : i2 = i := at_one (l := rows) hs.v.dn hi2 hi rfl
    subst ei
    rw [hi] at hi2
    cases hi2
    rw [hf0] at hf
    cases hf
    refine ⟨_, rfl, rfl, _, rfl, ?_⟩
    unfold oth
    by_cases z : fc0 = a
    · rw [if_pos z, decide_eq_true (show V.str fc0 = V.str a by rw [z])]
      exact iteT ⟨_, rfl, rfl, s1.trans s2⟩
    · rw [if_neg z, decide_eq_false (fun y => z (V.str.inj y))]
      exact iteF ⟨_, rfl, rfl, s1.trans s2⟩
  rintro σ' H2 ⟨rfl, s02⟩
  have hs2 := hs.same s02
  obtain ⟨r, d, h1, h2, as, h3, hRA⟩ := hs2.h
  obtain ⟨fa, pl, g1, g2, g3⟩ := hs2.s
  have hal : as.length = rows.length := hRA.1
  have hfl := hs.t.fl
  have d12 := hs.v.d12
  refine ⟨_, rfl, st, _, rfl, SqT.of g1, rfl, _, _, rfl, _, _, rfl, rfl, ?_⟩
  refine ⟨_, rfl, h, _, _, _, rfl, rfl, SqT.of h1, atI_nat (j := 1) rfl, _, rfl, d, fa, as.map V.ref, faces.map V.str, rfl, .inr ⟨SqT.of h3, g2.sq, fun D hD => ?_⟩⟩
  refine lc_gen (n := rows.length) (fun k Hx => Same H2 Hx ∧ Hx D = some (.lst (((faces.set i (oth a b fc0)).take k).map V.str))) ⟨same_new hD _, upd_same⟩ (fun k Hx hk ⟨sx, hDx⟩ => ?_) (fun Hx ⟨sx, hDx⟩ => ?_)
  · have hri : rows[k]? = some rows[k] := List.getElem?_eq_getElem hk
    have hai : as[k]? = some (as[k]'(by omega)) := List.getElem?_eq_getElem (by omega)
    have hfi : faces[k]? = some (faces[k]'(by omega)) := List.getElem?_eq_getElem (by omega)
    generalize faces[k]'(by omega) = fc at hfi
    generalize as[k]'(by omega) = ai at hai
    have hrow := hRA.2 k _ _ hai hri
    obtain ⟨n, e1, e2, er, _⟩ := hs.v.row _ (List.getElem_mem hk)
    rw [er] at hrow hri
    have ex : (as.map V.ref)[k]? = some (.ref ai) := by rw [List.getElem?_map, hai]; rfl
    have ey : (faces.map V.str)[k]? = some (.str fc) := by rw [List.getElem?_map, hfi]; rfl
    have qx : SqT K Hx d (as.map V.ref) := SqT.of (sx _ _ h3)
    have qy : SqT K Hx fa (faces.map V.str) := (g2.same sx).sq
    refine ⟨⟨_, _, _, _, qx, qy, ex, ey⟩, ?_⟩
    rintro _ _ ⟨T, v1, v2, rfl, hT, rfl, f1, f2⟩
    have t1 := (f1 _ qx).symm.trans ex
    have t2 := (f2 _ qy).symm.trans ey
    cases t1
    cases t2
    have sT := same_new hT (.tup [.ref ai, .str fc])
    refine ⟨T, _, rfl, SqT.of upd_same, rfl, _, _, rfl, _, _, rfl, rfl, rfl, lcY ?_⟩
    refine ⟨_, rfl, ai, _, _, _, rfl, rfl, SqT.of (sT _ _ (sx _ _ hrow)), atI_nat (j := 0) rfl, _, rfl, rfl, _, rfl, ?_⟩
    have hset : (faces.set i (oth a b fc0))[k]? = some (if n = x then oth a b fc0 else fc) := by
      rw [List.getElem?_set]
      by_cases e : i = k
      · subst e
        rw [hi] at hri
        cases hri
        rw [if_pos rfl, if_pos rfl, if_pos (by omega)]
      · have hn : ¬ n = x := fun z => e (at_one (l := rows) hs.v.dn hi hri (by show x = n; rw [z]))
        rw [if_neg e, hfi, if_neg hn]
    have add : ∀ v : Str, v = (if n = x then oth a b fc0 else fc) → ∃ acc, upd Hx T (.tup [.ref ai, .str fc]) D = some (.lst acc) ∧ acc.length < sizeLine ∧ Same H2 (upd (upd Hx T (.tup [.ref ai, .str fc])) D (.lst (acc ++ [.str v]))) ∧ upd (upd Hx T (.tup [.ref ai, .str fc])) D (.lst (acc ++ [.str v])) D = some (.lst (((faces.set i (oth a b fc0)).take (k + 1)).map V.str)) := fun v hv => by
      refine ⟨_, sT _ _ hDx, ?_, same_mut (sx.trans sT) hD _, ?_⟩
      · rw [List.length_map, List.length_take]
        exact sz100 (by omega)
      · rw [upd_same, take_snoc hset, List.map_append, hv]
        rfl
    by_cases e : n = x
    · rw [decide_eq_true (show V.str n = V.str x by rw [e])]
      exact iteT ⟨_, rfl, add _ (by rw [if_pos e])⟩
    · rw [decide_eq_false (fun z => e (V.str.inj z))]
      exact iteF ⟨_, rfl, add _ (by rw [if_neg e])⟩
  refine ⟨⟨_, _, SqT.of (sx _ _ h3), (g2.same sx).sq, .inl (by rw [List.length_map]; omega)⟩, ?_⟩
  rw [List.take_of_length_le (by rw [List.length_set]; omega)] at hDx
  refine ⟨D, _, rfl, SqL.of hDx, fun t oz ht hoz => ⟨_, rfl, (by show 2 ≤ sizeLine; decide), fun t2 ht2 => ?_⟩⟩
  have sf := sx.trans ((same_new ht (.frz oz (.tup ((faces.set i (oth a b fc0)).map V.str)))).trans (same_new ht2 (.tup [.ref t, .ref pl])))
  exact q2 i a b fc0 hi hf0 t2 _ (s02.trans sf) ⟨t, pl, upd_same, (show TZ (upd Hx t (.frz oz (.tup ((faces.set i (oth a b fc0)).map V.str)))) t _ from ⟨oz, hoz, upd_same⟩).same (same_new ht2 _), g3.tu (Tu.same sf)⟩
abbrev s_pass_door : Stmt := top 28
abbrev n_pass_door : List Str := ["hall", "state", "walker", "door", "room", "faces", "places", "name", "place"]
theorem sc_pass_door : FnScope n_pass_door ["hall", "state", "walker", "door"] (defScope s_pass_door) := ⟨rfl, rfl, rfl, by decide +kernel, rfl, by decide +kernel, by decide +kernel⟩
theorem ok_pass_door (F : FnP K "pass_door" s_pass_door f fd) (hm : mg "pass_door" = some (.ref f)) (M_Blocked : ErrMV P w K mg base "Blocked" "index") (c_can_pass : CalX P w K mg base 4 "can_pass" (spCanPM K)) (c_face_of : CalX P w K mg base 3 "face_of" (spFaceM K)) (c_turn_door : CalX P w K mg base 4 "turn_door" (spTurnM K)) (m_tuple : mg "tuple" = none) :
    CalX P w K mg base 5 "pass_door" (spPassM K) := by
  refine ⟨f, fd, ["hall", "state", "walker", "door"], F.ok (CX := L2.CX P w) sc_pass_door (fun vs H Q E h => ?_) (fun cdv A outer s H vs Q E hr h => ?_), hm, F.kp, F.bindsN (ps := ["hall", "state", "walker", "door"]) fun _ _ _ _ _ _ us hl => match us, hl with | [_, _, _, _], _ => rfl⟩
  · obtain ⟨h, st, wk, x, rooms, rows, faces, places, rfl, hs, q1, q2, q3⟩ := h
    rfl
  obtain ⟨h, st, wk, x, rooms, rows, faces, places, rfl, hs, q1, q2, q3⟩ := h
  have nd := sc_pass_door.nd
  refine ⟨_, (pss_cons (ps_if (pt_not (pt_val (pe_cX c_can_pass hr (by omega) (fun σ => passAt (takes_of rfl rfl rfl rfl) σ) (by rfl) (pa_cons (pv 0) (pa_cons (pv 1) (pa_cons (pv 2) (pa_cons (pv 3) pa_nil))))))) (pss_one (ps_raise rfl (takes_of rfl rfl rfl rfl) (pmk_errV M_Blocked hr (by omega) (by rfl) (pa_cons pe_int pa_nil)))) pss_nil)
    (pss_cons (ps_asg (pe_cX c_turn_door hr (by omega) (fun σ => passAt (takes_of rfl rfl rfl rfl) σ) (by rfl) (pa_cons (pv 0) (pa_cons (pv 1) (pa_cons (pv 3) pa_nil)))) (pg_tup (by rfl) (pgs_cons (pg_name (i := 5) nd rfl (Or.inl rfl)) (pgs_cons (pg_name (i := 6) nd rfl (Or.inl rfl)) pgs_nil))))
    (pss_cons (ps_set (i := 4) nd rfl (Or.inr rfl) (pe_cX c_face_of hr (by omega) (fun σ => passAt (takes_of rfl rfl rfl rfl) σ) (by rfl) (pa_cons (pv 0) (pa_cons (pe_tup (pa_cons (pv 5) (pa_cons (pv 6) pa_nil))) (pa_cons (pv 3) pa_nil)))))
    (pss_one (ps_ret (pe_tup (pa_cons (pv 5) (pa_cons (pe_callTy (r := rTpOf K) call_tuple_of (by rfl) m_tuple (by decide +kernel) (pa_cons (pe_lc (own := [("name", 7), ("place", 8)]) (g := (gTup K 2 (gCons (gName 7) (gCons (gName 8) gNil)))) (by rfl) nd (pi_tup (pv 6)) (blkOk_by (own := [("name", 7), ("place", 8)]) (N := n_pass_door) (sc := defScope s_pass_door) (by decide +kernel)) (fun _ _ _ _ _ => (pg_tup (by rfl) (pgs_cons (pg_name (i := 7) nd rfl (Or.inl rfl)) (pgs_cons (pg_name (i := 8) nd rfl (Or.inl rfl)) pgs_nil)))) (fun _ _ _ _ _ => pts_nil) (fun _ _ _ _ _ => (pe_tup (pa_cons (pv 7) (pa_cons (pe_ifExp (pt_cmpR op_eq (pv 7) (pv 2) (nomark _)) (pv 4) (pv 8)) pa_nil))))) pa_nil)) pa_nil)))))))), ?_⟩
  refine ⟨_, rfl, _, rfl, _, rfl, _, rfl, h, st, wk, x, rooms, rows, faces, places, rfl, hs, fun h => q1 h, fun hw hx => q2 hw hx, fun i j a b fc r hi hf hj H1 s1 => ⟨_, rfl, ?_⟩⟩
  obtain ⟨qa, qb⟩ := q3 i j a b fc r hi hf hj
  have hx : x ∈ rows.map hd0 := List.mem_map.mpr ⟨_, List.mem_of_getElem? hi, rfl⟩
  by_cases hfr : fc = r
  case neg =>
    rw [decide_eq_false hfr]
    refine iteT ?_
    exact mk_end_v fun d hd => qa hfr H1 s1 d hd
  rw [decide_eq_true hfr]
  refine iteF ?_
  have qs := qb hfr
  clear qa qb
  subst hfr
  have hs1 := hs.same s1
  refine ⟨_, rfl, _, rfl, _, rfl, h, st, x, rooms, rows, faces, places, rfl, hs1, fun hn => absurd hx hn, fun i2 a2 b2 fc2 hi2 hf2 p H2 s2 hp => ?_⟩
  have ei : i2 = i := at_one (l := rows) hs.v.dn hi2 hi rfl
  subst ei
  rw [hi] at hi2
  cases hi2
  rw [hf] at hf2
  cases hf2
  obtain ⟨fa, pl, g1, g2, as, g3, hRA⟩ := hp
  refine ⟨p, _, rfl, SqT.of g1, rfl, _, _, rfl, _, _, rfl, rfl, ?_⟩
  have hil : i2 < faces.length := (List.getElem?_eq_some_iff.mp hf).1
  refine ⟨_, rfl, _, rfl, _, rfl, (by show 2 ≤ sizeLine; decide), fun t ht => ⟨_, rfl, ?_⟩⟩
  have st_ := same_new ht (.tup [.ref fa, .ref pl])
  have hHt : HZ (upd H2 t (.tup [.ref fa, .ref pl])) t (faces.set i2 (oth a b fc)) places := ⟨fa, pl, upd_same, g2.same st_, as, st_ _ _ g3, hRA.tu (Tu.same st_)⟩
  have s2t := (s1.trans s2).trans st_
  refine ⟨h, t, x, rooms, rows, faces.set i2 (oth a b fc), places, rfl, (hs.same s2t).h, hs.v, hHt, by rw [List.length_set]; exact hs.t.fl, fun i3 a3 b3 f3 hi3 hf3 H3 s3 => ?_, fun hn => absurd hx hn⟩
  have ei : i3 = i2 := at_one (l := rows) hs.v.dn hi3 hi rfl
  subst ei
  rw [List.getElem?_set, if_pos rfl, if_pos hil] at hf3
  cases hf3
  have s3t := st_.trans s3
  have hal : (as.map V.ref).length = places.length := by rw [List.length_map]; exact hRA.1
  have p5 := hs.t.p5
  refine ⟨_, rfl, _, rfl, pl, rfl, ⟨_, SqT.of (s3t _ _ g3)⟩, fun D hD => ?_⟩
  refine lc_tup (K := K) (a := pl) (xs := as.map V.ref) (fun k Hx => Same H3 Hx ∧ ∃ (bs : List Addr), Hx D = some (.lst (bs.map V.ref)) ∧ RowsAt Hx bs ((places.set j [wk, oth a b fc]).take k)) ⟨same_new hD _, [], upd_same, RowsAt.nil⟩ (fun k Hx _ ⟨sx, _⟩ => SqT.of (sx _ _ (s3t _ _ g3))) (fun k y Hx hy ⟨sx, bs, hDx, hB⟩ => ?_) (fun Hx ⟨sx, bs, hDx, hB⟩ => ?_)
  · obtain ⟨ap, p', rfl, hpi, hpa⟩ := hRA.row hy
    obtain ⟨n, e1, rfl, _⟩ := hs.t.pl p' (List.mem_of_getElem? hpi)
    have hkl : k < places.length := (List.getElem?_eq_some_iff.mp hpi).1
    refine ⟨ap, _, rfl, SqT.of (sx _ _ (s3t _ _ hpa)), rfl, _, _, rfl, _, _, rfl, rfl, rfl, lcY ?_⟩
    have hset : (places.set j [wk, oth a b fc])[k]? = some (if n = wk then [n, oth a b fc] else [n, e1]) := by
      rw [List.getElem?_set]
      by_cases e : j = k
      · subst e
        rw [hj] at hpi
        cases hpi
        rw [if_pos rfl, if_pos hkl, if_pos rfl]
      · have hn : ¬ n = wk := fun z => e (at_one (l := places) hs.t.pnd hj hpi (by show wk = n; rw [z]))
        rw [if_neg e, hpi, if_neg hn]
    have add : ∀ v : Str, [n, v] = (if n = wk then [n, oth a b fc] else [n, e1]) → ∀ tp, Hx tp = none → ∃ acc, upd Hx tp (.tup [.str n, .str v]) D = some (.lst acc) ∧ acc.length < sizeLine ∧ Same H3 (upd (upd Hx tp (.tup [.str n, .str v])) D (.lst (acc ++ [.ref tp]))) ∧ ∃ bs', upd (upd Hx tp (.tup [.str n, .str v])) D (.lst (acc ++ [.ref tp])) D = some (.lst (bs'.map V.ref)) ∧ RowsAt (upd (upd Hx tp (.tup [.str n, .str v])) D (.lst (acc ++ [.ref tp]))) bs' ((places.set j [wk, oth a b fc]).take (k + 1)) := fun v hv tp htp => by
      have sp := same_new htp (.tup [.str n, .str v])
      have htp' : upd Hx tp (.tup [.str n, .str v]) tp = some (.tup (([n, v] : List Str).map V.str)) := upd_same
      generalize upd Hx tp (.tup [.str n, .str v]) = Hy at sp htp' ⊢
      have hDy := sp _ _ hDx
      have tum : Tu Hy (upd Hy D (.lst (bs.map V.ref ++ [.ref tp]))) := fun a xs h => by
        rw [upd_ne (fun e => by rw [e, hDy] at h; cases h)]
        exact h
      have bl := hB.1
      rw [List.length_take] at bl
      refine ⟨_, hDy, ?_, same_mut (sx.trans sp) hD _, bs ++ [tp], ?_, ?_⟩
      · rw [List.length_map]
        exact sz100 (by omega)
      · rw [upd_same, List.map_append]
        rfl
      · rw [take_snoc hset, ← hv]
        exact ((hB.tu (Tu.same sp)).tu tum).snoc (tum _ _ htp')
    refine ⟨_, rfl, _, rfl, _, rfl, rfl, _, rfl, ?_⟩
    by_cases e : n = wk
    · rw [decide_eq_true (show V.str n = V.str wk by rw [e])]
      exact iteT ⟨_, rfl, (by show 2 ≤ sizeLine; decide), fun tp htp => add _ (by rw [if_pos e]) tp htp⟩
    · rw [decide_eq_false (fun z => e (V.str.inj z))]
      exact iteF ⟨_, rfl, (by show 2 ≤ sizeLine; decide), fun tp htp => add _ (by rw [if_neg e]) tp htp⟩
  rw [hal, List.take_of_length_le (by rw [List.length_set]; exact Nat.le_refl _)] at hB
  refine ⟨D, _, rfl, .inl ⟨SqL.of hDx, fun t2 ht2 => ⟨(by show 2 ≤ sizeLine; decide), fun t3 ht3 => ?_⟩⟩⟩
  have s4 := (same_new ht2 (.tup (bs.map V.ref))).trans (same_new ht3 (.tup [.ref fa, .ref t2]))
  exact qs t3 _ (((s2t.trans s3).trans sx).trans s4) ⟨fa, t2, upd_same, ((g2.same s3t).same sx).same s4, bs, same_new ht3 _ _ _ upd_same, hB.tu (Tu.same s4)⟩
structure EKc (K : PySem.W.Frag) : Prop where
  w2 : PySem.W.exmAny K (.ref (He.ga K "UnknownWalker")) [.ref (He.ga K "UnknownWalker"), .ref (He.ga K "UnknownDoor")] = some true
  d2 : PySem.W.exmAny K (.ref (He.ga K "UnknownDoor")) [.ref (He.ga K "UnknownWalker"), .ref (He.ga K "UnknownDoor")] = some true
abbrev s_can_be_done : Stmt := top 30
abbrev n_can_be_done : List Str := ["hall", "state", "walker", "door"]
theorem sc_can_be_done : FnScope n_can_be_done ["hall", "state", "walker", "door"] (defScope s_can_be_done) := ⟨rfl, rfl, rfl, by decide +kernel, rfl, by decide +kernel, by decide +kernel⟩
theorem ok_can_be_done (F : FnP K "_can_be_done" s_can_be_done f fd) (hm : mg "_can_be_done" = some (.ref f)) (c_can_pass : CalX P w K mg base 4 "can_pass" (spCanPM K))
    (gW : mg "UnknownWalker" = some (.ref (He.ga K "UnknownWalker"))) (gD : mg "UnknownDoor" = some (.ref (He.ga K "UnknownDoor"))) (EK : EKc K) :
    Cal P w K mg base 5 "_can_be_done" spCanDM := by
  refine cal_of (F.ok sc_can_be_done (fun vs H Q E h => ?_) (fun cdv A outer s H vs Q E hr h => ?_)) hm F.kp (F.bindsN (ps := ["hall", "state", "walker", "door"]) fun _ _ _ _ _ _ us hl => match us, hl with | [_, _, _, _], _ => rfl)
  · obtain ⟨h, st, wk, x, rooms, rows, faces, places, rfl, hs, q1, q2⟩ := h
    rfl
  obtain ⟨h, st, wk, x, rooms, rows, faces, places, rfl, hs, q1, q2⟩ := h
  have nd := sc_can_be_done.nd
  refine ⟨_, pss_one (ps_try_two (tb := fun W => tRet (tCallS (spCanPM K) (WE W) (tCons (tVar 0) (tCons (tVar 1) (tCons (tVar 2) (tCons (tVar 3) tNil)))))) rfl rfl ⟨by rfl, by decide, Or.inl gW⟩ ⟨by rfl, by decide, Or.inl gD⟩
    (fun W pn xe tk _ => pss_one (ps_ret (pe_cX c_can_pass hr (by omega) (fun σ => passAt tk σ) (by rfl) (pa_cons (pv 0) (pa_cons (pv 1) (pa_cons (pv 2) (pa_cons (pv 3) pa_nil)))))))
    (fun a oe cls d pn hz hf => pss_one (ps_ret pe_bl))), ?_⟩
  refine ⟨_, rfl, _, rfl, _, rfl, _, rfl, h, st, wk, x, rooms, rows, faces, places, rfl, hs, fun hw H' s' d hd => ?_, fun hw hx H' s' d hd => ?_, fun i j a b fc rr hi hf hj H' s' => ?_⟩
  · exact ⟨EK.w2, fun a ha => q1 (.inl hw) _ (s'.trans (same_new hd _))⟩
  · exact ⟨EK.d2, fun a ha => q1 (.inr hx) _ (s'.trans (same_new hd _))⟩
  · exact q2 i j a b fc rr hi hf hj H' s'
abbrev s_run : Stmt := top 29
abbrev n_run : List Str := ["hall", "state", "row", "index", "walker", "door"]
theorem sc_run : FnScope n_run ["hall", "state", "row"] (defScope s_run) := ⟨rfl, rfl, rfl, by decide +kernel, rfl, by decide +kernel, by decide +kernel⟩
theorem ok_run (F : FnP K "run" s_run f fd) (hm : mg "run" = some (.ref f)) (M_Blocked : ErrMV P w K mg base "Blocked" "index") (c_can_be_done : Cal P w K mg base 5 "_can_be_done" spCanDM) (c_pass_door : CalX P w K mg base 5 "pass_door" (spPassM K)) (m_enumerate : mg "enumerate" = none) :
    CalX P w K mg base 6 "run" (spRunM K) := by
  refine ⟨f, fd, ["hall", "state", "row"], F.ok (CX := L2.CX P w) sc_run (fun vs H Q E h => ?_) (fun cdv A outer s H vs Q E hr h => ?_), hm, F.kp, F.bindsN (ps := ["hall", "state", "row"]) fun _ _ _ _ _ _ us hl => match us, hl with | [_, _, _], _ => rfl⟩
  · obtain ⟨h, st, r, rooms, rows, faces, places, l, rfl, hs, hR, q1, q2⟩ := h
    rfl
  obtain ⟨h, st, r, rooms, rows, faces, places, l, rfl, hs, hR, q1, q2⟩ := h
  have nd := sc_run.nd
  refine ⟨_, (pss_cons (ps_for (passes_of rfl) rfl (pi_enumQ (by rfl) m_enumerate (pa_cons (pv 2) pa_nil)) (pg_tup (by rfl) (pgs_cons (pg_name (i := 3) nd rfl (Or.inl rfl)) (pgs_cons (pg_tup (by rfl) (pgs_cons (pg_name (i := 4) nd rfl (Or.inl rfl)) (pgs_cons (pg_name (i := 5) nd rfl (Or.inl rfl)) pgs_nil))) pgs_nil))) (pss_cons (ps_if (pt_not (pt_val (C8.pe_c c_can_be_done hr (by omega) (by rfl) (pa_cons (pv 0) (pa_cons (pv 1) (pa_cons (pv 4) (pa_cons (pv 5) pa_nil))))))) (pss_one (ps_raise rfl (takes_of rfl rfl rfl rfl) (pmk_errV M_Blocked hr (by omega) (by rfl) (pa_cons (pv 3) pa_nil)))) pss_nil)
    (pss_one (ps_set (i := 1) nd rfl (Or.inl rfl) (pe_cX c_pass_door hr (by omega) (fun σ => passAt (takes_of rfl rfl rfl rfl) σ) (by rfl) (pa_cons (pv 0) (pa_cons (pv 1) (pa_cons (pv 4) (pa_cons (pv 5) pa_nil)))))))))
    (pss_one (ps_ret (pv 1)))), ?_⟩
  obtain ⟨as, hk, hRA⟩ := hR
  have hal : (as.map V.ref).length = l.length := by rw [List.length_map, hRA.1, List.length_map]
  refine ⟨_, rfl, r, rfl, ?_⟩
  refine for_enq (xs := as.map V.ref) hk (fun i σ' H' => ∃ (sp : Addr) (s' : Sta) (v3 v4 v5 : Option V), σ' = [some (.ref h), some (.ref sp), some (.ref r), v3, v4, v5] ∧ Same H H' ∧ HZ H' sp s'.1 s'.2 ∧ StV rooms rows s'.1 s'.2 ∧ goM rows (faces, places) (l.take i) = some s') ⟨st, (faces, places), none, none, none, rfl, Same.refl H, hs.s, hs.t, rfl⟩ (fun i σ' H' ⟨_, _, _, _, _, _, sx, _⟩ => sx) (fun i y σ' H' T hy hP hT => ?_) (fun σ' H' hP => ?_)
  · obtain ⟨sp, s', v3, v4, v5, rfl, sx, hS, hV, hgo⟩ := hP
    obtain ⟨a, p', rfl, hpi, hpa⟩ := hRA.row hy
    rw [List.getElem?_map] at hpi
    cases hli : l[i]? with
    | none => rw [hli] at hpi; cases hpi
    | some p =>
      rw [hli] at hpi
      cases hpi
      have sT := same_new hT (.tup [.int (i : Nat), .ref a])
      have sxT := sx.trans sT
      have hX : HSy (upd H' T (.tup [.int (i : Nat), .ref a])) h sp rooms rows s'.1 s'.2 := ⟨hs.h.tu (Tu.same sxT), hs.v, hS.same sT, hV⟩
      refine ⟨T, _, rfl, SqT.of upd_same, rfl, _, _, rfl, _, _, rfl, ⟨a, _, rfl, SqT.of (sT _ _ (sx _ _ hpa)), rfl, _, _, rfl, _, _, rfl, rfl, rfl, ?_⟩⟩
      generalize upd H' T (.tup [.int (i : Nat), .ref a]) = H1 at hX sxT ⊢
      refine ⟨_, rfl, _, rfl, _, rfl, _, rfl, h, sp, p.1, p.2, rooms, rows, s'.1, s'.2, rfl, hX, fun hno H2 s2 => ⟨_, rfl, ?_⟩, fun i2 j2 a2 b2 fc rr hi hf hj H2 s2 => ⟨_, rfl, ?_⟩⟩
      · refine iteT ?_
        exact ⟨_, rfl, mk_end_v fun d hd => q1 i p s' hli hgo (stp_no hno) H2 (sxT.trans s2) d hd⟩
      · have e := stp_at (faces := s'.1) hV.pnd hs.v.dn hi hf hj
        by_cases hfr : fc = rr
        case neg =>
          rw [decide_eq_false hfr]
          rw [if_neg hfr] at e
          refine iteT ?_
          exact ⟨_, rfl, mk_end_v fun d hd => q1 i p s' hli hgo e H2 (sxT.trans s2) d hd⟩
        rw [decide_eq_true hfr]
        rw [if_pos hfr] at e
        refine iteF ?_
        have hw : p.1 ∈ s'.2.map hd0 := List.mem_map.mpr ⟨_, List.mem_of_getElem? hj, rfl⟩
        have hx : p.2 ∈ rows.map hd0 := List.mem_map.mpr ⟨_, List.mem_of_getElem? hi, rfl⟩
        refine ⟨_, rfl, _, rfl, _, rfl, _, rfl, h, sp, p.1, p.2, rooms, rows, s'.1, s'.2, rfl, hX.same s2, fun hn => absurd hw hn, fun _ hn => absurd hx hn, fun i3 j3 a3 b3 f3 r3 hi3 hf3 hj3 => ?_⟩
        have ei : i3 = i2 := at_one (l := rows) hs.v.dn hi3 hi rfl
        subst ei
        have ej : j3 = j2 := at_one (l := s'.2) hV.pnd hj3 hj rfl
        subst ej
        rw [hi] at hi3
        cases hi3
        rw [hf] at hf3
        cases hf3
        rw [hj] at hj3
        cases hj3
        refine ⟨fun hne => absurd hfr hne, fun _ pp H3 s3 hp => ?_⟩
        refine ⟨pp, _, _, _, _, rfl, (sxT.trans s2).trans s3, hp, stp_st hs.v hV e, ?_⟩
        rw [take_snoc hli, goM_snoc hgo]
        exact e
  · obtain ⟨sp, s', v3, v4, v5, rfl, sx, hS, hV, hgo⟩ := hP
    rw [hal, List.take_length] at hgo
    exact ⟨_, rfl, q2 s' hgo sp H' sx hS⟩
end
end Td
set_option maxHeartbeats 4000000
namespace Td
open PySem PySem.Spec PyProof.Rows L2
/-! ### a hall and a state, as repr shows them -/
theorem Bd.weight {ss : List Str} {rows : List (List Str)} (h : Bd ss rows) : (hsD ss rows).weight ≤ 1000 := by
  have w1 := weight_sD h.sn
  have w2 := weightAll_map sD 21 rows fun r hr => Nat.le_trans (weight_sD (h.rn r hr).2) (by have := (h.rn r hr).1; omega)
  have a1 := h.s12
  have a2 := h.r12
  unfold hsD
  simp only [PyData.weight, PyData.weightAll]
  omega
theorem Bd.depth {ss : List Str} {rows : List (List Str)} (h : Bd ss rows) : (hsD ss rows).depth ≤ 10 := by
  have d1 := depth_sD ss
  have d2 := depth_map sD 3 depth_sD rows
  unfold hsD
  simp only [PyData.depth, PyData.depthAll]
  omega
theorem Bd.short {ss : List Str} {rows : List (List Str)} (h : Bd ss rows) : (hsD ss rows).leavesShort 8 = true := by
  unfold hsD
  simp only [PyData.leavesShort, PyData.leavesShortAll, short_sD h.sn, shortAll_map sD rows fun r hr => short_sD (h.rn r hr).2, Bool.and_true]
@[irreducible] def twoD (s1 : List Str) (r1 : List (List Str)) (s2 : List Str) (r2 : List (List Str)) : PyData := .tuple [hsD s1 r1, hsD s2 r2]
theorem two_shows {s1 s2 : List Str} {r1 r2 : List (List Str)} (h1 : Bd s1 r1) (h2 : Bd s2 r2) : Shows (twoD s1 r1 s2 r2) := by
  unfold twoD
  have a1 := h1.weight
  have a2 := h2.weight
  have b1 := h1.depth
  have b2 := h2.depth
  refine ⟨?_, ?_, ?_, PyData.shown_fits (B := 8) (by decide) (by decide) ?_ ?_⟩
  · simp only [PyData.showable, PyData.showableAll, h1.shows.sh, h2.shows.sh, Bool.and_true]
  · simp only [PyData.hasDict, PyData.hasDictAll, h1.shows.nd, h2.shows.nd, Bool.or_false]
  · simp only [PyData.depth, PyData.depthAll]
    omega
  · simp only [PyData.leavesShort, PyData.leavesShortAll, h1.short, h2.short, Bool.and_true]
  · simp only [PyData.weight, PyData.weightAll]
    omega
theorem two_dp {K : PySem.W.Frag} {H : Hp} {t h st : Addr} {s1 s2 : List Str} {r1 r2 : List (List Str)} (ht : H t = some (.tup [.ref h, .ref st])) (h1 : HS H h s1 r1) (h2 : HS H st s2 r2) : Dp K H (.ref t) (twoD s1 r1 s2 r2) := by
  unfold twoD
  exact .tup (SqT.of ht) (.cons h1.dp (.cons h2.dp .nil))
/-! ### lists of deeds, whatever the names -/
def AllD (H : Hp) (xs : List V) : Prop := ∀ x ∈ xs, ∃ (a : Addr) (w d : Str), x = .ref a ∧ H a = some (.tup [.str w, .str d])
theorem AllD.tu {H H' : Hp} {xs : List V} (x : Tu H H') (h : AllD H xs) : AllD H' xs := fun y hy => by
  obtain ⟨a, w, d, e, ha⟩ := h y hy
  exact ⟨a, w, d, e, x _ _ ha⟩
theorem AllD.sub {H : Hp} {xs ys : List V} (h : AllD H xs) (s : ∀ y ∈ ys, y ∈ xs) : AllD H ys := fun y hy => h y (s y hy)
theorem AllD.app {H : Hp} {xs ys : List V} (h : AllD H xs) (g : AllD H ys) : AllD H (xs ++ ys) := fun y hy => (List.mem_append.mp hy).elim (h y) (g y)
theorem mem_cut {xs : List V} {lo hi : Option Int} {x : V} (h : x ∈ cutV xs lo hi) : x ∈ xs := by
  unfold cutV at h
  exact List.mem_of_mem_drop (List.mem_of_mem_take h)
/-- the heap grows, but for one list -/
theorem slV {K : PySem.W.Frag} {H : Hp} {l : Addr} {xs : List V} {lo hi : Option Int} {Q : VK} (h : SqL K H l xs) (q : ∀ p H', H' p = some (.lst (cutV xs lo hi)) → Same H H' → Q (.ref p) H') : rSlL K (.ref l) lo hi H Q :=
  ⟨l, xs, rfl, h, fun p hp => q p _ upd_same (same_new hp _)⟩
theorem slVN {K : PySem.W.Frag} {σ : L2.St} {H : Hp} {l : Addr} {xs : List V} {lo : Option Int} {Q : VK} (h : SqL K H l xs) (q : ∀ p H', H' p = some (.lst (cutV xs lo none)) → Same H H' → Q (.ref p) H') : tNoPart σ H (fun u H3 => rSlL K (.ref l) lo u H3 Q) := slV h q
theorem catV {H : Hp} {a c : Addr} {us ws : List V} {Q : VK} (ha : H a = some (.lst us)) (hc : H c = some (.lst ws)) (hz : us.length + ws.length ≤ 1000) (q : ∀ p H', H' p = some (.lst (us ++ ws)) → Same H H' → Q (.ref p) H') : rCat (.ref a) (.ref c) H Q :=
  ⟨a, c, _, _, rfl, rfl, ha, hc, Nat.le_trans hz (by decide), fun p hp => q p _ upd_same (same_new hp _)⟩
theorem cut_len (xs : List V) (lo hi : Option Int) : (cutV xs lo hi).length ≤ xs.length := cutV_length xs lo hi
theorem ne_self (v : V) : (!decide (v = v)) = false := by simp
end Td
set_option maxHeartbeats 4000000
namespace Td
open PySem PySem.Spec PyProof.Rows L2 PySem.W PySem.Calls
/-! ### sorted of alike data, from a list or a tuple -/
section
variable {prog : Program} {w : World} {A : Around} {E : Value → Shared → Prop} {s : Shared}
theorem collect_tupleS {l : Addr} {vs : List Value} {Q : List Value → Shared → Prop} (hl : IsTup s.heap l vs.toArray)
    (h : Q vs { s with heap := (s.heap.push (seqObj "list" #[] 0)).update s.heap.objs.size (Obj.mapSeq (· ++ vs.toArray)) }) (hsz : vs.length ≤ sizeLine) :
    wpAny (model prog w) A (collect (.ref l)) Q E s := by
  obtain ⟨o, ho, hc, n, hd⟩ := id hl
  unfold collect
  refine wpAny_bind (wpAny_runValue (codeAny_builtin entry_proto_collect' ?_))
  show wpAny _ _ (do again (.builtin "list.__iadd__" ⟨[← newList [], .ref l], []⟩)) _ _ s
  refine wpAny_bind (wpAny_newList (wpAny_pure ⟨Code.quiet_builtin _ (by decide +kernel), codeAny_builtin entry_list_iadd' ?_⟩))
  show wpAny _ _ (Builtin.List.listExtendWith (.ref s.heap.objs.size) (.ref l) (.ref s.heap.objs.size)) _ _ { s with heap := s.heap.push (seqObj "list" #[] 0) }
  unfold Builtin.List.listExtendWith
  have ho' : (s.heap.push (seqObj "list" #[] 0)).get? l = some o := Heap.get?_push_of_some _ ho
  refine wpAny_bind (wpAny_typeOf (T := "tuple") ⟨o, ho', hc⟩ ?_)
  have ht : (Value.type "tuple" == Value.type "tuple") = true := by rfl
  rw [if_pos (by rw [ht]; simp)]
  refine wpAny_bind (listItems_at ho' hd ?_)
  refine wpAny_bind (listItems_at (xs := #[]) (n := 0) (Heap.get?_push_size _ rfl) rfl ?_)
  rw [if_neg (by simp)]
  refine wpAny_bind (listUpdate_at (xs := #[]) (n := 0) (Heap.get?_push_size _ rfl) rfl ?_ (Nat.zero_le _) (by show (#[] ++ vs.toArray).size ≤ sizeLine + 1; simp only [Array.size_append, List.size_toArray, List.length_nil]; omega))
  refine wpAny_pure ?_
  show wpAny (model prog w) A (do
      let o ← load s.heap.objs.size
      match o.data with
      | .seq xs _ => pure xs.toList
      | _ => unsupported "internal:collect") Q E { s with heap := (s.heap.push (seqObj "list" #[] 0)).update s.heap.objs.size (Obj.mapSeq (· ++ vs.toArray)) }
  refine wpAny_bind (wpAny_load (get?_update_seq (Heap.get?_push_size _ rfl) _) ?_)
  show wpAny _ _ (pure ((#[] : Array Value) ++ vs.toArray).toList) Q E _
  rw [show ((#[] : Array Value) ++ vs.toArray).toList = vs by simp]
  exact wpAny_pure h
theorem sorted_of_sortT {l : Addr} {vs : List Value} {kw : List (Str × Value)} {Q : Value → Shared → Prop} (hl : IsTup s.heap l vs.toArray) (hL : vs.length ≤ sizeLine) (ha1 : argsOk "sorted" ⟨[.ref l], kw⟩) (ha2 : ∀ x, argsOk "list.sort" ⟨[.ref x], kw⟩)
    (body : ∀ E' : Value → Shared → Prop, wpAny (model prog w) A.in1.in1 (Builtin.«list.sort» ⟨[.ref (s.heap.objs.size + 1)], kw⟩) (fun f s' => f = .done (.ret .none) ∧ Q (.ref (s.heap.objs.size + 1)) s') E' { s with heap := copyHeap s.heap vs }) :
    wpAny (model prog w) A (call (.builtin "sorted") [.ref l] kw) Q E s := by
  refine call_function_entry_kw kind_sorted plain_sorted entry_sorted ha1 ?_
  unfold Builtin.«sorted»
  refine wpAny_bind (m := checkCount "sorted" 1 1 _) (wpAny_pure ?_)
  refine wpAny_bind (collect_tupleS hl ?_ hL)
  refine wpAny_bind (wpAny_newList ?_ hL)
  have hsz : ((s.heap.push (seqObj "list" #[] 0)).update s.heap.objs.size (Obj.mapSeq (· ++ vs.toArray))).objs.size = s.heap.objs.size + 1 := by
    rw [Heap.size_update, size_push']
  show wpAny _ _ _ _ _ { s with heap := copyHeap s.heap vs }
  rw [hsz]
  refine wpAny_bind (wpAny_holding (wpAny_call_entry_kw slot_list_sort ⟨_, copyHeap_at s.heap vs, rfl⟩ entry_list_sort ?body (ha2 _)))
  case body =>
    show wpAny (model prog w) A.in1.in1 (Builtin.«list.sort» ⟨[.ref (s.heap.objs.size + 1)], kw⟩) _ _ _
    refine wpAny_mono (body _) (fun f s' hf => ?_) fun _ _ e => e
    obtain ⟨rfl, hq⟩ := hf
    exact ⟨_, rfl, wpAny_pure ⟨_, rfl, hq⟩⟩
theorem sorted_dataT {β : Type} {R : Value → β → Prop} {enc : β → PyData} {vs : List Value} {bs : List β} {l : Addr} {Q : Value → Shared → Prop} (hl : IsTup s.heap l vs.toArray) (e : EachIs R vs bs) (er : EachIs (fun v b => ∃ as, Reads s.heap v (enc b) as) vs bs) (hal : AllAlike (bs.map enc)) (hk : Sortable (bs.map enc)) (hL : bs.length ≤ sizeLine)
    (hu : ∀ b, b ∈ bs → A.units + 2 + (enc b).depth < cLine) (h : ∀ out, out.length = bs.length → EachIs R out (bs.mergeSort (dataLe false enc)) → Q (.ref (s.heap.objs.size + 1)) { s with heap := sortedAll s.heap vs (List.toArray out) }) :
    wpAny (model prog w) A (call (.builtin "sorted") [.ref l]) Q E s := by
  have er' : EachIs (fun v b => ∃ as, Reads (sortingHeap (copyHeap s.heap vs) (s.heap.objs.size + 1) vs) v (enc b) as) vs bs := er.mono fun _ _ ⟨as, r⟩ => ⟨as, PyProof.Rows.Reads.keeps (fun _ _ => sorting_copy_old) r⟩
  have S := SortsAt.data (prog := prog) (w := w) (A := A.in1.in1) (s := { s with heap := sortingHeap (copyHeap s.heap vs) (s.heap.objs.size + 1) vs }) (each_map (R := fun v d => ∃ as, Reads (sortingHeap (copyHeap s.heap vs) (s.heap.objs.size + 1) vs) v d as) enc er') hal hk (bound_map hu)
  have hL' : vs.length ≤ sizeLine := by rw [e.length]; exact hL
  exact sorted_of_sortT hl hL' (args_sorted1 _) (fun _ => args_list_sort _) fun _ => list_sort_vals (s := { s with heap := copyHeap s.heap vs }) (copyHeap_at s.heap vs) S hL' ⟨rfl, h _ (by rw [sortVals_length false rfl]; exact e.length) (sortVals_data false e er' hal)⟩
end
theorem vals_each : ∀ {xs : List V} {us : List Value}, Vals xs us → EachIs (fun u x => RelV x u) us xs
  | _, _, .nil => .nil
  | _, _, .cons r t => .cons r (vals_each t)
theorem each_vals {β : Type} {f : β → V} : ∀ {us : List Value} {bs : List β}, EachIs (fun u b => RelV (f b) u) us bs → Vals (bs.map f) us
  | _, _, .nil => .nil
  | _, _, .cons r t => .cons r (each_vals t)
theorem vals_eachM {β : Type} {f : β → V} : ∀ {bs : List β} {us : List Value}, Vals (bs.map f) us → EachIs (fun u b => RelV (f b) u) us bs
  | [], _, h => by cases h; exact .nil
  | b :: bs, _, h => by
    cases h with
    | cons r t => exact .cons r (vals_eachM t)
/-- sorted(a list or a tuple of alike data): the pairs of value and datum, sorted by the datum -/
def rSortD (K : PySem.W.Frag) : List V → Hp → VK → Prop := fun vs H Q => ∃ (a : Addr) (bs : List (V × PyData)), vs = [V.ref a] ∧ (SqL K H a (bs.map (·.1)) ∨ SqT K H a (bs.map (·.1))) ∧ (∀ b ∈ bs, Dp K H b.1 b.2) ∧ AllAlike (bs.map (·.2)) ∧ Sortable (bs.map (·.2)) ∧ (∀ b ∈ bs, b.2.depth ≤ 32) ∧
  ∀ p, H p = none → Q (.ref p) (L2.upd H p (.lst ((bs.mergeSort (dataLe false (·.2))).map (·.1))))
theorem each_reads {X : Cx} {pins : List (Addr × Obj)} {σ : L2.St} {H : Hp} {s : Shared} (I : Inv X pins σ H s) : ∀ {us : List Value} {bs : List (V × PyData)}, EachIs (fun u b => RelV b.1 u) us bs → (∀ b ∈ bs, Dp X.K H b.1 b.2) → EachIs (fun u b => ∃ as, Reads s.heap u b.2 as) us bs
  | _, _, .nil, _ => .nil
  | _, _, .cons (b := b) r t, h => .cons (Dp.reads I b.2 b.1 _ (h b (List.mem_cons_self ..)) r) (each_reads I t fun c hc => h c (List.mem_cons_of_mem _ hc))
theorem cr_sortedD {X : Cx} (hu : X.A.units + 64 < cLine) : CallR X (.builtin "sorted") (rSortD X.K) := by
  intro pins s σ H vs us Q I r h
  obtain ⟨a, bs, rfl, hs, hd, hal, hk, hdp, q⟩ := h
  obtain ⟨u, rfl, ru⟩ := vals1 r
  obtain rfl : u = Value.ref a := ru
  have fin : ∀ its : List Value, its.length = bs.length → bs.length ≤ sizeLine → ∀ out : List Value, out.length = bs.length → EachIs (fun u b => RelV b.1 u) out (bs.mergeSort (dataLe false (·.2))) → EP X pins σ Q (.ref (s.heap.objs.size + 1)) { s with heap := sortedAll s.heap its (List.toArray out) } := fun its hil hz out hol ho => by
    obtain ⟨n, hn⟩ := sortedAll_at s.heap its (List.toArray out)
    refine ⟨.ref (s.heap.objs.size + 1), L2.upd H (s.heap.objs.size + 1) (.lst ((bs.mergeSort (dataLe false (·.2))).map (·.1))), I.laid (t' := s.toks) (fun b o e => sortedAll_old e) (Nat.le_succ _) ⟨?_, out, n, each_vals ho, hn⟩, rfl, q _ (I.hok.fresh (Nat.le_succ _))⟩
    rw [List.length_map, List.length_mergeSort]
    exact hz
  have hun : ∀ b, b ∈ bs → X.A.units + 2 + b.2.depth < cLine := fun b hb => by
    have := hdp b hb
    omega
  rcases hs with hs | hs
  · obtain ⟨its, rv, hl, hz⟩ := I.list hs
    rw [List.length_map] at hz
    have ev := vals_eachM rv
    exact sorted_data hl.isList ev (each_reads I ev hd) hal hk hz hun fun out h1 h2 => fin its ev.length hz out h1 h2
  · obtain ⟨its, rv, hl, hz⟩ := I.tuple hs
    rw [List.length_map] at hz
    have ev := vals_eachM rv
    exact sorted_dataT hl ev (each_reads I ev hd) hal hk hz hun fun out h1 h2 => fin its ev.length hz out h1 h2
end Td
set_option maxHeartbeats 4000000
namespace Td
open PySem PySem.Spec PyProof.Rows L2 PySem.W
/-! ### pairs of texts, sorted -/
abbrev rowLe : List Str → List Str → Bool := dataLe false sD
theorem slt_tri {a b : Str} (h : ¬ b.cps.toList < a.cps.toList) (hn : a ≠ b) : a.cps.toList < b.cps.toList := by
  by_cases h2 : a.cps.toList < b.cps.toList
  · exact h2
  · exact absurd (TL.ext_tl (List.le_antisymm (show a.cps.toList ≤ b.cps.toList from h) (show b.cps.toList ≤ a.cps.toList from h2))) hn
theorem alike_pair (a b c d : Str) : alike (sD [a, b]) (sD [c, d]) = true := by
  unfold sD
  simp [alike, alikeAll]
theorem rowLe_lt {a b c d : Str} (h : rowLe [a, b] [c, d] = true) (hn : a ≠ c) : a.cps.toList < c.cps.toList := by
  have e : rowLe [a, b] [c, d] = !dataLt (sD [c, d]) (sD [a, b]) := rfl
  rw [e, Bool.not_eq_true'] at h
  unfold sD at h
  rw [List.map_cons, List.map_cons, List.map_cons, List.map_cons, List.map_nil, dataLt_pair (by simp [alike]) (by simp [alike])] at h
  have ne : PyData.eqv (.str c) (.str a) = false := by
    simp only [PyData.eqv]
    exact beq_false_of_ne fun z => hn z.symm
  rw [ne, if_neg (by decide), dataLt_str] at h
  exact slt_tri (of_decide_eq_false h) hn
theorem asc_up : ∀ {l : List Str} {p : Str}, AscS (p :: l) → Up p l
  | [], _, _ => trivial
  | x :: l, p, h => by
    obtain ⟨h1, h2⟩ := List.pairwise_cons.mp h
    exact ⟨h1 x (List.mem_cons_self ..), asc_up h2⟩
theorem up_of_asc {l : List Str} (h : AscS l) (hn : ∀ x ∈ l, Nm x) : Up "" l := by
  cases l with
  | nil => trivial
  | cons x r => exact ⟨nil_lt (hn x (List.mem_cons_self ..)).1, asc_up h⟩
def insP (pl : List (List Str)) (p : List Str) : List (List Str) := (pl ++ [p]).mergeSort rowLe
theorem rowLe_tot : TotalLe rowLe := sortLe_total _ _ _
theorem insP_perm (pl : List (List Str)) (p : List Str) : (insP pl p).Perm (pl ++ [p]) := List.mergeSort_perm _ _
theorem sorted_asc {l : List (List Str)} (h : l.Pairwise fun a b => rowLe a b = true) (h2 : ∀ r ∈ l, ∃ a b : Str, r = [a, b]) (nd : (l.map hd0).Nodup) : AscS (l.map hd0) := by
  induction l with
  | nil => exact List.Pairwise.nil
  | cons r l ih =>
    obtain ⟨p1, p2⟩ := List.pairwise_cons.mp h
    obtain ⟨n1, n2⟩ := List.nodup_cons.mp nd
    refine List.pairwise_cons.mpr ⟨fun x hx => ?_, ih p2 (fun r hr => h2 r (List.mem_cons_of_mem _ hr)) n2⟩
    obtain ⟨q, hq, rfl⟩ := List.mem_map.mp hx
    obtain ⟨a, b, rfl⟩ := h2 r (List.mem_cons_self ..)
    obtain ⟨c, d, rfl⟩ := h2 q (List.mem_cons_of_mem _ hq)
    exact rowLe_lt (p1 _ hq) fun e => n1 (by rw [show hd0 [a, b] = hd0 [c, d] from e]; exact hx)
theorem insP_asc {pl : List (List Str)} {p : List Str} (h2 : ∀ r ∈ pl ++ [p], ∃ a b : Str, r = [a, b]) (nd : ((pl ++ [p]).map hd0).Nodup) : AscS ((insP pl p).map hd0) :=
  sorted_asc (sort_pairwise rowLe_tot _) (fun r hr => h2 r ((insP_perm pl p).mem_iff.mp hr)) (((insP_perm pl p).map hd0).nodup_iff.mpr nd)
theorem insP_len (pl : List (List Str)) (p : List Str) : (insP pl p).length = pl.length + 1 := by
  rw [(insP_perm pl p).length_eq, List.length_append]
  rfl
/-- sorted of pairs of texts in the heap -/
theorem sort_rows {K : PySem.W.Frag} {H : Hp} {l : Addr} {as : List Addr} {rows : List (List Str)} {Q : VK} (hl : SqL K H l (as.map V.ref) ∨ SqT K H l (as.map V.ref)) (hR : RowsAt H as rows) (h2 : ∀ r ∈ rows, ∃ a b : Str, r = [a, b])
    (q : ∀ p as', H p = none → RowsAt H as' (rows.mergeSort rowLe) → Q (.ref p) (L2.upd H p (.lst (as'.map V.ref)))) : rSortD K [.ref l] H Q := by
  have len := hR.1
  let g : Addr × List Str → V × PyData := fun z => (V.ref z.1, sD z.2)
  have e1 : ((as.zip rows).map g).map (·.1) = as.map V.ref := by
    rw [List.map_map]
    have : ((fun x : V × PyData => x.1) ∘ g) = V.ref ∘ Prod.fst := rfl
    rw [this, ← List.map_map, List.map_fst_zip (by omega)]
  have mz : ∀ z ∈ as.zip rows, H z.1 = some (.tup (z.2.map V.str)) := fun z hz => by
    obtain ⟨i, hi⟩ := List.getElem?_of_mem hz
    rw [List.getElem?_zip_eq_some] at hi
    exact hR.2 i _ _ hi.1 hi.2
  have m2 : ∀ z ∈ as.zip rows, z.2 ∈ rows := fun z hz => (List.of_mem_zip hz).2
  have e3 : (((as.zip rows).map g).mergeSort (dataLe false (·.2))) = ((as.zip rows).mergeSort fun a b => rowLe a.2 b.2).map g :=
    (List.map_mergeSort (f := g) (r := fun a b => rowLe a.2 b.2) (s := dataLe false (·.2)) (fun a _ b _ => rfl)).symm
  have e4 : ((as.zip rows).mergeSort fun a b => rowLe a.2 b.2).map (·.2) = rows.mergeSort rowLe := by
    rw [List.map_mergeSort (s := rowLe) (fun a _ b _ => rfl), List.map_snd_zip (by omega)]
  have pm := List.mergeSort_perm (as.zip rows) (fun a b => rowLe a.2 b.2)
  refine ⟨l, (as.zip rows).map g, rfl, ?_, fun b hb => ?_, fun d hd d' hd' => ?_, .inl fun d hd => ?_, fun b hb => ?_, fun p hp => ?_⟩
  · rw [e1]; exact hl
  · obtain ⟨z, hz, rfl⟩ := List.mem_map.mp hb
    exact .tup (SqT.of (mz z hz)) (dp_strs _)
  · rw [List.map_map] at hd hd'
    obtain ⟨z, hz, rfl⟩ := List.mem_map.mp hd
    obtain ⟨z', hz', rfl⟩ := List.mem_map.mp hd'
    obtain ⟨a, b, e⟩ := h2 _ (m2 z hz)
    obtain ⟨a', b', e'⟩ := h2 _ (m2 z' hz')
    show alike (sD z.2) (sD z'.2) = true
    rw [e, e']
    exact alike_pair _ _ _ _
  · rw [List.map_map] at hd
    obtain ⟨z, hz, rfl⟩ := List.mem_map.mp hd
    obtain ⟨a, b, e⟩ := h2 _ (m2 z hz)
    refine ⟨.str a, [.str b], ?_⟩
    show sD z.2 = _
    rw [e]
    rfl
  · obtain ⟨z, hz, rfl⟩ := List.mem_map.mp hb
    have := depth_sD z.2
    show (sD z.2).depth ≤ 32
    omega
  · rw [e3, List.map_map]
    have e5 : ((as.zip rows).mergeSort fun a b => rowLe a.2 b.2).map ((fun x : V × PyData => x.1) ∘ g) = (((as.zip rows).mergeSort fun a b => rowLe a.2 b.2).map (·.1)).map V.ref := by
      rw [List.map_map]
      rfl
    rw [e5]
    refine q p _ hp ?_
    rw [← e4]
    refine ⟨by rw [List.length_map, List.length_map], fun i a r h1 h3 => ?_⟩
    rw [List.getElem?_map] at h1 h3
    cases z : (((as.zip rows).mergeSort fun a b => rowLe a.2 b.2))[i]? with
    | none => rw [z] at h1; cases h1
    | some y =>
      rw [z] at h1 h3
      cases h1
      cases h3
      exact mz y (pm.mem_iff.mp (List.mem_of_getElem? z))
/-! ### a change of a state by hand -/
abbrev Out := PyData ⊕ (List Str × List (List Str))
def chg (rooms : List Str) (rows : List (List Str)) (faces : List Str) (places : List (List Str)) : List Str → Out
  | [k, x] =>
    if k = "turn" then match fIx rows x with
      | none => .inl (noD "door" (.str x))
      | some i => .inr (faces.set i (oth ((rows.getD i []).getD 1 "") ((rows.getD i []).getD 2 "") (faces.getD i "")), places)
    else if x ∈ places.map hd0 then .inr (faces, places.filter fun p => decide (hd0 p ≠ x)) else .inl (noD "walker" (.str x))
  | [_, w, r] => if r ∈ rooms then (if w ∈ places.map hd0 then .inl (noD "present" (.str w)) else if places.length = 5 then .inl (noD "full" (.int 5)) else .inr (faces, insP places [w, r])) else .inl (noD "room" (.str r))
  | _ => .inl .none
def ChOk (cl : List Str) : Prop := (∃ x : Str, cl = [("turn" : Str), x]) ∨ (∃ w r : Str, cl = [("put" : Str), w, r] ∧ Nm w) ∨ ∃ w : Str, cl = [("remove" : Str), w]
def ToldC (H : Hp) (p : Addr) : Out → Prop
  | .inl d => ∃ (c : Str) (v : V) (d' : PyData), d = noD c d' ∧ H p = some (.tup [.str c, v, .bl false]) ∧ c ≠ "value" ∧ Sc v d'
  | .inr (f, pl) => ∃ s, H p = some (.tup [.str "value", .ref s]) ∧ HS H s f pl
def outD : Out → PyData
  | .inl d => d
  | .inr (f, pl) => valD (hsD f pl)
theorem ToldC.tu {H H' : Hp} {p : Addr} {o : Out} (x : Tu H H') (h : ToldC H p o) : ToldC H' p o := by
  cases o with
  | inl d =>
    obtain ⟨c, v, d', e, h1, h2, h3⟩ := h
    exact ⟨c, v, d', e, x _ _ h1, h2, h3⟩
  | inr q =>
    obtain ⟨s, h1, h2⟩ := h
    exact ⟨s, x _ _ h1, h2.tu x⟩
section
variable {rooms faces : List Str} {rows places : List (List Str)} {x w r : Str}
theorem chg_t0 (h : x ∉ rows.map hd0) : chg rooms rows faces places ["turn", x] = .inl (noD "door" (.str x)) := by
  show (match fIx rows x with
      | none => Sum.inl (noD "door" (.str x))
      | some i => Sum.inr (faces.set i (oth ((rows.getD i []).getD 1 "") ((rows.getD i []).getD 2 "") (faces.getD i "")), places) : Out) = _
  rw [fIx_none h]
theorem chg_t1 (nd : (rows.map hd0).Nodup) {i : Nat} {a b fc : Str} (hi : rows[i]? = some [x, a, b]) (hf : faces[i]? = some fc) : chg rooms rows faces places ["turn", x] = .inr (faces.set i (oth a b fc), places) := by
  show (match fIx rows x with
      | none => Sum.inl (noD "door" (.str x))
      | some i => Sum.inr (faces.set i (oth ((rows.getD i []).getD 1 "") ((rows.getD i []).getD 2 "") (faces.getD i "")), places) : Out) = _
  rw [fIx_some nd hi (show hd0 [x, a, b] = x from rfl)]
  have e1 : rows.getD i [] = [x, a, b] := by rw [List.getD_eq_getElem?_getD, hi]; rfl
  have e2 : faces.getD i "" = fc := by rw [List.getD_eq_getElem?_getD, hf]; rfl
  simp only [e1, e2]
  rfl
theorem chg_p : chg rooms rows faces places ["put", w, r] = if r ∈ rooms then (if w ∈ places.map hd0 then .inl (noD "present" (.str w)) else if places.length = 5 then .inl (noD "full" (.int 5)) else .inr (faces, insP places [w, r])) else .inl (noD "room" (.str r)) := rfl
theorem chg_r : chg rooms rows faces places ["remove", w] = if w ∈ places.map hd0 then .inr (faces, places.filter fun p => decide (hd0 p ≠ w)) else .inl (noD "walker" (.str w)) := rfl
end
/-- what comes of a change is a state again -/
theorem chg_ok {rooms faces f : List Str} {rows places pl : List (List Str)} {cl : List Str} (hv : HallV rooms rows) (ht : StV rooms rows faces places) (hc : ChOk cl) (e : chg rooms rows faces places cl = .inr (f, pl)) : StV rooms rows f pl := by
  rcases hc with ⟨x, rfl⟩ | ⟨w, r, rfl, hw⟩ | ⟨w, rfl⟩
  · have e' : (match fIx rows x with
      | none => Sum.inl (noD "door" (.str x))
      | some i => Sum.inr (faces.set i (oth ((rows.getD i []).getD 1 "") ((rows.getD i []).getD 2 "") (faces.getD i "")), places) : Out) = .inr (f, pl) := e
    by_cases hx : x ∈ rows.map hd0
    · obtain ⟨i, a, b, hi, _⟩ := row_at hv hx
      obtain ⟨fc, hf, hfab⟩ := face_at ht hi
      rw [fIx_some hv.dn hi (show hd0 [x, a, b] = x from rfl)] at e'
      have e1 : rows.getD i [] = [x, a, b] := by rw [List.getD_eq_getElem?_getD, hi]; rfl
      have e2 : faces.getD i "" = fc := by rw [List.getD_eq_getElem?_getD, hf]; rfl
      simp only [e1, e2] at e'
      cases e'
      refine ⟨by rw [List.length_set]; exact ht.fl, fun k g r hg hr => ?_, ht.p5, ht.pl, ht.up⟩
      rw [List.getElem?_set] at hg
      by_cases z : i = k
      · subst z
        rw [if_pos rfl, if_pos (List.getElem?_eq_some_iff.mp hf).1] at hg
        cases hg
        rw [hi] at hr
        cases hr
        refine ⟨x, a, b, rfl, ?_⟩
        show oth a b fc = a ∨ oth a b fc = b
        unfold oth
        split
        · exact .inr rfl
        · exact .inl rfl
      · rw [if_neg z] at hg
        exact ht.fc k g r hg hr
    · rw [fIx_none hx] at e'
      cases e'
  · have e' : (if r ∈ rooms then (if w ∈ places.map hd0 then Sum.inl (noD "present" (.str w)) else if places.length = 5 then .inl (noD "full" (.int 5)) else .inr (faces, insP places [w, r])) else .inl (noD "room" (.str r)) : Out) = .inr (f, pl) := e
    by_cases h1 : r ∈ rooms
    case neg => rw [if_neg h1] at e'; cases e'
    rw [if_pos h1] at e'
    by_cases h2 : w ∈ places.map hd0
    case pos => rw [if_pos h2] at e'; cases e'
    rw [if_neg h2] at e'
    by_cases h3 : places.length = 5
    case pos => rw [if_pos h3] at e'; cases e'
    rw [if_neg h3] at e'
    cases e'
    have p5 := ht.p5
    have pm := insP_perm places [w, r]
    have pair : ∀ q ∈ places ++ [[w, r]], ∃ a b : Str, q = [a, b] ∧ Nm a ∧ b ∈ rooms := fun q hq => by
      rcases List.mem_append.mp hq with hq | hq
      · exact ht.pl q hq
      · rw [List.mem_singleton.mp hq]
        exact ⟨w, r, rfl, hw, h1⟩
    have nd : ((places ++ [[w, r]]).map hd0).Nodup := by
      rw [List.map_append]
      refine List.nodup_append.mpr ⟨ht.pnd, by simp, fun a ha b hb => ?_⟩
      have hb' : b = w := by simpa [hd0] using hb
      rw [hb']
      exact fun z => h2 (by rw [← z]; exact ha)
    refine ⟨ht.fl, ht.fc, by rw [insP_len]; omega, fun q hq => ?_, ?_⟩
    · exact pair q (pm.mem_iff.mp hq)
    · have as := insP_asc (pl := places) (p := [w, r]) (fun q hq => by obtain ⟨a, b, z, _⟩ := pair q hq; exact ⟨a, b, z⟩) nd
      refine up_of_asc (l := (insP places [w, r]).map fun p => p.headD "") as fun x hx => ?_
      obtain ⟨q, hq, rfl⟩ := List.mem_map.mp hx
      obtain ⟨a, b, rfl, z, _⟩ := pair q (pm.mem_iff.mp hq)
      exact z
  · have e' : (if w ∈ places.map hd0 then Sum.inr (faces, places.filter fun p => decide (hd0 p ≠ w)) else .inl (noD "walker" (.str w)) : Out) = .inr (f, pl) := e
    by_cases h1 : w ∈ places.map hd0
    case neg => rw [if_neg h1] at e'; cases e'
    rw [if_pos h1] at e'
    cases e'
    have p5 := ht.p5
    have sub : (places.filter fun p => decide (hd0 p ≠ w)).Sublist places := List.filter_sublist
    refine ⟨ht.fl, ht.fc, Nat.le_trans sub.length_le p5, fun q hq => ht.pl q (sub.mem hq), ?_⟩
    refine up_of_asc (l := (places.filter fun p => decide (hd0 p ≠ w)).map fun p => p.headD "") ?_ fun x hx => ?_
    · exact List.Pairwise.sublist (sub.map _) ht.asc
    · obtain ⟨q, hq, rfl⟩ := List.mem_map.mp hx
      obtain ⟨a, b, rfl, z, _⟩ := ht.pl q (sub.mem hq)
      exact z
theorem chg_dr {H : Hp} {p : Addr} {rooms faces : List Str} {rows places : List (List Str)} {cl : List Str} (hv : HallV rooms rows) (ht : StV rooms rows faces places) (hc : ChOk cl) (h : ToldC H p (chg rooms rows faces places cl)) : DR H 5 (.ref p) (outD (chg rooms rows faces places cl)) := by
  cases e : chg rooms rows faces places cl with
  | inl d =>
    rw [e] at h
    obtain ⟨c, v, d', rfl, h1, _, h2⟩ := h
    exact dr_no h1 h2
  | inr q =>
    obtain ⟨f, pl⟩ := q
    rw [e] at h
    obtain ⟨s, h1, h2⟩ := h
    have t := chg_ok hv ht hc e
    have d12 := hv.d12
    have fl := t.fl
    have p5 := t.p5
    refine dr_val h1 (dr_hs h2 (by omega) (by omega) fun r hr => ?_)
    obtain ⟨a, b, rfl, _⟩ := t.pl r hr
    show 2 ≤ 1000
    decide
end Td
set_option maxHeartbeats 4000000
namespace Td
open PySem PySem.Spec PyProof.Rows L2
/-! ### counts: what a pass, a turn, a removal do to them -/
theorem cnt_set : ∀ (l : List Str) (i : Nat) (x y r : Str), l[i]? = some x → (l.set i y).count r + (if x = r then 1 else 0) = l.count r + (if y = r then 1 else 0)
  | [], i, x, y, r, h => by cases h
  | z :: t, 0, x, y, r, h => by
    cases h
    simp only [List.set_cons_zero, List.count_cons, beq_iff_eq]
    omega
  | z :: t, i + 1, x, y, r, h => by
    have ih := cnt_set t i x y r h
    simp only [List.set_cons_succ, List.count_cons, beq_iff_eq]
    omega
theorem coN_pass {rooms : List Str} {rows : List (List Str)} {s s' : Sta} {p : Deed} (hv : HallV rooms rows) (ht : StV rooms rows s.1 s.2) (h : stp rows s p = some s') : coN rooms s'.1 s'.2 = coN rooms s.1 s.2 := by
  obtain ⟨i, j, a, b, f, hi, hf, hj, _, _, _, _, rfl⟩ := stp_some hv ht h
  unfold coN
  refine List.map_congr_left fun r _ => ?_
  have e1 := cnt_set s.1 i f (oth a b f) r hf
  have e2 := cnt_set (s.2.map rm) j f (oth a b f) r (by rw [List.getElem?_map, hj]; rfl)
  have e3 : (s.2.set j [p.1, oth a b f]).map rm = (s.2.map rm).set j (oth a b f) := by rw [List.map_set]; rfl
  show (((s.1.set i (oth a b f)).count r : Nat) : Int) - ((((s.2.set j [p.1, oth a b f]).map rm).count r : Nat) : Int) = _
  rw [e3]
  omega
theorem dnat_b {k m : Nat} : decide (V.int (k : Nat) = V.int (m : Nat)) = decide (k = m) := by
  by_cases z : k = m
  · rw [decide_eq_true z, decide_eq_true (by rw [z])]
  · rw [decide_eq_false z, decide_eq_false fun w => z (by injection w; omega)]
theorem turn_num {rooms faces : List Str} {i k lo wo : Nat} {r fc o : Str} {c : Int} (nd : rooms.Nodup) (hf : faces[i]? = some fc) (hk : rooms[k]? = some r) (hl : rooms[lo]? = some fc) (hw : rooms[wo]? = some o) :
    ((faces.count r : Nat) : Int) - c - (if decide (k = lo) = true then 1 else 0) + (if decide (k = wo) = true then 1 else 0) = (((faces.set i o).count r : Nat) : Int) - c := by
  have e := cnt_set faces i fc o r hf
  have h1 : k = lo ↔ fc = r := ⟨fun z => by rw [z, hl] at hk; exact Option.some.inj hk, fun z => nd_ix nd (by rw [hk, z]) hl⟩
  have h2 : k = wo ↔ o = r := ⟨fun z => by rw [z, hw] at hk; exact Option.some.inj hk, fun z => nd_ix nd (by rw [hk, z]) hw⟩
  simp only [decide_eq_true_eq]
  by_cases c1 : k = lo <;> by_cases c2 : k = wo
  · rw [if_pos c1, if_pos c2]; rw [if_pos (h1.mp c1), if_pos (h2.mp c2)] at e; omega
  · rw [if_pos c1, if_neg c2]; rw [if_pos (h1.mp c1), if_neg (fun z => c2 (h2.mpr z))] at e; omega
  · rw [if_neg c1, if_pos c2]; rw [if_neg (fun z => c1 (h1.mpr z)), if_pos (h2.mp c2)] at e; omega
  · rw [if_neg c1, if_neg c2]; rw [if_neg (fun z => c1 (h1.mpr z)), if_neg (fun z => c2 (h2.mpr z))] at e; omega
theorem cnt_rem {w room : Str} (r : Str) : ∀ {places : List (List Str)}, (places.map hd0).Nodup → [w, room] ∈ places → ((places.filter fun p => decide (hd0 p ≠ w)).map rm).count r + (if room = r then 1 else 0) = (places.map rm).count r
  | [], _, h => by cases h
  | p :: t, nd, h => by
    have nd' : (hd0 p :: t.map hd0).Nodup := nd
    obtain ⟨n1, n2⟩ := List.nodup_cons.mp nd'
    rcases List.mem_cons.mp h with rfl | h
    · have e : t.filter (fun p => decide (hd0 p ≠ w)) = t := List.filter_eq_self.mpr fun q hq => decide_eq_true fun z => n1 (List.mem_map.mpr ⟨q, hq, z⟩)
      rw [List.filter_cons_of_neg (by simp [hd0]), e, List.map_cons, List.count_cons]
      simp only [beq_iff_eq]
      rfl
    · have hn : hd0 p ≠ w := fun z => n1 (List.mem_map.mpr ⟨_, h, z.symm⟩)
      have ih := cnt_rem r n2 h
      rw [List.filter_cons_of_pos (by simpa using hn), List.map_cons, List.map_cons, List.count_cons, List.count_cons]
      omega
theorem rem_num {w room r : Str} {places : List (List Str)} {c : Int} (nd : (places.map hd0).Nodup) (h : [w, room] ∈ places) :
    c - (((places.map rm).count r : Nat) : Int) + (if decide (r = room) = true then 1 else 0) = c - ((((places.filter fun p => decide (hd0 p ≠ w)).map rm).count r : Nat) : Int) := by
  have e := cnt_rem (w := w) (room := room) r nd h
  simp only [decide_eq_true_eq]
  by_cases z : room = r
  · rw [if_pos z] at e
    rw [if_pos z.symm]
    omega
  · rw [if_neg z] at e
    rw [if_neg (fun y => z y.symm)]
    omega
theorem eq_of_heads {l m : List (List Str)} (hp : ∀ x ∈ l, x ∈ m) (nd : (m.map hd0).Nodup) (e : l.map hd0 = m.map hd0) : l = m := by
  have len : l.length = m.length := by
    have z := congrArg List.length e
    rwa [List.length_map, List.length_map] at z
  refine List.ext_getElem len fun i h1 h2 => ?_
  obtain ⟨j, hj⟩ := List.getElem?_of_mem (hp _ (List.getElem_mem h1))
  have eh : hd0 l[i] = hd0 m[i] := by
    have z : (l.map hd0)[i]? = (m.map hd0)[i]? := by rw [e]
    rw [List.getElem?_map, List.getElem?_map, List.getElem?_eq_getElem h1, List.getElem?_eq_getElem h2] at z
    exact Option.some.inj z
  have ij := at_one (l := m) nd hj (List.getElem?_eq_getElem h2) eh
  subst ij
  rw [List.getElem?_eq_getElem h2] at hj
  exact (Option.some.inj hj).symm
theorem put_back {rooms faces : List Str} {rows places : List (List Str)} {w room : Str} (ht : StV rooms rows faces places) (h : [w, room] ∈ places) : insP (places.filter fun p => decide (hd0 p ≠ w)) [w, room] = places := by
  have nd := ht.pnd
  have perm := insP_perm (places.filter fun p => decide (hd0 p ≠ w)) [w, room]
  have sub : ∀ x ∈ insP (places.filter fun p => decide (hd0 p ≠ w)) [w, room], x ∈ places := fun x hx => by
    rcases List.mem_append.mp (perm.mem_iff.mp hx) with hx | hx
    · exact (List.mem_filter.mp hx).1
    · rw [List.mem_singleton.mp hx]; exact h
  have sup : ∀ x ∈ places, x ∈ insP (places.filter fun p => decide (hd0 p ≠ w)) [w, room] := fun x hx => perm.mem_iff.mpr (by
    by_cases z : hd0 x = w
    · refine List.mem_append.mpr (.inr (List.mem_singleton.mpr ?_))
      obtain ⟨i, hi⟩ := List.getElem?_of_mem hx
      obtain ⟨j, hj⟩ := List.getElem?_of_mem h
      have ij := at_one (l := places) nd hi hj z
      subst ij
      rw [hi] at hj
      exact Option.some.inj hj
    · exact List.mem_append.mpr (.inl (List.mem_filter.mpr ⟨hx, decide_eq_true z⟩)))
  have nd2 : ((places.filter fun p => decide (hd0 p ≠ w)) ++ [[w, room]]).map hd0 |>.Nodup := by
    rw [List.map_append]
    refine List.nodup_append.mpr ⟨nd.sublist ((List.filter_sublist).map hd0), List.pairwise_singleton _ _, fun x hx y hy e => ?_⟩
    have hy' : y = w := List.mem_singleton.mp hy
    obtain ⟨q, hq, rfl⟩ := List.mem_map.mp hx
    exact of_decide_eq_true (List.mem_filter.mp hq).2 (e.trans hy')
  have two : ∀ r ∈ places, ∃ a b : Str, r = [a, b] := fun r hr => by
    obtain ⟨a, b, e, _⟩ := ht.pl r hr
    exact ⟨a, b, e⟩
  have asc := insP_asc (pl := places.filter fun p => decide (hd0 p ≠ w)) (p := [w, room]) (fun r hr => two r (sub r (perm.mem_iff.mpr hr))) nd2
  refine eq_of_heads sub nd (asc_unique asc ht.asc fun x => ⟨fun hx => ?_, fun hx => ?_⟩)
  · obtain ⟨q, hq, rfl⟩ := List.mem_map.mp hx
    exact List.mem_map.mpr ⟨q, sub q hq, rfl⟩
  · obtain ⟨q, hq, rfl⟩ := List.mem_map.mp hx
    exact List.mem_map.mpr ⟨q, sup q hq, rfl⟩
theorem oth_back {a b f : Str} (hab : a ≠ b) (hf : f = a ∨ f = b) : oth a b (oth a b f) = f := by
  unfold oth
  rcases hf with rfl | rfl
  · rw [if_pos rfl, if_neg hab.symm]
  · rw [if_neg hab.symm, if_pos rfl]
theorem set_back {faces : List Str} {i : Nat} {fc o : Str} (h : faces[i]? = some fc) : (faces.set i o).set i fc = faces := by
  rw [List.set_set]
  refine List.ext_getElem? fun k => ?_
  rw [List.getElem?_set]
  by_cases z : i = k
  · subst z
    rw [if_pos rfl, if_pos (List.getElem?_eq_some_iff.mp h).1, h]
  · rw [if_neg z]
theorem HZ.dp {K : PySem.W.Frag} {H : Hp} {h : Addr} {ss : List Str} {rows : List (List Str)} (x : HZ H h ss rows) : Dp K H (.ref h) (hsD ss rows) := by
  obtain ⟨r, d, h1, h2, as, h3, hR⟩ := x
  exact .tup (SqT.of h1) (.cons (.tup h2.sq (dp_strs _)) (.cons (.tup (SqT.of h3) (dp_rows hR)) .nil))
theorem HG.dp {K : PySem.W.Frag} {H : Hp} {h : Addr} {ss : List Str} {rows : List (List Str)} (x : HG H h ss rows) : Dp K H (.ref h) (hsD ss rows) := by
  obtain ⟨r, d, h1, h2, as, h3, hR⟩ := x
  exact .tup (SqT.of h1) (.cons (.tup (.inl h2) (dp_strs _)) (.cons (.tup (SqT.of h3) (dp_rows hR)) .nil))
def rD (rows : List (List Str)) : PyData := .tuple (rows.map sD)
theorem shaped_rD {rows : List (List Str)} (h : ∀ r ∈ rows, ∀ x ∈ r, Nm x) : SeqAt.shaped (rD rows) = true := by
  unfold SeqAt.shaped
  have c : (rD rows).canLay0 = true := by
    unfold rD
    simp only [PyData.canLay0]
    exact lay_map _ rows fun r hr => lay_sD (h r hr)
  have d : (rD rows).depth ≤ 64 := by
    have := depth_map sD 3 depth_sD rows
    unfold rD
    simp only [PyData.depth]
    omega
  rw [c, decide_eq_true d]
  rfl
theorem eqv_rD (rows : List (List Str)) : PyData.eqv (rD rows) (.tuple []) = rows.isEmpty := by
  cases rows with
  | nil => simp [rD, PyData.eqv, PyData.eqvAll]
  | cons r t => simp [rD, PyData.eqv, PyData.eqvAll]
end Td
set_option maxHeartbeats 4000000
namespace Td
open PySem PySem.Spec PyProof.Rows L2
/-! ### what rows keep -/
theorem stp_bk {rooms : List Str} {rows : List (List Str)} {s s' : Sta} {p : Deed} (hv : HallV rooms rows) (ht : StV rooms rows s.1 s.2) (h : stp rows s p = some s') : stp rows s' p = some s := by
  have ht' := stp_st hv ht h
  obtain ⟨i, j, a, b, f, hi, hf, hj, hab, hfab, ha, hb, rfl⟩ := stp_some hv ht h
  have il := (List.getElem?_eq_some_iff.mp hf).1
  have jl := (List.getElem?_eq_some_iff.mp hj).1
  have hf' : (s.1.set i (oth a b f))[i]? = some (oth a b f) := by rw [List.getElem?_set_self il]
  have hj' : (s.2.set j [p.1, oth a b f])[j]? = some [p.1, oth a b f] := by rw [List.getElem?_set_self jl]
  have e := stp_at (faces := s.1.set i (oth a b f)) ht'.pnd hv.dn hi hf' hj'
  show stp rows (s.1.set i (oth a b f), s.2.set j [p.1, oth a b f]) (p.1, p.2) = some s
  rw [e, if_pos rfl, oth_oth hab hfab, List.set_set, List.set_set]
  have g1 : s.1.set i f = s.1 := by
    refine List.ext_getElem? fun k => ?_
    rw [List.getElem?_set]
    by_cases z : i = k
    · subst z; rw [if_pos rfl, if_pos il, hf]
    · rw [if_neg z]
  have g2 : s.2.set j [p.1, f] = s.2 := by
    refine List.ext_getElem? fun k => ?_
    rw [List.getElem?_set]
    by_cases z : j = k
    · subst z; rw [if_pos rfl, if_pos jl, hj]
    · rw [if_neg z]
  rw [g1, g2]
theorem go_ind {rooms : List Str} {rows : List (List Str)} (hv : HallV rooms rows) {R : Sta → Sta → Prop} (h0 : ∀ s, R s s) (h1 : ∀ s s1 s' p, StV rooms rows s.1 s.2 → stp rows s p = some s1 → StV rooms rows s1.1 s1.2 → R s1 s' → R s s') : ∀ {l : List Deed} {s s' : Sta}, StV rooms rows s.1 s.2 → goM rows s l = some s' → R s s'
  | [], s, s', ht, h => by cases h; exact h0 _
  | p :: l, s, s', ht, h => by
    have h : (stp rows s p).bind (fun s1 => goM rows s1 l) = some s' := h
    cases z : stp rows s p with
    | none => rw [z] at h; cases h
    | some s1 =>
      rw [z] at h
      have ht1 := stp_st hv ht z
      exact h1 s s1 s' p ht z ht1 (go_ind hv h0 h1 ht1 h)
theorem coN_goM {rooms : List Str} {rows : List (List Str)} (hv : HallV rooms rows) {l : List Deed} {s s' : Sta} (ht : StV rooms rows s.1 s.2) (h : goM rows s l = some s') : coN rooms s'.1 s'.2 = coN rooms s.1 s.2 :=
  go_ind hv (R := fun s s' => coN rooms s'.1 s'.2 = coN rooms s.1 s.2) (fun _ => rfl) (fun s s1 s' p t z _ ih => ih.trans (coN_pass hv t z)) ht h
/-- the faces of still doors stay -/
theorem still_goM {rooms : List Str} {rows : List (List Str)} (hv : HallV rooms rows) {l : List Deed} {s s' : Sta} (ht : StV rooms rows s.1 s.2) (h : goM rows s l = some s') : ∀ (k : Nat) (n a b : Str), rows[k]? = some [n, a, b] → n ∈ stillL rooms rows s.1 s.2 → s'.1[k]? = s.1[k]? :=
  go_ind hv (R := fun s s' => ∀ (k : Nat) (n a b : Str), rows[k]? = some [n, a, b] → n ∈ stillL rooms rows s.1 s.2 → s'.1[k]? = s.1[k]?) (fun _ _ _ _ _ _ _ => rfl) (fun s s1 s' p t z t1 ih k n a b hk hn => by
    rw [ih k n a b hk (by rw [stillL_eq (bdL_stp hv t z)]; exact hn)]
    have hne := still_stp hv t z
    obtain ⟨i, j, a', b', f, hi, hf, hj, hab, hfab, ha, hb, rfl⟩ := stp_some hv t z
    have hki : k ≠ i := fun e => by
      subst e
      rw [hi] at hk
      cases hk
      exact hne hn
    show (s.1.set i (oth a' b' f))[k]? = s.1[k]?
    rw [List.getElem?_set_ne fun e => hki e.symm]) ht h
theorem names_goM {rooms : List Str} {rows : List (List Str)} (hv : HallV rooms rows) {l : List Deed} {s s' : Sta} (ht : StV rooms rows s.1 s.2) (h : goM rows s l = some s') : s'.2.map hd0 = s.2.map hd0 :=
  go_ind hv (R := fun s s' => s'.2.map hd0 = s.2.map hd0) (fun _ => rfl) (fun s s1 s' p t z _ ih => by
    rw [ih]
    obtain ⟨i, j, a', b', f, hi, hf, hj, hab, hfab, ha, hb, rfl⟩ := stp_some hv t z
    exact map_hd0_set hj) ht h
theorem goM_bk {rooms : List Str} {rows : List (List Str)} (hv : HallV rooms rows) : ∀ {l : List Deed} {s t : Sta}, StV rooms rows s.1 s.2 → goM rows s l = some t → goM rows t l.reverse = some s
  | [], s, t, ht, h => by cases h; rfl
  | p :: l, s, t, ht, h => by
    unfold goM at h
    rw [List.foldlM_cons] at h
    cases e : stp rows s p with
    | none => rw [e] at h; cases h
    | some u =>
      rw [e] at h
      have ih := goM_bk hv (stp_st hv ht e) h
      rw [List.reverse_cons, goM_snoc ih]
      exact stp_bk hv ht e
end Td
set_option maxHeartbeats 4000000
namespace Td
open PySem PySem.Spec PyProof.Rows L2
/-! ### doors turned, walkers put elsewhere -/
/-- the faces after some doors are turned -/
def trP (rows : List (List Str)) (faces : List Str) (P : Str → Bool) : List Str := (rows.zip faces).map fun x => if P (hd0 x.1) = true then oth (x.1.getD 1 "") (x.1.getD 2 "") x.2 else x.2
abbrev inP (p : List Str) : Str → Bool := fun n => decide (n ∈ p)
section
variable {rooms : List Str} {rows : List (List Str)} {faces : List Str} {places : List (List Str)}
theorem trP_at {P : Str → Bool} {i : Nat} {n a b f : Str} (hi : rows[i]? = some [n, a, b]) (hf : faces[i]? = some f) : (trP rows faces P)[i]? = some (if P n = true then oth a b f else f) := by
  unfold trP
  rw [List.getElem?_map, (List.getElem?_zip_eq_some (z := ([n, a, b], f))).mpr ⟨hi, hf⟩]
  rfl
theorem trP_len (fl : faces.length = rows.length) (P : Str → Bool) : (trP rows faces P).length = rows.length := by
  unfold trP
  rw [List.length_map, List.length_zip]
  omega
theorem faces_ext {f1 f2 : List Str} (hr : ∀ r ∈ rows, ∃ n a b : Str, r = [n, a, b]) (h1 : f1.length = rows.length) (h2 : f2.length = rows.length)
    (h : ∀ (i : Nat) (n a b f g : Str), rows[i]? = some [n, a, b] → f1[i]? = some f → f2[i]? = some g → f = g) : f1 = f2 := by
  refine List.ext_getElem? fun i => ?_
  by_cases hi : i < rows.length
  · have e1 : f1[i]? = some (f1[i]'(by omega)) := List.getElem?_eq_getElem (by omega)
    have e2 : f2[i]? = some (f2[i]'(by omega)) := List.getElem?_eq_getElem (by omega)
    have e3 : rows[i]? = some rows[i] := List.getElem?_eq_getElem hi
    obtain ⟨n, a, b, e⟩ := hr _ (List.mem_of_getElem? e3)
    rw [e] at e3
    rw [e1, e2, h i n a b _ _ e3 e1 e2]
  · rw [List.getElem?_eq_none (by omega), List.getElem?_eq_none (by omega)]
theorem rows3 (hv : HallV rooms rows) : ∀ r ∈ rows, ∃ n a b : Str, r = [n, a, b] := fun r hr => by
  obtain ⟨n, a, b, e, _⟩ := hv.row r hr
  exact ⟨n, a, b, e⟩
theorem row_ne (hv : HallV rooms rows) {i : Nat} {n a b : Str} (hi : rows[i]? = some [n, a, b]) : a ≠ b := by
  obtain ⟨n', a', b', e3, _, _, _, hab⟩ := hv.row _ (List.mem_of_getElem? hi)
  cases e3
  exact hab
/-- faces that a hall may have -/
structure FcV (rows : List (List Str)) (faces : List Str) : Prop where
  fl : faces.length = rows.length
  fc : ∀ (i : Nat) (n a b f : Str), rows[i]? = some [n, a, b] → faces[i]? = some f → f = a ∨ f = b
theorem StV.fcv (ht : StV rooms rows faces places) : FcV rows faces := ⟨ht.fl, fun i n a b f h1 h2 => by
  obtain ⟨n', a', b', e, h⟩ := ht.fc i f _ h2 h1
  cases e
  exact h⟩
theorem FcV.at_ (h : FcV rows faces) {i : Nat} {r : List Str} (hi : rows[i]? = some r) : ∃ f, faces[i]? = some f :=
  ⟨_, List.getElem?_eq_getElem (by rw [h.fl]; exact (List.getElem?_eq_some_iff.mp hi).1)⟩
theorem FcV.tr (h : FcV rows faces) (P : Str → Bool) : FcV rows (trP rows faces P) := ⟨trP_len h.fl P, fun i n a b f hi hf => by
  obtain ⟨g, hg⟩ := h.at_ hi
  rw [trP_at hi hg] at hf
  have hf := Option.some.inj hf
  have hg' := h.fc i n a b g hi hg
  rw [← hf]
  split
  · exact oth_mem
  · exact hg'⟩
theorem trP_trP (hv : HallV rooms rows) (h : FcV rows faces) (P R : Str → Bool) : trP rows (trP rows faces P) R = trP rows faces fun n => xor (P n) (R n) := by
  refine faces_ext (rows3 hv) ((h.tr P).tr R).fl (h.tr _).fl fun i n a b f g hi hf hg => ?_
  obtain ⟨x, hx⟩ := h.at_ hi
  rw [trP_at hi (trP_at hi hx)] at hf
  rw [trP_at hi hx] at hg
  rw [← Option.some.inj hf, ← Option.some.inj hg]
  cases P n <;> cases R n <;> try rfl
  exact oth_oth (row_ne hv hi) (h.fc i n a b x hi hx)
theorem trP_no (hv : HallV rooms rows) (h : FcV rows faces) {P : Str → Bool} (hp : ∀ n, P n = false) : trP rows faces P = faces := by
  refine faces_ext (rows3 hv) (h.tr P).fl h.fl fun i n a b f g hi hf hg => ?_
  rw [trP_at hi hg, hp n] at hf
  exact (Option.some.inj hf).symm
theorem trP_set (hv : HallV rooms rows) (h : FcV rows faces) {i : Nat} {n a b f : Str} (hi : rows[i]? = some [n, a, b]) (hf : faces[i]? = some f) : faces.set i (oth a b f) = trP rows faces (inP [n]) := by
  refine faces_ext (rows3 hv) (by rw [List.length_set]; exact h.fl) (h.tr _).fl fun k m c d x y hk hx hy => ?_
  obtain ⟨z, hz⟩ := h.at_ hk
  rw [trP_at hk hz] at hy
  have hy := Option.some.inj hy
  by_cases e : i = k
  · subst e
    rw [hi] at hk
    cases hk
    rw [hf] at hz
    cases hz
    rw [List.getElem?_set, if_pos rfl, if_pos (List.getElem?_eq_some_iff.mp hf).1] at hx
    rw [← hy, if_pos (by show decide (n ∈ [n]) = true; rw [decide_eq_true (List.mem_singleton.mpr rfl)])]
    exact (Option.some.inj hx).symm
  · rw [List.getElem?_set_ne e, hz] at hx
    have hm : m ≠ n := fun em => e (at_one (l := rows) hv.dn hi hk em.symm)
    rw [← hy, if_neg (by show ¬ decide (m ∈ [n]) = true; rw [decide_eq_false (fun z => hm (List.mem_singleton.mp z))]; decide)]
    exact (Option.some.inj hx).symm
/-! ### walks and turned doors -/
theorem outs_tr (hv : HallV rooms rows) {P : Str → Bool} {d z u : Str} (h : [d, z] ∈ outs rows faces u) (hd : P d = false) : [d, z] ∈ outs rows (trP rows faces P) u := by
  obtain ⟨i, l, a, b, e, hi, hf⟩ := outs_mem (rows3 hv) h
  cases e
  have g := trP_at (P := P) hi hf
  rw [hd] at g
  exact outs_of hi g
theorem outs_bk (hv : HallV rooms rows) (hf0 : FcV rows faces) {P : Str → Bool} {d z u : Str} (h : [d, z] ∈ outs rows faces u) (hd : P d = true) : [d, u] ∈ outs rows (trP rows faces P) z := by
  obtain ⟨i, l, a, b, e, hi, hf⟩ := outs_mem (rows3 hv) h
  cases e
  have g := trP_at (P := P) hi hf
  rw [hd, if_pos rfl] at g
  have := outs_of hi g
  rw [oth_oth (row_ne hv hi) (hf0.fc _ _ _ _ _ hi hf)] at this
  exact this
theorem wf_tr (hv : HallV rooms rows) {P : Str → Bool} {x : Str} : ∀ {p : List Str} {r : Str}, Wf (outs rows faces) r p x → (∀ d ∈ p, P d = false) → Wf (outs rows (trP rows faces P)) r p x
  | [], r, h, _ => h
  | d :: p, r, ⟨z, g, h⟩, hd => ⟨z, outs_tr hv g (hd d List.mem_cons_self), wf_tr hv h fun d' h' => hd d' (List.mem_cons_of_mem _ h')⟩
theorem wf_bk (hv : HallV rooms rows) (hf0 : FcV rows faces) {P : Str → Bool} {x : Str} : ∀ {p : List Str} {r : Str}, Wf (outs rows faces) r p x → (∀ d ∈ p, P d = true) → Wf (outs rows (trP rows faces P)) x p.reverse r
  | [], r, h, _ => (show r = x from h).symm
  | d :: p, r, ⟨z, g, h⟩, hd => by
    rw [List.reverse_cons]
    exact (wf_bk hv hf0 h fun d' h' => hd d' (List.mem_cons_of_mem _ h')).snoc (outs_bk hv hf0 g (hd d List.mem_cons_self))
/-! ### places by a function -/
def plc (ns : List Str) (ρ : Str → Str) : List (List Str) := ns.map fun n => [n, ρ n]
def put1 (ρ : Str → Str) (w x : Str) : Str → Str := fun n => if n = w then x else ρ n
def swp (ρ : Str → Str) (u v : Str) : Str → Str := fun n => if n = u then ρ v else if n = v then ρ u else ρ n
theorem plc_at {ns : List Str} {ρ : Str → Str} {j : Nat} {w : Str} (h : ns[j]? = some w) : (plc ns ρ)[j]? = some [w, ρ w] := by
  unfold plc
  rw [List.getElem?_map, h]
  rfl
theorem plc_heads (ns : List Str) (ρ : Str → Str) : (plc ns ρ).map hd0 = ns := by
  unfold plc
  rw [List.map_map]
  exact List.map_id ns
theorem plc_set {ns : List Str} (nd : ns.Nodup) {ρ : Str → Str} {j : Nat} {w x : Str} (h : ns[j]? = some w) : (plc ns ρ).set j [w, x] = plc ns (put1 ρ w x) := by
  refine List.ext_getElem? fun k => ?_
  rw [List.getElem?_set]
  unfold plc
  rw [List.getElem?_map, List.getElem?_map, List.length_map]
  by_cases e : j = k
  · subst e
    rw [if_pos rfl, if_pos (List.getElem?_eq_some_iff.mp h).1, h]
    show _ = some [w, put1 ρ w x w]
    rw [show put1 ρ w x w = x from if_pos rfl]
  · rw [if_neg e]
    cases hk : ns[k]? with
    | none => rfl
    | some m =>
      have ne : m ≠ w := fun z => by
        subst z
        exact e ((List.getElem?_inj (List.getElem?_eq_some_iff.mp h).1 nd).mp (h.trans hk.symm))
      show some [m, ρ m] = some [m, put1 ρ w x m]
      rw [show put1 ρ w x m = ρ m from if_neg ne]
theorem plc_of (ht : StV rooms rows faces places) : ∃ ρ, places = plc (places.map hd0) ρ := by
  refine ⟨fun n => ((places.find? fun p => decide (hd0 p = n)).getD []).getD 1 "", List.ext_getElem? fun k => ?_⟩
  unfold plc
  rw [List.map_map, List.getElem?_map]
  cases hk : places[k]? with
  | none => rfl
  | some p =>
    obtain ⟨w, r, rfl, _, _⟩ := ht.pl p (List.mem_of_getElem? hk)
    show some [w, r] = some [w, ((places.find? fun p => decide (hd0 p = w)).getD []).getD 1 ""]
    obtain ⟨q, hq⟩ : ∃ q, places.find? (fun p => decide (hd0 p = w)) = some q := by
      cases hc : places.find? (fun p => decide (hd0 p = w)) with
      | some q => exact ⟨q, rfl⟩
      | none => exact absurd (decide_eq_true (show hd0 [w, r] = w from rfl)) (List.find?_eq_none.mp hc _ (List.mem_of_getElem? hk))
    have h1 : hd0 q = w := by
      have z := List.find?_some hq
      exact of_decide_eq_true z
    obtain ⟨m, hm⟩ := List.mem_iff_getElem?.mp (List.mem_of_find?_eq_some hq)
    have e : m = k := at_one (l := places) ht.pnd hm hk h1
    rw [e, hk] at hm
    rw [hq, ← Option.some.inj hm]
    rfl
theorem plc_inj {ns : List Str} {ρ τ : Str → Str} (h : ∀ n ∈ ns, ρ n = τ n) : plc ns ρ = plc ns τ := List.map_congr_left fun n hn => by rw [h n hn]
/-! ### one walker through many doors -/
theorem go_walk (hv : HallV rooms rows) {ns : List Str} {w x : Str} (hw : w ∈ ns) : ∀ {p : List Str} {faces : List Str} {ρ : Str → Str}, StV rooms rows faces (plc ns ρ) → p.Nodup → Wf (outs rows faces) (ρ w) p x →
    goM rows (faces, plc ns ρ) (p.map fun d => (w, d)) = some (trP rows faces (inP p), plc ns (put1 ρ w x))
  | [], faces, ρ, ht, _, h => by
    have h : ρ w = x := h
    subst h
    rw [trP_no hv ht.fcv (fun n => decide_eq_false (fun z => nomatch z))]
    refine congrArg some (congrArg (Prod.mk faces) (plc_inj fun n _ => ?_))
    unfold put1
    split
    · rename_i e
      rw [e]
    · rfl
  | d :: p, faces, ρ, ht, nd, ⟨z, g, h⟩ => by
    obtain ⟨hd, nd⟩ := List.nodup_cons.mp nd
    have nn : ns.Nodup := by
      have := ht.pnd
      rw [plc_heads] at this
      exact this
    obtain ⟨i, l, a, b, e, hi, hf⟩ := outs_mem (rows3 hv) g
    cases e
    obtain ⟨j, hj⟩ := List.mem_iff_getElem?.mp hw
    have hs := stp_at (w := w) (x := d) ht.pnd hv.dn hi hf (plc_at hj)
    rw [if_pos rfl, trP_set hv ht.fcv hi hf, plc_set nn hj] at hs
    have ht2 := stp_st hv (s := (faces, plc ns ρ)) ht hs
    have hp : ∀ d' ∈ p, inP [d] d' = false := fun d' h' => decide_eq_false fun y => hd (List.mem_singleton.mp y ▸ h')
    have h2 : Wf (outs rows (trP rows faces (inP [d]))) (put1 ρ w (oth a b (ρ w)) w) p x := by
      rw [show put1 ρ w (oth a b (ρ w)) w = oth a b (ρ w) from if_pos rfl]
      exact wf_tr hv h hp
    have ih := go_walk hv hw ht2 nd h2
    rw [trP_trP hv ht.fcv] at ih
    show List.foldlM (stp rows) (faces, plc ns ρ) ((w, d) :: p.map fun d => (w, d)) = _
    rw [List.foldlM_cons, hs]
    refine Eq.trans ih (congrArg some ?_)
    refine congr (congrArg Prod.mk (congrArg (trP rows faces) (funext fun n => ?_))) (plc_inj fun n _ => ?_)
    · show xor (decide (n ∈ [d])) (decide (n ∈ p)) = decide (n ∈ d :: p)
      by_cases e : n = d
      · subst e
        rw [decide_eq_true (List.mem_singleton.mpr rfl), decide_eq_false hd, decide_eq_true List.mem_cons_self]
        rfl
      · rw [decide_eq_false (fun z => e (List.mem_singleton.mp z)), Bool.false_xor]
        exact decide_eq_decide.mpr ⟨fun z => List.mem_cons_of_mem _ z, fun z => (List.mem_cons.mp z).resolve_left e⟩
    · unfold put1
      split <;> rfl
theorem nd_rev {l : List Str} (h : l.Nodup) : l.reverse.Nodup := List.pairwise_reverse.mpr (h.imp fun z e => z e.symm)
theorem goM_ap {s t : Sta} {l m : List Deed} (h : goM rows s l = some t) : goM rows s (l ++ m) = goM rows t m := by
  unfold goM at h ⊢
  rw [List.foldlM_append, h]
  rfl
/-! ### two walkers who can meet change places -/
theorem swap_go (hv : HallV rooms rows) {ns : List Str} {ρ : Str → Str} {u v x : Str} (hu : u ∈ ns) (hw : v ∈ ns) (ne : u ≠ v) (ht : StV rooms rows faces (plc ns ρ)) {p q : List Str} (np : p.Nodup) (nq : q.Nodup) (dj : ∀ d ∈ p, d ∉ q)
    (hp : Wf (outs rows faces) (ρ u) p x) (hq : Wf (outs rows faces) (ρ v) q x) :
    goM rows (faces, plc ns ρ) ((p.map fun d => (u, d)) ++ (q.map fun d => (v, d)) ++ ((q.reverse.map fun d => (u, d)) ++ (p.reverse.map fun d => (v, d)))) = some (faces, plc ns (swp ρ u v)) := by
  have f0 := ht.fcv
  have dj' : ∀ d ∈ q, d ∉ p := fun d h1 h2 => dj d h2 h1
  have g1 := go_walk hv hu ht np hp
  have t1 := goM_st hv (s := (faces, plc ns ρ)) ht g1
  have q1 : Wf (outs rows (trP rows faces (inP p))) (put1 ρ u x v) q x := by
    rw [show put1 ρ u x v = ρ v from if_neg ne.symm]
    exact wf_tr hv hq fun d hd => decide_eq_false (dj' d hd)
  have g2 := go_walk hv hw t1 nq q1
  have t2 := goM_st hv (s := (trP rows faces (inP p), plc ns (put1 ρ u x))) t1 g2
  have q2 : Wf (outs rows (trP rows (trP rows faces (inP p)) (inP q))) (put1 (put1 ρ u x) v x u) q.reverse (ρ v) := by
    rw [show put1 (put1 ρ u x) v x u = x by unfold put1; rw [if_neg ne, if_pos rfl]]
    have := wf_bk hv (f0.tr (inP p)) (P := inP q) q1 fun d hd => decide_eq_true hd
    rw [show put1 ρ u x v = ρ v from if_neg ne.symm] at this
    exact this
  have g3 := go_walk hv hu t2 (nd_rev nq) q2
  have t3 := goM_st hv (s := (trP rows (trP rows faces (inP p)) (inP q), plc ns (put1 (put1 ρ u x) v x))) t2 g3
  have q3 : Wf (outs rows (trP rows (trP rows (trP rows faces (inP p)) (inP q)) (inP q.reverse))) (put1 (put1 (put1 ρ u x) v x) u (ρ v) v) p.reverse (ρ u) := by
    rw [show put1 (put1 (put1 ρ u x) v x) u (ρ v) v = x by unfold put1; rw [if_neg ne.symm, if_pos rfl]]
    have e : trP rows (trP rows (trP rows faces (inP p)) (inP q)) (inP q.reverse) = trP rows faces (inP p) := by
      rw [trP_trP hv (f0.tr _)]
      refine trP_no hv (f0.tr _) fun n => ?_
      show xor (decide (n ∈ q)) (decide (n ∈ q.reverse)) = false
      rw [decide_eq_decide.mpr (show n ∈ q.reverse ↔ n ∈ q from List.mem_reverse), Bool.xor_self]
    rw [e]
    exact wf_bk hv f0 hp fun d hd => decide_eq_true hd
  have g4 := go_walk hv hw t3 (nd_rev np) q3
  rw [goM_ap ((goM_ap g1).trans g2), goM_ap g3, g4]
  refine congrArg some (congr (congrArg Prod.mk ?_) (plc_inj fun n _ => ?_))
  · rw [trP_trP hv (f0.tr _), trP_trP hv (f0.tr _), trP_trP hv f0]
    refine trP_no hv f0 fun n => ?_
    show xor (decide (n ∈ p)) (xor (xor (decide (n ∈ q)) (decide (n ∈ q.reverse))) (decide (n ∈ p.reverse))) = false
    rw [decide_eq_decide.mpr (show n ∈ q.reverse ↔ n ∈ q from List.mem_reverse), decide_eq_decide.mpr (show n ∈ p.reverse ↔ n ∈ p from List.mem_reverse)]
    cases decide (n ∈ p) <;> cases decide (n ∈ q) <;> rfl
  · unfold put1 swp
    by_cases e1 : n = v
    · subst e1
      rw [if_pos rfl, if_neg ne.symm, if_pos rfl]
    · rw [if_neg e1]
      by_cases e2 : n = u
      · rw [if_pos e2, if_pos e2]
      · rw [if_neg e2, if_neg e1, if_neg e2, if_neg e2, if_neg e1]
/-! ### shortest ways -/
theorem wf_cut {step : Stp} {x : Str} : ∀ {p : List Str} {r : Str}, Wf step r p x → ∀ k, k ≤ p.length → ∃ y, Wk step r (p.take k) y ∧ Wf step y (p.drop k) x
  | p, r, h, 0, _ => ⟨r, by rw [List.take_zero]; exact .nil, h⟩
  | [], r, h, k + 1, hk => absurd hk (by simp)
  | d :: p, r, ⟨z, g, h⟩, k + 1, hk => by
    obtain ⟨y, h1, h2⟩ := wf_cut h k (by simpa using hk)
    refine ⟨y, ?_, h2⟩
    have := Wk.app (step := step) (s := r) ((Wk.nil).snoc g) h1.wf
    exact this
theorem door_room (hv : HallV rooms rows) {d z z' u u' : Str} (h : [d, z] ∈ outs rows faces u) (h' : [d, z'] ∈ outs rows faces u') : u = u' := by
  obtain ⟨i, l, a, b, e, hi, hf⟩ := outs_mem (rows3 hv) h
  obtain ⟨k, l', a', b', e', hk, hf'⟩ := outs_mem (rows3 hv) h'
  cases e
  cases e'
  have := at_one (l := rows) hv.dn hi hk rfl
  subst this
  rw [hf] at hf'
  exact Option.some.inj hf'
/-- the room before a door of a walk -/
theorem wf_door {step : Stp} {x r d : Str} {p : List Str} {k : Nat} (h : Wf step r p x) (hk : p[k]? = some d) : ∃ y z, Wk step r (p.take k) y ∧ Wf step y (p.drop k) x ∧ [d, z] ∈ step y ∧ Wf step z (p.drop (k + 1)) x := by
  have hl := (List.getElem?_eq_some_iff.mp hk).1
  obtain ⟨y, h1, h2⟩ := wf_cut h k (Nat.le_of_lt hl)
  have e : p.drop k = d :: p.drop (k + 1) := by
    obtain ⟨hl, e⟩ := List.getElem?_eq_some_iff.mp hk
    rw [List.drop_eq_getElem_cons hl, e]
  rw [e] at h2
  obtain ⟨z, g, h3⟩ := h2
  exact ⟨y, z, h1, by rw [e]; exact ⟨z, g, h3⟩, g, h3⟩
theorem spd_nd (hv : HallV rooms rows) {r x : Str} {p : List Str} {fd : List (Str × List Str)} (S : Spd (outs rows faces) r fd) (hp : (x, p) ∈ fd) : p.Nodup := by
  refine List.pairwise_iff_getElem.mpr fun i j hi hj lt e => ?_
  obtain ⟨y, z, a1, _, a3, _⟩ := wf_door (S.wk _ hp).wf (List.getElem?_eq_getElem hi)
  obtain ⟨y', z', b1, b2, b3, _⟩ := wf_door (S.wk _ hp).wf (List.getElem?_eq_getElem hj)
  rw [← e] at b3
  have ey := door_room hv a3 b3
  subst ey
  have := S.mn _ hp _ (a1.app b2)
  rw [List.length_append, List.length_take, List.length_drop] at this
  have this : p.length ≤ min i p.length + (p.length - j) := this
  omega
theorem spd_get {step : Stp} {r y : Str} {q : List Str} {fd : List (Str × List Str)} (S : Spd step r fd) (h : Wk step r q y) : ∃ p, (y, p) ∈ fd ∧ p.length ≤ q.length := by
  obtain ⟨e, he, rfl⟩ := List.mem_map.mp (S.all h)
  exact ⟨e.2, he, S.mn _ he _ h⟩
theorem spd_dj (hv : HallV rooms rows) {r s x : Str} {p q : List Str} {fd gd : List (Str × List Str)} (S : Spd (outs rows faces) r fd) (T : Spd (outs rows faces) s gd) (hp : (x, p) ∈ fd) (hq : (x, q) ∈ gd)
    (mn : ∀ y p' q', (y, p') ∈ fd → (y, q') ∈ gd → p.length + q.length ≤ p'.length + q'.length) : ∀ d ∈ p, d ∉ q := fun d h1 h2 => by
  obtain ⟨i, hi⟩ := List.mem_iff_getElem?.mp h1
  obtain ⟨j, hj⟩ := List.mem_iff_getElem?.mp h2
  obtain ⟨y, z, a1, _, a3, _⟩ := wf_door (S.wk _ hp).wf hi
  obtain ⟨y', z', b1, b2, b3, _⟩ := wf_door (T.wk _ hq).wf hj
  have ey := door_room hv a3 b3
  subst ey
  obtain ⟨p', c1, c2⟩ := spd_get S a1
  obtain ⟨q', d1, d2⟩ := spd_get T b1
  have := mn _ _ _ c1 d1
  rw [List.length_take] at c2 d2
  have li := (List.getElem?_eq_some_iff.mp hi).1
  have lj := (List.getElem?_eq_some_iff.mp hj).1
  omega
/-! ### along a chain of walkers -/
/-- one exchange after the other -/
def swF (ρ : Str → Str) (l : List (Str × Str)) : Str → Str := l.foldl (fun ρ e => swp ρ e.1 e.2) ρ
def SwOk (M : Str → Str → Prop) : (Str → Str) → List (Str × Str) → Prop
  | _, [] => True
  | ρ, e :: l => (e.1 ≠ e.2 ∧ M (ρ e.1) (ρ e.2)) ∧ SwOk M (swp ρ e.1 e.2) l
theorem SwOk.app {M : Str → Str → Prop} : ∀ {l m : List (Str × Str)} {ρ : Str → Str}, SwOk M ρ l → SwOk M (swF ρ l) m → SwOk M ρ (l ++ m)
  | [], m, ρ, _, h => h
  | e :: l, m, ρ, ⟨h1, h2⟩, h => ⟨h1, h2.app h⟩
theorem SwOk.at_ {M : Str → Str → Prop} : ∀ {l : List (Str × Str)} {ρ : Str → Str}, SwOk M ρ l → ∀ (k : Nat) (e : Str × Str), l[k]? = some e → e.1 ≠ e.2 ∧ M (swF ρ (l.take k) e.1) (swF ρ (l.take k) e.2)
  | [], ρ, _, k, e, h => nomatch h
  | e :: l, ρ, ⟨h1, _⟩, 0, e', h => by
    cases h
    exact h1
  | e :: l, ρ, ⟨_, h2⟩, k + 1, e', h => h2.at_ k e' h
theorem swF_snoc {ρ : Str → Str} {l : List (Str × Str)} {k : Nat} {e : Str × Str} (h : l[k]? = some e) : swF ρ (l.take (k + 1)) = swp (swF ρ (l.take k)) e.1 e.2 := by
  unfold swF
  rw [List.take_succ, h, List.foldl_append]
  rfl
/-- the pairs of exchange_row -/
def exPr (one : Str) (c : List Str) (other : Str) : List (Str × Str) := ((c ++ [other]).map fun x => (one, x)) ++ (c.reverse.map fun x => (other, x))
def ChM (M : Str → Str → Prop) (ρ : Str → Str) : Str → List Str → Prop
  | _, [] => True
  | x, y :: l => M (ρ x) (ρ y) ∧ ChM M ρ y l
theorem ChM.congr {M : Str → Str → Prop} {ρ τ : Str → Str} : ∀ {l : List Str} {x y : Str}, ChM M ρ x l → τ y = ρ x → (∀ z ∈ l, τ z = ρ z) → ChM M τ y l
  | [], _, _, _, _, _ => trivial
  | z :: l, x, y, ⟨h1, h2⟩, e, h => ⟨by rw [e, h z List.mem_cons_self]; exact h1, h2.congr (h z List.mem_cons_self) fun z' hz => h z' (List.mem_cons_of_mem _ hz)⟩
theorem ex_chain {M : Str → Str → Prop} (sy : ∀ a b, M a b → M b a) {one other : Str} : ∀ {c : List Str} {ρ : Str → Str}, (one :: (c ++ [other])).Nodup → ChM M ρ one (c ++ [other]) →
    SwOk M ρ (exPr one c other) ∧ swF ρ (exPr one c other) = swp ρ one other
  | [], ρ, nd, ⟨h, _⟩ => by
    have ne : one ≠ other := fun e => (List.nodup_cons.mp nd).1 (by rw [e]; exact List.mem_cons_self)
    exact ⟨⟨⟨ne, h⟩, trivial⟩, rfl⟩
  | d :: c, ρ, nd, ⟨h1, h2⟩ => by
    obtain ⟨n1, n2⟩ := List.nodup_cons.mp nd
    obtain ⟨n3, n4⟩ := List.nodup_cons.mp (show (d :: (c ++ [other])).Nodup from n2)
    have nod : one ≠ d := fun e => n1 (by rw [e]; exact List.mem_cons_self)
    have noo : one ≠ other := fun e => n1 (List.mem_cons_of_mem _ (List.mem_append.mpr (.inr (List.mem_singleton.mpr e))))
    have ndo : d ≠ other := fun e => n3 (List.mem_append.mpr (.inr (List.mem_singleton.mpr e)))
    have n1' : one ∉ c ++ [other] := fun z => n1 (List.mem_cons_of_mem _ z)
    have s1 : swp ρ one d one = ρ d := if_pos rfl
    have h3 : ChM M (swp ρ one d) one (c ++ [other]) := h2.congr s1 fun z hz => by
      unfold swp
      rw [if_neg (fun e : z = one => n1' (e ▸ hz)), if_neg (fun e : z = d => n3 (e ▸ hz))]
    obtain ⟨i1, i2⟩ := ex_chain sy (List.nodup_cons.mpr ⟨n1', n4⟩) h3
    have e : exPr one (d :: c) other = (one, d) :: (exPr one c other ++ [(other, d)]) := by
      unfold exPr
      simp [List.append_assoc]
    rw [e]
    have v1 : swp (swp ρ one d) one other other = ρ d := by
      unfold swp
      rw [if_neg noo.symm, if_pos rfl, if_pos rfl]
    have v2 : swp (swp ρ one d) one other d = ρ one := by
      unfold swp
      rw [if_neg nod.symm, if_neg ndo, if_neg nod.symm, if_pos rfl]
    refine ⟨⟨⟨nod, h1⟩, i1.app ?_⟩, ?_⟩
    · rw [i2]
      exact ⟨⟨ndo.symm, by show M (swp (swp ρ one d) one other other) (swp (swp ρ one d) one other d); rw [v1, v2]; exact sy _ _ h1⟩, trivial⟩
    · show List.foldl (fun ρ e => swp ρ e.1 e.2) (swp ρ one d) (exPr one c other ++ [(other, d)]) = _
      rw [List.foldl_append, show List.foldl (fun ρ e => swp ρ e.1 e.2) (swp ρ one d) (exPr one c other) = swp (swp ρ one d) one other from i2]
      show swp (swp (swp ρ one d) one other) other d = swp ρ one other
      funext n
      show (if n = other then swp (swp ρ one d) one other d else if n = d then swp (swp ρ one d) one other other else swp (swp ρ one d) one other n) = _
      rw [v1, v2]
      unfold swp
      by_cases e1 : n = other
      · subst e1
        rw [if_pos rfl, if_neg noo.symm, if_pos rfl]
      · rw [if_neg e1]
        by_cases e2 : n = d
        · subst e2
          rw [if_pos rfl, if_neg nod.symm, if_neg e1]
        · rw [if_neg e2]
          by_cases e3 : n = one
          · subst e3
            rw [if_pos rfl, if_pos rfl, if_neg noo.symm, if_neg ndo.symm]
          · rw [if_neg e3, if_neg e1, if_neg e3, if_neg e2, if_neg e3, if_neg e1]
end
end Td
set_option maxHeartbeats 4000000
namespace Td
open PySem PySem.Spec PyProof.Rows L2
section
variable {rooms : List Str} {rows : List (List Str)} {faces : List Str} {places : List (List Str)}
/-! ### chains of walkers -/
/-- two rooms from which one room is reached -/
def MtR (rooms : List Str) (rows : List (List Str)) (faces : List Str) (r s : Str) : Prop := ∃ x, x ∈ rch rooms rows faces r ∧ x ∈ rch rooms rows faces s
theorem MtR.symm {r s : Str} : MtR rooms rows faces r s → MtR rooms rows faces s r := fun ⟨x, h1, h2⟩ => ⟨x, h2, h1⟩
theorem lk_plc {ns : List Str} {ρ : Str → Str} (ht : StV rooms rows faces (plc ns ρ)) {w : Str} (h : w ∈ ns) : lk (rsOf rooms rows faces (plc ns ρ)) w = rch rooms rows faces (ρ w) := by
  obtain ⟨j, hj⟩ := List.mem_iff_getElem?.mp h
  exact lk_rsOf ht (plc_at hj)
theorem ks_plc {ns : List Str} {ρ : Str → Str} : ks (rsOf rooms rows faces (plc ns ρ)) = ns := by rw [rsOf_ks, plc_heads]
theorem nbr_of {ns : List Str} {ρ : Str → Str} (ht : StV rooms rows faces (plc ns ρ)) {d z y : Str} (hy : y ∈ ns) (h : [d, z] ∈ nbr (rsOf rooms rows faces (plc ns ρ)) y) : z = d ∧ d ∈ ns ∧ MtR rooms rows faces (ρ y) (ρ d) := by
  obtain ⟨e, he, e2, x, hx1, hx2⟩ := nbr_mem.mp h
  cases e2
  have hk := ks_mem he
  rw [ks_plc] at hk
  have e3 := lk_of (rsOf_nd ht) he
  rw [lk_plc ht hk] at e3
  rw [lk_plc ht hy] at hx2
  exact ⟨rfl, hk, x, hx2, e3 ▸ hx1⟩
theorem ch_walk {ns : List Str} {ρ : Str → Str} (ht : StV rooms rows faces (plc ns ρ)) {x : Str} : ∀ {p : List Str} {y : Str}, y ∈ ns → Wf (nbr (rsOf rooms rows faces (plc ns ρ))) y p x →
    ChM (MtR rooms rows faces) ρ y p ∧ (∀ w ∈ p, w ∈ ns) ∧ (p = [] ∧ y = x ∨ ∃ c, p = c ++ [x])
  | [], y, _, h => ⟨trivial, (fun w hw => nomatch hw), .inl ⟨rfl, h⟩⟩
  | d :: p, y, hy, ⟨z, g, h⟩ => by
    obtain ⟨rfl, hd, hm⟩ := nbr_of ht hy g
    obtain ⟨i1, i2, i3⟩ := ch_walk ht hd h
    refine ⟨⟨hm, i1⟩, fun w hw => (List.mem_cons.mp hw).elim (fun e => e ▸ hd) (i2 w), .inr ?_⟩
    rcases i3 with ⟨rfl, rfl⟩ | ⟨c, rfl⟩
    · exact ⟨[], rfl⟩
    · exact ⟨_ :: c, rfl⟩
theorem chain_of {ns : List Str} {ρ : Str → Str} (ht : StV rooms rows faces (plc ns ρ)) {one other : Str} {ch : List Str} {fd : List (Str × List Str)} (ho : one ∈ ns) (ne : one ≠ other) (S : Spd (nbr (rsOf rooms rows faces (plc ns ρ))) one fd) (hp : (other, ch) ∈ fd) :
    ∃ c, ch = c ++ [other] ∧ (one :: ch).Nodup ∧ ChM (MtR rooms rows faces) ρ one ch ∧ ∀ w ∈ ch, w ∈ ns := by
  have hW := (S.wk _ hp).wf
  obtain ⟨h1, h2, h3⟩ := ch_walk ht ho hW
  have step : ∀ {k : Nat} {d : Str}, ch[k]? = some d → Wk (nbr (rsOf rooms rows faces (plc ns ρ))) one (ch.take (k + 1)) d ∧ Wf (nbr (rsOf rooms rows faces (plc ns ρ))) d (ch.drop (k + 1)) other := fun {k d} hk => by
    obtain ⟨y, z, a1, _, a3, a4⟩ := wf_door hW hk
    have hz : z = d := by
      obtain ⟨e, _, e2, _⟩ := nbr_mem.mp a3
      cases e2
      rfl
    subst hz
    refine ⟨?_, a4⟩
    rw [List.take_succ, hk]
    exact a1.snoc a3
  refine ⟨_, (h3.resolve_left fun z => ne z.2).choose_spec, List.nodup_cons.mpr ⟨fun hm => ?_, List.pairwise_iff_getElem.mpr fun i j hi hj lt e => ?_⟩, h1, h2⟩
  · obtain ⟨k, hk⟩ := List.mem_iff_getElem?.mp hm
    have := S.mn _ hp _ (Wk.app (q := []) .nil (step hk).2)
    have hl := (List.getElem?_eq_some_iff.mp hk).1
    rw [List.nil_append, List.length_drop] at this
    have this : ch.length ≤ ch.length - (k + 1) := this
    omega
  · have e1 := (step (List.getElem?_eq_getElem hi)).1
    have e2 := (step (List.getElem?_eq_getElem hj)).2
    rw [← e] at e2
    have := S.mn _ hp _ (e1.app e2)
    rw [List.length_append, List.length_take, List.length_drop] at this
    have this : ch.length ≤ min (i + 1) ch.length + (ch.length - (j + 1)) := this
    omega
/-! ### what must agree -/
structure Cln (rooms : List Str) (rows : List (List Str)) (s t : Sta) : Prop where
  co : coN rooms s.1 s.2 = coN rooms t.1 t.2
  pl : ∀ e ∈ bdL rooms rows s.1 s.2, ∀ w ∈ e.1, ∀ r, [w, r] ∈ t.2 → r ∈ e.2
  st : ∀ (k : Nat) (n a b : Str), rows[k]? = some [n, a, b] → n ∈ stillL rooms rows s.1 s.2 → s.1[k]? = t.1[k]?
  ns : s.2.map hd0 = t.2.map hd0
theorem Cln.go (hv : HallV rooms rows) {s s' t : Sta} {l : List Deed} (c : Cln rooms rows s t) (ht : StV rooms rows s.1 s.2) (h : goM rows s l = some s') : Cln rooms rows s' t := by
  have eb := bdL_goM hv ht h
  refine ⟨(coN_goM hv ht h).trans c.co, fun e he => c.pl e (eb ▸ he), fun k n a b hk hn => ?_, (names_goM hv ht h).trans c.ns⟩
  rw [stillL_eq eb] at hn
  rw [still_goM hv ht h k n a b hk hn]
  exact c.st k n a b hk hn
theorem Cln.of_go (hv : HallV rooms rows) {s t : Sta} {l : List Deed} (ht : StV rooms rows s.1 s.2) (h : goM rows s l = some t) : Cln rooms rows s t := by
  have ht' := goM_st hv ht h
  have eb := bdL_goM hv ht h
  refine ⟨(coN_goM hv ht h).symm, fun e he w hw r hr => ?_, fun k n a b hk hn => (still_goM hv ht h k n a b hk hn).symm, (names_goM hv ht h).symm⟩
  obtain ⟨k, hk⟩ := List.mem_iff_getElem?.mp hr
  have hrr : r ∈ rooms := by
    obtain ⟨w', r', e', _, h'⟩ := ht'.pl _ hr
    cases e'
    exact h'
  exact own_ground ht' hk (rch_mem.mpr ⟨hrr, Rch.refl _ _⟩) e (eb ▸ he) hw
/-! ### wrong doors -/
def wrg (rows : List (List Str)) (faces tf : List Str) : List Str := ((rows.zip (faces.zip tf)).filter fun x => decide (x.2.1 ≠ x.2.2)).map fun x => hd0 x.1
theorem wrg_mem (hr : ∀ r ∈ rows, ∃ n a b : Str, r = [n, a, b]) {faces tf : List Str} {d : Str} : d ∈ wrg rows faces tf ↔ ∃ (i : Nat) (a b f g : Str), rows[i]? = some [d, a, b] ∧ faces[i]? = some f ∧ tf[i]? = some g ∧ f ≠ g := by
  unfold wrg
  rw [List.mem_map]
  constructor
  · rintro ⟨⟨row, f, g⟩, hx, rfl⟩
    obtain ⟨h1, h2⟩ := List.mem_filter.mp hx
    obtain ⟨i, hi⟩ := List.mem_iff_getElem?.mp h1
    obtain ⟨h3, h4⟩ := List.getElem?_zip_eq_some.mp hi
    obtain ⟨h5, h6⟩ := List.getElem?_zip_eq_some.mp h4
    obtain ⟨n, a, b, e⟩ := hr row (List.mem_of_getElem? h3)
    have e : row = [n, a, b] := e
    subst e
    exact ⟨i, a, b, f, g, h3, h5, h6, of_decide_eq_true h2⟩
  · rintro ⟨i, a, b, f, g, h1, h2, h3, h4⟩
    exact ⟨([d, a, b], f, g), List.mem_filter.mpr ⟨List.mem_of_getElem? (i := i) (List.getElem?_zip_eq_some.mpr ⟨h1, List.getElem?_zip_eq_some.mpr ⟨h2, h3⟩⟩), decide_eq_true h4⟩, rfl⟩
theorem wrg_nd (hv : HallV rooms rows) {faces tf : List Str} (h1 : faces.length = rows.length) (h2 : tf.length = rows.length) : (wrg rows faces tf).Nodup := by
  have e : (rows.zip (faces.zip tf)).map (fun x => hd0 x.1) = rows.map hd0 := by
    rw [show (fun x : List Str × Str × Str => hd0 x.1) = hd0 ∘ Prod.fst from rfl, ← List.map_map, List.map_fst_zip (by rw [List.length_zip]; omega)]
  have : (wrg rows faces tf).Sublist (rows.map hd0) := by
    rw [← e]
    exact List.filter_sublist.map _
  exact this.nodup hv.dn
theorem wrg_nil {faces tf : List Str} (hr : ∀ r ∈ rows, ∃ n a b : Str, r = [n, a, b]) (h1 : faces.length = rows.length) (h2 : tf.length = rows.length) (h : wrg rows faces tf = []) : faces = tf := by
  refine faces_ext hr h1 h2 fun i n a b f g hi hf hg => Classical.byContradiction fun ne => ?_
  have := (wrg_mem (d := n) hr).mpr ⟨i, a, b, f, g, hi, hf, hg, ne⟩
  rw [h] at this
  cases this
/-- the face of a door -/
def fo (rows : List (List Str)) (faces : List Str) (d : Str) : Str := faces.getD ((fIx rows d).getD 0) ""
theorem fo_at (hv : HallV rooms rows) {i : Nat} {d a b f : Str} (hi : rows[i]? = some [d, a, b]) (hf : faces[i]? = some f) : fo rows faces d = f := by
  unfold fo
  rw [fIx_some hv.dn hi (show hd0 [d, a, b] = d from rfl)]
  show faces.getD i "" = f
  rw [List.getD_eq_getElem?_getD, hf]
  rfl
theorem other_end {a b f g : Str} (h1 : f = a ∨ f = b) (h2 : g = a ∨ g = b) (ne : f ≠ g) : g = oth a b f := by
  unfold oth
  rcases h1 with rfl | rfl
  · rw [if_pos rfl]
    exact h2.resolve_left fun e => ne e.symm
  · by_cases e : f = a
    · rw [if_pos e]
      exact absurd (h2.elim (fun h => e.trans h.symm) fun h => h.symm) ne
    · rw [if_neg e]
      exact h2.resolve_right fun e => ne e.symm
/-- a step through a wrong door -/
theorem wrg_step (hv : HallV rooms rows) {tf : List Str} (h1 : FcV rows faces) (h2 : FcV rows tf) {d u z : Str} (hd : d ∈ wrg rows faces tf) (g : [d, z] ∈ outs rows faces u) : fo rows faces d = u ∧ fo rows tf d = z := by
  obtain ⟨i, l, a, b, e, hi, hf⟩ := outs_mem (rows3 hv) g
  cases e
  obtain ⟨k, a', b', f, g', hk, hkf, hkg, ne⟩ := (wrg_mem (rows3 hv)).mp hd
  have e := at_one (l := rows) hv.dn hk hi rfl
  subst e
  rw [hi] at hk
  cases hk
  rw [hf] at hkf
  cases hkf
  refine ⟨fo_at hv hi hf, (fo_at hv hi hkg).trans ?_⟩
  exact other_end (h1.fc _ _ _ _ _ hi hf) (h2.fc _ _ _ _ _ hi hkg) ne
theorem wrg_out (hv : HallV rooms rows) {tf : List Str} (h1 : FcV rows faces) {d : Str} (hd : d ∈ wrg rows faces tf) : ∃ z, [d, z] ∈ outs rows faces (fo rows faces d) := by
  obtain ⟨k, a', b', f, g', hk, hkf, hkg, ne⟩ := (wrg_mem (rows3 hv)).mp hd
  rw [fo_at hv hk hkf]
  exact ⟨_, outs_of hk hkf⟩
/-! ### counting -/
theorem cnt_wr (r : Str) : ∀ {f t : List Str}, f.length = t.length → f.count r + (((f.zip t).filter fun p => decide (p.1 ≠ p.2)).map (·.2)).count r = t.count r + (((f.zip t).filter fun p => decide (p.1 ≠ p.2)).map (·.1)).count r
  | [], [], _ => rfl
  | [], _ :: _, h => nomatch h
  | _ :: _, [], h => nomatch h
  | x :: f, y :: t, h => by
    have ih := cnt_wr r (f := f) (t := t) (by simpa using h)
    rw [List.zip_cons_cons]
    by_cases e : x = y
    · subst e
      rw [List.filter_cons_of_neg (by simp), List.count_cons, List.count_cons]
      omega
    · rw [List.filter_cons_of_pos (by simpa using e), List.map_cons, List.map_cons, List.count_cons, List.count_cons, List.count_cons, List.count_cons]
      dsimp only
      omega
theorem zip_fst_snd {α β : Type} (q : β → Bool) : ∀ {l : List α} {m : List β}, l.length = m.length → ((l.zip m).filter fun x => q x.2).map (·.2) = m.filter q
  | [], [], _ => rfl
  | [], _ :: _, h => nomatch h
  | _ :: _, [], h => nomatch h
  | x :: l, y :: m, h => by
    have ih := zip_fst_snd q (l := l) (m := m) (by simpa using h)
    rw [List.zip_cons_cons]
    cases hq : q y with
    | true =>
      rw [List.filter_cons_of_pos (p := fun x : α × β => q x.2) (a := (x, y)) hq, List.filter_cons_of_pos hq, List.map_cons, ih]
    | false =>
      rw [List.filter_cons_of_neg (p := fun x : α × β => q x.2) (a := (x, y)) (by show ¬ q y = true; rw [hq]; decide), List.filter_cons_of_neg (by rw [hq]; decide), ih]
theorem sum_one {x : Str} : ∀ {L : List Str}, L.Nodup → (L.map fun r => if x = r then 1 else 0).sum = if x ∈ L then 1 else 0
  | [], _ => rfl
  | y :: L, nd => by
    obtain ⟨n1, n2⟩ := List.nodup_cons.mp nd
    rw [List.map_cons, List.sum_cons, sum_one n2]
    by_cases e : x = y
    · subst e
      rw [if_pos rfl, if_neg n1, if_pos List.mem_cons_self]
    · rw [if_neg e, Nat.zero_add]
      by_cases e2 : x ∈ L
      · rw [if_pos e2, if_pos (List.mem_cons_of_mem _ e2)]
      · rw [if_neg e2, if_neg (fun z => (List.mem_cons.mp z).elim e e2)]
theorem sum_add2 {L : List Str} {f g : Str → Nat} : (L.map fun r => f r + g r).sum = (L.map f).sum + (L.map g).sum := by
  induction L with
  | nil => rfl
  | cons x L ih =>
    rw [List.map_cons, List.map_cons, List.map_cons, List.sum_cons, List.sum_cons, List.sum_cons, ih]
    omega
theorem sum_zero : ∀ L : List Str, (L.map fun r => ([] : List Str).count r).sum = 0
  | [] => rfl
  | x :: L => by
    rw [List.map_cons, List.sum_cons, sum_zero L]
    rfl
theorem sum_cnt {L : List Str} (nd : L.Nodup) : ∀ {l : List Str}, (∀ x ∈ l, x ∈ L) → (L.map fun r => l.count r).sum = l.length
  | [], _ => sum_zero L
  | x :: l, h => by
    have e : (fun r => (x :: l).count r) = fun r => l.count r + if x = r then 1 else 0 := funext fun r => by
      rw [List.count_cons]
      by_cases z : x = r
      · subst z
        rw [if_pos rfl, if_pos (beq_self_eq_true x)]
      · rw [if_neg z, if_neg (fun y => z (eq_of_beq y))]
    rw [e, sum_add2, sum_cnt nd (fun y hy => h y (List.mem_cons_of_mem _ hy)), sum_one nd, if_pos (h x List.mem_cons_self)]
    rfl
theorem sum_le_eq : ∀ {L : List Str} {f g : Str → Nat}, (∀ r ∈ L, f r ≤ g r) → (L.map f).sum ≤ (L.map g).sum ∧ ((L.map f).sum = (L.map g).sum → ∀ r ∈ L, f r = g r)
  | [], f, g, _ => ⟨Nat.le_refl _, fun _ r hr => nomatch hr⟩
  | x :: L, f, g, h => by
    obtain ⟨i1, i2⟩ := sum_le_eq (L := L) fun r hr => h r (List.mem_cons_of_mem _ hr)
    have h0 := h x List.mem_cons_self
    rw [List.map_cons, List.map_cons, List.sum_cons, List.sum_cons]
    refine ⟨by omega, fun e r hr => ?_⟩
    rcases List.mem_cons.mp hr with rfl | hr
    · omega
    · exact i2 (by omega) r hr
theorem cnt_map (g : Str → Str) (l : List Str) (r : Str) : (l.map g).count r = (l.filter fun d => decide (g d = r)).length := by
  induction l with
  | nil => rfl
  | cons x l ih =>
    rw [List.map_cons, List.count_cons, ih]
    by_cases e : g x = r
    · rw [if_pos (by rw [e]; exact beq_self_eq_true r), List.filter_cons_of_pos (by exact decide_eq_true e)]
      rfl
    · rw [if_neg (fun y => e (eq_of_beq y)), List.filter_cons_of_neg (by simpa using e)]
      rfl
theorem cnt_sub {g : Str → Str} {l m : List Str} {r : Str} (nd : l.Nodup) (h : ∀ d ∈ l, g d = r → d ∈ m) : (l.map g).count r ≤ (m.map g).count r := by
  rw [cnt_map, cnt_map]
  refine nodup_sub (nd.filter _) fun d hd => ?_
  obtain ⟨h1, h2⟩ := List.mem_filter.mp hd
  exact List.mem_filter.mpr ⟨h d h1 (of_decide_eq_true h2), h2⟩
theorem wrg_fo (hv : HallV rooms rows) {tf : List Str} (h1 : faces.length = rows.length) (h2 : tf.length = rows.length) :
    (wrg rows faces tf).map (fo rows faces) = ((faces.zip tf).filter fun p => decide (p.1 ≠ p.2)).map (·.1) ∧ (wrg rows faces tf).map (fo rows tf) = ((faces.zip tf).filter fun p => decide (p.1 ≠ p.2)).map (·.2) := by
  have e := zip_fst_snd (fun p : Str × Str => decide (p.1 ≠ p.2)) (l := rows) (m := faces.zip tf) (by rw [List.length_zip]; omega)
  have z : ∀ x ∈ (rows.zip (faces.zip tf)).filter (fun x => decide (x.2.1 ≠ x.2.2)), fo rows faces (hd0 x.1) = x.2.1 ∧ fo rows tf (hd0 x.1) = x.2.2 := fun x hx => by
    obtain ⟨row, f, g⟩ := x
    obtain ⟨i, hi⟩ := List.mem_iff_getElem?.mp (List.mem_filter.mp hx).1
    obtain ⟨h3, h4⟩ := List.getElem?_zip_eq_some.mp hi
    obtain ⟨h5, h6⟩ := List.getElem?_zip_eq_some.mp h4
    obtain ⟨n, a, b, e⟩ := rows3 hv row (List.mem_of_getElem? h3)
    have e : row = [n, a, b] := e
    subst e
    exact ⟨fo_at hv h3 h5, fo_at hv h3 h6⟩
  rw [← e]
  unfold wrg
  rw [List.map_map, List.map_map, List.map_map, List.map_map]
  exact ⟨List.map_congr_left fun x hx => (z x hx).1, List.map_congr_left fun x hx => (z x hx).2⟩
/-- what goes out of a room and what comes in, on a tour through wrong doors -/
theorem flow (hv : HallV rooms rows) {tf : List Str} (h1 : FcV rows faces) (h2 : FcV rows tf) {z : Str} (r : Str) : ∀ {p : List Str} {x : Str}, Wf (outs rows faces) x p z → (∀ d ∈ p, d ∈ wrg rows faces tf) →
    (p.map (fo rows faces)).count r + (if z = r then 1 else 0) = (p.map (fo rows tf)).count r + (if x = r then 1 else 0)
  | [], x, h, _ => by
    have h : x = z := h
    rw [h]
    rfl
  | d :: p, x, ⟨y, g, h⟩, hp => by
    have ih := flow hv h1 h2 r h fun d' h' => hp d' (List.mem_cons_of_mem _ h')
    obtain ⟨e1, e2⟩ := wrg_step hv h1 h2 (hp d List.mem_cons_self) g
    rw [List.map_cons, List.map_cons, e1, e2, List.count_cons, List.count_cons]
    have b1 : (if (x == r) = true then 1 else 0) = if x = r then 1 else 0 := by
      by_cases z : x = r
      · rw [if_pos z, if_pos (beq_iff_eq.mpr z)]
      · rw [if_neg z, if_neg (fun y => z (eq_of_beq y))]
    have b2 : (if (y == r) = true then 1 else 0) = if y = r then 1 else 0 := by
      by_cases z : y = r
      · rw [if_pos z, if_pos (beq_iff_eq.mpr z)]
      · rw [if_neg z, if_neg (fun y => z (eq_of_beq y))]
    rw [b1, b2]
    omega
/-- a tour through wrong doors, as far as it goes -/
structure TourR (rows : List (List Str)) (faces wr : List Str) (x : Str) (p : List Str) (z : Str) : Prop where
  nd : p.Nodup
  sub : ∀ d ∈ p, d ∈ wr
  wf : Wf (outs rows faces) x p z
  fin : ∀ d y, [d, y] ∈ outs rows faces z → d ∈ wr → d ∈ p
theorem coN_at {f1 f2 : List Str} {p1 p2 : List (List Str)} (h : coN rooms f1 p1 = coN rooms f2 p2) {r : Str} (hr : r ∈ rooms) : ((f1.count r : Nat) : Int) - (((p1.map rm).count r : Nat) : Int) = ((f2.count r : Nat) : Int) - (((p2.map rm).count r : Nat) : Int) := by
  unfold coN at h
  exact List.map_inj_left.mp h r hr
theorem outs_room (hv : HallV rooms rows) {d z u : Str} (g : [d, z] ∈ outs rows faces u) : z ∈ rooms := by
  obtain ⟨i, l, a, b, e, hi, hf⟩ := outs_mem (rows3 hv) g
  cases e
  obtain ⟨n', a', b', e3, _, ha, hb, _⟩ := hv.row _ (List.mem_of_getElem? hi)
  cases e3
  exact oth_in ha hb
theorem wf_room (hv : HallV rooms rows) {z : Str} : ∀ {p : List Str} {x : Str}, x ∈ rooms → Wf (outs rows faces) x p z → z ∈ rooms
  | [], x, hx, h => (show x = z from h) ▸ hx
  | d :: p, x, _, ⟨y, g, h⟩ => wf_room hv (outs_room hv g) h
theorem fo_room (hv : HallV rooms rows) {tf : List Str} (h1 : FcV rows faces) (h2 : FcV rows tf) {d : Str} (hd : d ∈ wrg rows faces tf) : fo rows faces d ∈ rooms ∧ fo rows tf d ∈ rooms := by
  obtain ⟨k, a, b, f, g, hk, hkf, hkg, ne⟩ := (wrg_mem (rows3 hv)).mp hd
  obtain ⟨n', a', b', e3, _, ha, hb, _⟩ := hv.row _ (List.mem_of_getElem? hk)
  cases e3
  rw [fo_at hv hk hkf, fo_at hv hk hkg]
  have x := h1.fc _ _ _ _ _ hk hkf
  have y := h2.fc _ _ _ _ _ hk hkg
  exact ⟨by rcases x with rfl | rfl <;> assumption, by rcases y with rfl | rfl <;> assumption⟩
/-- where no walker stands before a wrong door, the tour comes back -/
theorem tour_closed (hv : HallV rooms rows) {tf : List Str} {tp : List (List Str)} (h1 : FcV rows faces) (h2 : FcV rows tf) (co : coN rooms faces places = coN rooms tf tp) {x z : Str} {p : List Str} (hx : x ∈ rooms) (T : TourR rows faces (wrg rows faces tf) x p z)
    (no : ∀ d ∈ wrg rows faces tf, fo rows faces d ∉ places.map rm) : z = x := by
  have hz := wf_room hv hx T.wf
  obtain ⟨e1, e2⟩ := wrg_fo hv (faces := faces) (tf := tf) h1.fl h2.fl
  have key : ∀ r ∈ rooms, ((wrg rows faces tf).map (fo rows faces)).count r ≤ ((wrg rows faces tf).map (fo rows tf)).count r := fun r hr => by
    have c1 := cnt_wr r (f := faces) (t := tf) (by rw [h1.fl, h2.fl])
    have c2 := coN_at co hr
    rw [← e1, ← e2] at c1
    by_cases w : r ∈ places.map rm
    · have a0 : ((wrg rows faces tf).map (fo rows faces)).count r = 0 := List.count_eq_zero.mpr fun m => by
        obtain ⟨d, hd, e⟩ := List.mem_map.mp m
        exact no d hd (e ▸ w)
      omega
    · have w0 := List.count_eq_zero.mpr w
      omega
  have s1 := sum_cnt hv.nd (l := (wrg rows faces tf).map (fo rows faces)) fun y hy => by
    obtain ⟨d, hd, rfl⟩ := List.mem_map.mp hy
    exact (fo_room hv h1 h2 hd).1
  have s2 := sum_cnt hv.nd (l := (wrg rows faces tf).map (fo rows tf)) fun y hy => by
    obtain ⟨d, hd, rfl⟩ := List.mem_map.mp hy
    exact (fo_room hv h1 h2 hd).2
  have eq := (sum_le_eq key).2 (by rw [s1, s2, List.length_map, List.length_map]) z hz
  refine Classical.byContradiction fun ne => ?_
  have f0 := flow hv h1 h2 z T.wf T.sub
  rw [if_pos rfl, if_neg (fun e => ne e.symm)] at f0
  have a1 : ((wrg rows faces tf).map (fo rows faces)).count z ≤ (p.map (fo rows faces)).count z := cnt_sub (wrg_nd hv h1.fl h2.fl) fun d hd e => by
    obtain ⟨y, g⟩ := wrg_out hv h1 hd
    rw [e] at g
    exact T.fin d y g hd
  have a2 : (p.map (fo rows tf)).count z ≤ ((wrg rows faces tf).map (fo rows tf)).count z := cnt_sub T.nd fun d hd _ => T.sub d hd
  omega
/-- fewer doors are wrong -/
theorem wrg_less (hv : HallV rooms rows) {tf : List Str} (h1 : FcV rows faces) (h2 : FcV rows tf) {p : List Str} (hs : ∀ d ∈ p, d ∈ wrg rows faces tf) (ne : p ≠ []) : (wrg rows (trP rows faces (inP p)) tf).length < (wrg rows faces tf).length := by
  obtain ⟨d0, hd0⟩ := List.exists_mem_of_ne_nil _ ne
  have sub : ∀ d ∈ wrg rows (trP rows faces (inP p)) tf, d ∈ wrg rows faces tf ∧ d ∉ p := fun d hd => by
    obtain ⟨i, a, b, f', g, hi, hf', hg, n⟩ := (wrg_mem (rows3 hv)).mp hd
    obtain ⟨f, hf⟩ := h1.at_ hi
    rw [trP_at hi hf] at hf'
    have hf' := Option.some.inj hf'
    by_cases m : d ∈ p
    · rw [if_pos (show inP p d = true from decide_eq_true m)] at hf'
      obtain ⟨k, a', b', f2, g2, hk, hkf, hkg, ne2⟩ := (wrg_mem (rows3 hv)).mp (hs d m)
      have e := at_one (l := rows) hv.dn hk hi rfl
      subst e
      rw [hi] at hk
      cases hk
      rw [hf] at hkf
      rw [hg] at hkg
      cases hkf
      cases hkg
      exact absurd (hf'.symm.trans (other_end (h1.fc _ _ _ _ _ hi hf) (h2.fc _ _ _ _ _ hi hg) ne2).symm) n
    · rw [if_neg (show ¬ inP p d = true by rw [show inP p d = false from decide_eq_false m]; decide)] at hf'
      exact ⟨(wrg_mem (rows3 hv)).mpr ⟨i, a, b, f, g, hi, hf, hg, hf' ▸ n⟩, m⟩
  have := nodup_sub (l := d0 :: wrg rows (trP rows faces (inP p)) tf) (m := wrg rows faces tf) (List.nodup_cons.mpr ⟨fun m => (sub _ m).2 hd0, wrg_nd hv (h1.tr _).fl h2.fl⟩) fun d hd => (List.mem_cons.mp hd).elim (fun e => e ▸ hs _ hd0) fun m => (sub d m).1
  exact this
/-- the nearest wrong door -/
structure NearR (rows : List (List Str)) (faces : List Str) (places : List (List Str)) (gl : Str → Prop) (w : Str) (way : List Str) (room : Str) : Prop where
  go : ∃ r, [w, r] ∈ places ∧ Wf (outs rows faces) r way room
  nd : way.Nodup
  gm : gl room
  mn : ∀ w' r' q y, [w', r'] ∈ places → Wk (outs rows faces) r' q y → gl y → way.length ≤ q.length
theorem turn_go (hv : HallV rooms rows) {ns : List Str} {ρ : Str → Str} {t : Sta} (ht : StV rooms rows faces (plc ns ρ)) (ht2 : StV rooms rows t.1 t.2) (c : Cln rooms rows (faces, plc ns ρ) t) {w room z : Str} {way tour : List Str}
    (N : NearR rows faces (plc ns ρ) (fun y => ∃ d ∈ wrg rows faces t.1, fo rows faces d = y) w way room) (T : TourR rows faces (wrg rows faces t.1) room tour z) :
    ∃ s', goM rows (faces, plc ns ρ) ((way ++ tour ++ way.reverse).map fun d => (w, d)) = some s' ∧ (wrg rows s'.1 t.1).length < (wrg rows faces t.1).length := by
  have f0 := ht.fcv
  obtain ⟨r, hr, hW⟩ := N.go
  obtain ⟨hw, hwr⟩ : w ∈ ns ∧ r = ρ w := by
    unfold plc at hr
    obtain ⟨n, hn, e⟩ := List.mem_map.mp hr
    cases e
    exact ⟨hn, rfl⟩
  subst hwr
  obtain ⟨d0, hd0, e0⟩ := N.gm
  have hroom : room ∈ rooms := e0 ▸ (fo_room hv f0 ht2.fcv hd0).1
  have tne : tour ≠ [] := fun e => by
    subst e
    have hz : room = z := T.wf
    subst hz
    obtain ⟨y, g⟩ := wrg_out hv f0 hd0
    rw [e0] at g
    cases T.fin d0 y g hd0
  have less := wrg_less hv f0 ht2.fcv T.sub tne
  have dj : ∀ d ∈ way, d ∉ wrg rows faces t.1 := fun d hd hm => by
    obtain ⟨k, hk⟩ := List.mem_iff_getElem?.mp hd
    obtain ⟨y, z', a1, _, a3, _⟩ := wf_door hW hk
    have := N.mn w (ρ w) _ y hr a1 ⟨d, hm, (wrg_step hv f0 ht2.fcv hm a3).1⟩
    rw [List.length_take] at this
    have := (List.getElem?_eq_some_iff.mp hk).1
    omega
  have djt : ∀ d ∈ tour, d ∉ way := fun d h1 h2 => dj d h2 (T.sub d h1)
  have g1 := go_walk hv hw ht N.nd hW
  have t1 := goM_st hv (s := (faces, plc ns ρ)) ht g1
  have q1 : Wf (outs rows (trP rows faces (inP way))) (put1 ρ w room w) tour z := by
    rw [show put1 ρ w room w = room from if_pos rfl]
    exact wf_tr hv T.wf fun d hd => decide_eq_false (djt d hd)
  have g2 := go_walk hv hw t1 T.nd q1
  have t2 := goM_st hv (s := (trP rows faces (inP way), plc ns (put1 ρ w room))) t1 g2
  by_cases wn : way = []
  · subst wn
    refine ⟨(trP rows faces (inP tour), plc ns (put1 ρ w z)), ?_, less⟩
    have e : ρ w = room := hW
    have g := go_walk hv hw ht T.nd (x := z) (by rw [e]; exact T.wf)
    rw [show ([] ++ tour ++ List.reverse [] : List Str) = tour from List.append_nil tour]
    exact g
  · have hzx : z = room := tour_closed hv f0 ht2.fcv c.co hroom T fun d hd hm => by
      obtain ⟨p, hp, e⟩ := List.mem_map.mp hm
      unfold plc at hp
      obtain ⟨n, hn, rfl⟩ := List.mem_map.mp hp
      have e : ρ n = fo rows faces d := e
      have := N.mn n (ρ n) [] (ρ n) (List.mem_map.mpr ⟨n, hn, rfl⟩) .nil ⟨d, hd, e.symm⟩
      exact wn (List.length_eq_zero_iff.mp (Nat.le_zero.mp this))
    subst hzx
    have q2 : Wf (outs rows (trP rows (trP rows faces (inP way)) (inP tour))) (put1 (put1 ρ w z) w z w) way.reverse (ρ w) := by
      rw [show put1 (put1 ρ w z) w z w = z from if_pos rfl]
      have := wf_bk hv f0 (P := fun n => xor (inP way n) (inP tour n)) hW fun d hd => by
        show xor (decide (d ∈ way)) (decide (d ∈ tour)) = true
        rw [decide_eq_true hd, decide_eq_false (fun m => djt d m hd)]
        rfl
      rw [trP_trP hv f0]
      exact this
    have g3 := go_walk hv hw t2 (nd_rev N.nd) q2
    refine ⟨_, by rw [List.map_append, List.map_append, goM_ap ((goM_ap g1).trans g2), g3], ?_⟩
    show (wrg rows (trP rows (trP rows (trP rows faces (inP way)) (inP tour)) (inP way.reverse)) t.1).length < _
    rw [trP_trP hv (f0.tr _), trP_trP hv f0, show (fun n => xor (inP way n) (xor (inP tour n) (inP way.reverse n))) = inP tour from funext fun n => by
      show xor (decide (n ∈ way)) (xor (decide (n ∈ tour)) (decide (n ∈ way.reverse))) = decide (n ∈ tour)
      rw [decide_eq_decide.mpr (show n ∈ way.reverse ↔ n ∈ way from List.mem_reverse)]
      cases decide (n ∈ way) <;> cases decide (n ∈ tour) <;> rfl]
    exact less
/-- somebody reaches a wrong door -/
theorem near_ex (hv : HallV rooms rows) {s t : Sta} (ht : StV rooms rows s.1 s.2) (ht2 : StV rooms rows t.1 t.2) (c : Cln rooms rows s t) {d : Str} (hd : d ∈ wrg rows s.1 t.1) : ∃ w r, [w, r] ∈ s.2 ∧ Rch (outs rows s.1) r (fo rows s.1 d) := by
  obtain ⟨i, a, b, f, g, hi, hf, hg, ne⟩ := (wrg_mem (rows3 hv)).mp hd
  rw [fo_at hv hi hf]
  have hn : d ∉ stillL rooms rows s.1 s.2 := fun hm => by
    have := c.st i d a b hi hm
    rw [hf, hg] at this
    exact ne (Option.some.inj this)
  have lot : lotB ((bdL rooms rows s.1 s.2).map (·.2)) a b = true := Classical.byContradiction fun z => hn (by
    unfold stillL
    exact List.mem_map.mpr ⟨[d, a, b], List.mem_filter.mpr ⟨List.mem_of_getElem? hi, by rw [Bool.not_eq_true']; exact Bool.eq_false_iff.mpr z⟩, rfl⟩)
  unfold lotB at lot
  obtain ⟨l, hl, hab⟩ := List.any_eq_true.mp lot
  rw [Bool.and_eq_true, decide_eq_true_eq, decide_eq_true_eq] at hab
  obtain ⟨e, he, rfl⟩ := List.mem_map.mp hl
  have hfe : f ∈ e.2 := (ht.fcv.fc _ _ _ _ _ hi hf).elim (fun z => by rw [z]; exact hab.1) fun z => by rw [z]; exact hab.2
  obtain ⟨u, hu, rfl⟩ := List.mem_map.mp he
  obtain ⟨hfr, m, hm, hl⟩ := gr_mem.mp hfe
  have hk := (cm_mem.mp hm).1
  rw [rsOf_ks] at hk
  obtain ⟨j, r, hj, hr⟩ := place_at ht hk
  rw [lk_rsOf ht hj] at hl
  exact ⟨m, r, List.mem_of_getElem? hj, (rch_mem.mp hl).2⟩
/-! ### walkers sorted -/
theorem plc_rm (ns : List Str) (ρ : Str → Str) : (plc ns ρ).map rm = ns.map ρ := by
  unfold plc
  rw [List.map_map]
  rfl
theorem guest_ex (hv : HallV rooms rows) {ns : List Str} {ρ τ : Str → Str} (hr : ∀ n ∈ ns, τ n ∈ rooms) (nd : ns.Nodup) (co : coN rooms faces (plc ns ρ) = coN rooms faces (plc ns τ)) {w : Str} (hw : w ∈ ns) (ne : ρ w ≠ τ w) : ∃ g ∈ ns, ρ g = τ w ∧ τ g ≠ τ w := by
  have c := coN_at co (hr w hw)
  rw [plc_rm, plc_rm, cnt_map, cnt_map] at c
  refine Classical.byContradiction fun no => ?_
  have := nodup_sub (l := w :: ns.filter fun d => decide (ρ d = τ w)) (m := ns.filter fun d => decide (τ d = τ w)) (List.nodup_cons.mpr ⟨fun m => ne (of_decide_eq_true (List.mem_filter.mp m).2), nd.filter _⟩) fun d hd => by
    rcases List.mem_cons.mp hd with rfl | hd
    · exact List.mem_filter.mpr ⟨hw, decide_eq_true rfl⟩
    · obtain ⟨h1, h2⟩ := List.mem_filter.mp hd
      exact List.mem_filter.mpr ⟨h1, decide_eq_true (Classical.byContradiction fun z => no ⟨d, h1, of_decide_eq_true h2, z⟩)⟩
  rw [List.length_cons] at this
  omega
theorem guest_cn (hv : HallV rooms rows) {ns : List Str} {ρ τ : Str → Str} {tf : List Str} (ht : StV rooms rows faces (plc ns ρ)) (c : Cln rooms rows (faces, plc ns ρ) (tf, plc ns τ)) {w g : Str} (hw : w ∈ ns) (hg : g ∈ ns) (h : ρ g = τ w) : Cn (rsOf rooms rows faces (plc ns ρ)) w g := by
  obtain ⟨j, hj⟩ := List.mem_iff_getElem?.mp hw
  obtain ⟨k, hk⟩ := List.mem_iff_getElem?.mp hg
  obtain ⟨e, he, hwe⟩ := in_band (rooms := rooms) (rows := rows) ht (plc_at hj)
  have hr := c.pl e he w hwe (τ w) (List.mem_map.mpr ⟨w, hw, rfl⟩)
  rw [← h] at hr
  obtain ⟨u, hu, rfl⟩ := List.mem_map.mp he
  obtain ⟨hroom, m, hm, hl⟩ := gr_mem.mp hr
  have nd := rsOf_nd ht
  have kw : w ∈ ks (rsOf rooms rows faces (plc ns ρ)) := by rw [ks_plc]; exact hw
  have kg : g ∈ ks (rsOf rooms rows faces (plc ns ρ)) := by rw [ks_plc]; exact hg
  have lg : ρ g ∈ lk (rsOf rooms rows faces (plc ns ρ)) g := by
    rw [lk_plc ht hg]
    exact rch_mem.mpr ⟨hroom, Rch.refl _ _⟩
  have uk := frs_sub _ _ _ hu
  exact (((cm_mem.mp hwe).2.symm nd uk).trans (cm_mem.mp hm).2).trans (Cn.share nd (cm_mem.mp hm).1 kg hl lg)
end
end Td
set_option maxHeartbeats 4000000
namespace Td
open PySem PySem.Spec PyProof.Rows L2 PySem.W PySem.Calls
theorem each_gB {β : Type} {R : Value → β → Prop} : ∀ {us : List Value} {bs : List β}, EachIs R us bs → ∀ (i : Nat) (u : Value), us[i]? = some u → ∃ b, bs[i]? = some b ∧ R u b
  | _, _, .nil, _, _, h => by simp at h
  | _, _, .cons (b := b) r t, 0, u, h => by
    have e := Option.some.inj (show some _ = some u from h)
    subst e
    exact ⟨b, rfl, r⟩
  | _, _, .cons (b := b) r t, i + 1, u, h => each_gB t i u h
/-! ### min(a list of tuples that begin with numbers): one whose number is the least -/
theorem lt_num {a b : Int} {xs ys : List PyData} : (a < b → dataLt (.tuple (.int a :: xs)) (.tuple (.int b :: ys)) = true) ∧ (dataLt (.tuple (.int a :: xs)) (.tuple (.int b :: ys)) = true → a ≤ b) := by
  have al : alike (.int a) (.int b) = true := by simp [alike]
  rw [dataLt_tuple]
  by_cases e : a = b
  · subst e
    exact ⟨fun h => absurd h (Int.lt_irrefl _), fun _ => Int.le_refl _⟩
  · rw [dataLt_all_no al (by simpa [PyData.eqv] using e), dataLt_int]
    exact ⟨fun h => decide_eq_true h, fun h => Int.le_of_lt (of_decide_eq_true h)⟩
theorem argBest_key {bt : Nat → Nat → Bool} {κ : Nat → Int} : ∀ n, (∀ i j, i ≤ n → j ≤ n → (κ i < κ j → bt i j = true) ∧ (bt i j = true → κ i ≤ κ j)) → argBest bt n ≤ n ∧ ∀ i, i ≤ n → κ (argBest bt n) ≤ κ i
  | 0, _ => ⟨Nat.le_refl _, fun i hi => by rw [Nat.le_zero.mp hi]; exact Int.le_refl _⟩
  | n + 1, h => by
    obtain ⟨i1, i2⟩ := argBest_key n fun i j hi hj => h i j (Nat.le_succ_of_le hi) (Nat.le_succ_of_le hj)
    show (if bt (n + 1) (argBest bt n) = true then n + 1 else argBest bt n) ≤ n + 1 ∧ ∀ i, i ≤ n + 1 → κ (if bt (n + 1) (argBest bt n) = true then n + 1 else argBest bt n) ≤ κ i
    obtain ⟨k1, k2⟩ := h (n + 1) (argBest bt n) (Nat.le_refl _) (Nat.le_succ_of_le i1)
    by_cases c : bt (n + 1) (argBest bt n) = true
    · rw [if_pos c]
      refine ⟨Nat.le_refl _, fun i hi => ?_⟩
      rcases Nat.lt_or_eq_of_le hi with g | g
      · exact Int.le_trans (k2 c) (i2 i (Nat.le_of_lt_succ g))
      · rw [g]; exact Int.le_refl _
    · rw [if_neg c]
      refine ⟨Nat.le_succ_of_le i1, fun i hi => ?_⟩
      rcases Nat.lt_or_eq_of_le hi with g | g
      · exact i2 i (Nat.le_of_lt_succ g)
      · rw [g]
        exact Int.not_lt.mp fun z => c (k1 z)
def rMinB (K : PySem.W.Frag) : List V → Hp → VK → Prop := fun vs H Q => ∃ (a : Addr) (bs : List (V × PyData)) (κ : Nat → Int) (tl : Nat → List PyData), vs = [V.ref a] ∧ bs ≠ [] ∧ SqL K H a (bs.map (·.1)) ∧ (∀ c ∈ bs, Dp K H c.1 c.2) ∧ AllAlike (bs.map (·.2)) ∧ (∀ c ∈ bs, c.2.depth ≤ 32) ∧
  (∀ (i : Nat) (c : V × PyData), bs[i]? = some c → c.2 = PyData.tuple (.int (κ i) :: tl i)) ∧ ∀ (j : Nat) (c : V × PyData), bs[j]? = some c → (∀ i : Nat, i < bs.length → κ j ≤ κ i) → Q c.1 H
theorem cr_minB {X : Cx} (hu : X.A.units + 64 < cLine) (hh : X.A.handled = none) : CallR X (.builtin "min") (rMinB X.K) := by
  intro pins s σ H x us Q I r h
  obtain ⟨a, bs, κ, tl, rfl, hne, hs, hd, hal, hdp, hκ, q⟩ := h
  obtain ⟨u, rfl, ru⟩ := vals1 r
  obtain rfl : u = Value.ref a := ru
  obtain ⟨its, rv, hl, hz⟩ := I.list hs
  have ev := vals_eachM rv
  have er := each_reads I ev hd
  have len : its.length = bs.length := ev.length
  have pos : 0 < bs.length := List.length_pos_iff.mpr hne
  let D : Nat → PyData := fun i => ((bs.map (·.2))[i]?).getD .none
  have dg : ∀ i c, bs[i]? = some c → D i = c.2 := fun i c e => by
    show ((bs.map (·.2))[i]?).getD .none = c.2
    rw [List.getElem?_map, e]
    rfl
  have hn : ∀ c ∈ bs, c.2 ≠ .none := fun c hc z => by
    obtain ⟨i, hi⟩ := List.mem_iff_getElem?.mp hc
    have := hκ i c hi
    rw [z] at this
    cases this
  have cmp : CmpIn X.prog X.w X.A.in1 .Lt s.heap (fun i v => its.toArray[i]? = some v) (fun i j => dataLt (D i) (D j)) := fun i j vi vj s' Q' E hk hi hj hq => by
    have hi : its.toArray[i]? = some vi := hi
    have hj : its.toArray[j]? = some vj := hj
    rw [List.getElem?_toArray] at hi hj
    have hq : Q' (.bool (dataLt (D i) (D j))) s' := hq
    obtain ⟨c1, e1, as1, r1⟩ := each_gB er i vi hi
    obtain ⟨c2, e2, as2, r2⟩ := each_gB er j vj hj
    rw [dg i c1 e1, dg j c2 e2] at hq
    have m1 := List.mem_of_getElem? e1
    have m2 := List.mem_of_getElem? e2
    refine rcLt_alike _ _ _ s' vi vj _ _ (reads_keeps hk r1) (reads_keeps hk r2) (hal _ (List.mem_map.mpr ⟨_, m1, rfl⟩) _ (List.mem_map.mpr ⟨_, m2, rfl⟩)) (hn _ m1) ?_ X.prog X.w E Q' hq
    have := Nat.min_le_left c1.2.depth c2.2.depth
    have := hdp _ m1
    show X.A.units + 1 + _ < _
    omega
  have key := argBest_key (bt := fun i j => dataLt (D i) (D j)) (κ := κ) (its.toArray.size - 1) fun i j hi hj => by
    rw [List.size_toArray] at hi hj
    have e1 : bs[i]? = some (bs[i]'(by omega)) := List.getElem?_eq_getElem (by omega)
    have e2 : bs[j]? = some (bs[j]'(by omega)) := List.getElem?_eq_getElem (by omega)
    show (κ i < κ j → dataLt (D i) (D j) = true) ∧ (dataLt (D i) (D j) = true → κ i ≤ κ j)
    rw [dg i _ e1, dg j _ e2, hκ i _ e1, hκ j _ e2]
    exact lt_num
  refine call_min_walkH (iter_listW (A := X.A.in1) hh hl.isList fun s₂ e W st hfp hw hk => ?_)
  refine ⟨_, _, _, _, _, _, _, s.heap, _, rfl, W, st, hfp, ?_, hw, hk, cmp, fun v s' hP m => ?_⟩
  · rw [List.size_toArray, len]
    exact pos
  · obtain ⟨h', tk, rfl, hk'⟩ := moved_old e rfl m
    have hP : its.toArray[argBest (fun i j => dataLt (D i) (D j)) (its.toArray.size - 1)]? = some v := hP
    rw [List.getElem?_toArray] at hP
    obtain ⟨c, e0, r0⟩ := each_gB ev _ v hP
    exact ⟨c.1, H, I.kept hk', r0, q _ c e0 fun i hi => key.2 i (by rw [List.size_toArray]; omega)⟩
end Td
set_option maxHeartbeats 4000000
namespace Td
open PySem PySem.Spec PyProof.Rows L2 HT
/-! ### t[::-1] of a tuple -/
section
variable {prog : Program} {w : World} {A : Around} {E : Value → Shared → Prop} {s : Shared}
theorem places_rev (n : Nat) : Builtin.Slice.slicePlaces ((n : Int) - 1) (-1) (-1) = n := by
  unfold Builtin.Slice.slicePlaces
  rw [if_neg (by decide)]
  by_cases h : n = 0
  · subst h
    rfl
  · rw [if_pos (by omega), show (-(-1) : Int) = 1 from rfl, Int.ediv_one]
    omega
theorem adjust_rev (n : Nat) : Builtin.Slice.sliceAdjust none none (-1) (n : Int) = ((n : Int) - 1, -1) := rfl
theorem rev_items (xs : List Value) : ((List.range xs.length).filterMap fun (k : Nat) => xs.toArray[((xs.length : Int) - 1 + (k : Int) * (-1)).toNat]?) = xs.reverse := by
  have e : ((List.range xs.length).filterMap fun (k : Nat) => xs.toArray[((xs.length : Int) - 1 + (k : Int) * (-1)).toNat]?) = ((List.range xs.length).map fun k => xs.length - 1 - k).filterMap (xs.toArray[·]?) := by
    rw [List.filterMap_map]
    refine congrArg (fun f => List.filterMap f (List.range xs.length)) (funext fun k => ?_)
    show xs.toArray[((xs.length : Int) - 1 + (k : Int) * (-1)).toNat]? = xs.toArray[xs.length - 1 - k]?
    rw [show ((xs.length : Int) - 1 + (k : Int) * (-1)).toNat = xs.length - 1 - k by omega]
  rw [e, PySem.W.krv_range, List.filterMap_reverse]
  have := PySem.W.krv_all xs.toArray
  rw [List.size_toArray] at this
  rw [this]
theorem sliceApplied_rev {sl : Addr} {vs : Value} {n : Nat} {Q : Int × Int × Nat → Shared → Prop} (hs : s.heap.IsSliceOf sl .none .none vs) (ps : IsPart vs (some (-1)))
    (h : Q ((n : Int) - 1, -1, n) s) : wpAny (model prog w) A (Builtin.Slice.sliceApplied (.ref sl) (pure ((n : Int)))) Q E s := by
  obtain ⟨os, hos, hcs, hds⟩ := id hs
  unfold Builtin.Slice.sliceApplied Builtin.Slice.sliceFields
  refine wpAny_bind (wpAny_bind (wpAny_field hos hds (x := .none) rfl (wpAny_bind (wpAny_field hos hds (x := .none) rfl (wpAny_bind (wpAny_field hos hds (x := vs) rfl (wpAny_pure ?_)))))))
  refine wpAny_bind (HT.slicePart_ ps ?_)
  show wpAny _ _ (if ((-1 : Int) == 0) = true then _ else _) _ _ s
  rw [if_neg (by decide)]
  refine wpAny_bind (HT.slicePart_ .none (wpAny_bind (HT.slicePart_ .none (wpAny_bind (wpAny_pure ?_)))))
  have h : Q ((n : Int) - 1, -1, Builtin.Slice.slicePlaces ((n : Int) - 1) (-1) (-1)) s := by rw [places_rev]; exact h
  exact wpAny_pure h
theorem getItem_rev {t sl : Addr} {xs : List Value} {vs : Value} {Q : Value → Shared → Prop} (ht : IsTup s.heap t xs.toArray) (hs : s.heap.IsSliceOf sl .none .none vs) (ps : IsPart vs (some (-1)))
    (hn : xs.length ≤ sizeLine) (h : Q (.ref s.heap.objs.size) { s with heap := s.heap.push { cls := .type "tuple", data := .seq xs.reverse.toArray } }) : wpAny (model prog w) A (getItem (.ref t) (.ref sl)) Q E s := by
  obtain ⟨os, hos, hcs, hds⟩ := id hs
  have hTs : s.TypeIs (.ref sl) "slice" := ⟨os, hos, hcs⟩
  unfold getItem
  try with_reducible refine wpAny_holding ?_
  first | refine wpAny_bind (wpAny_pure ?_) | skip
  refine wpAny_bind (wpAny_sequenceKey ht.typeIs (by decide) ?_)
  refine wpAny_bind (wpAny_callSpecial?_slot (name := Str.ofString "__getitem__") ht.typeIs PyProof.Rows.slot_tuple_getitem
    (wpAny_call_entry PyProof.Rows.slot_tuple_getitem ht.typeIs entry_tuple_getitem ?_ (args_tuple_getitem _ _)))
  show wpAny _ _ (Builtin.Tuple.tupleItemsOf (.ref t) >>= _) _ _ s
  refine wpAny_bind (tupleItemsOf_ ht ?_)
  refine wpAny_bind (wpAny_typeOf hTs ?_)
  rw [if_pos (by decide)]
  refine wpAny_bind (sliceApplied_rev hs ps ?_)
  rw [show xs.toArray.size = xs.length from List.size_toArray]
  show wpAny _ _ (if (((xs.length : Int) - 1) == 0 && (-1 : Int) == 1 && (xs.length : Nat) == xs.length) = true then _ else _) _ _ s
  rw [show ((((xs.length : Int) - 1) == 0 && (-1 : Int) == 1 && (xs.length : Nat) == xs.length)) = false by rw [show ((-1 : Int) == 1) = false from rfl, Bool.and_false, Bool.false_and], if_neg (by decide), rev_items]
  have hz : sizeOk (.seq xs.reverse.toArray) := by show xs.reverse.toArray.size ≤ sizeLine; rw [List.size_toArray, List.length_reverse]; exact hn
  first
    | exact wpAny_bind (m := Builtin.Tuple.tupleExact _) (wpAny_newObj_type (wpAny_pure ⟨_, rfl, wpAny_pure h⟩) hz)
    | exact wpAny_bind (m := Builtin.Tuple.tupleExact _) (wpAny_newObj_type (wpAny_bind (wpAny_pure (wpAny_pure ⟨_, rfl, wpAny_pure h⟩))) hz)
    | exact wpAny_bind (wpAny_bind (m := Builtin.Tuple.tupleExact _) (wpAny_newObj_type (wpAny_pure (wpAny_pure ⟨_, rfl, wpAny_pure h⟩)) hz))
    | exact wpAny_bind (wpAny_bind (m := Builtin.Tuple.tupleExact _) (wpAny_newObj_type (wpAny_pure ⟨_, rfl, wpAny_pure h⟩) hz))
end
def tRevT (K : PySem.W.Frag) (te : TE) : TE := fun σ H Q => te σ H fun v H1 => ∃ (t : Addr) (xs : List V), v = .ref t ∧ SqT K H1 t xs ∧ ∀ p, H1 p = none → Q (.ref p) (upd H1 p (.tup xs.reverse))
theorem pe_revT {X : Cx} {e : Expr} {te : TE} {k : Nat} {p1 p2 p3 pos : Pos} (he : PE X e te) : PE X (.Subscript e (.Slice none none (some (.UnaryOp .USub (.Constant (.int 1) k p1) p2)) p3) pos) (tRevT X.K te) := by
  refine ⟨fun pins s σ H Q I h => ?_⟩
  refine Subscript_ (thn (he.run pins s σ H _ I h) fun v s1 ⟨x0, H1, I1, r1, q1⟩ => ?_)
  obtain ⟨a, xs, ex, hx, q⟩ := q1
  subst ex
  cases r1
  have hst : PO X (some (.UnaryOp .USub (.Constant (.int 1) k p1) p2)) (tPart (tUn (rU fun i => .int (-i)) (tC (.int 1)))) := po_some (pe_un un_neg pe_int)
  refine wpAny_Slice (thn (po_none.run pins s1 σ H1 (fun o H2 => o = none ∧ H2 = H1) I1 ⟨rfl, rfl⟩) fun vl s2 ⟨l, H2, I2, pl, el, e2⟩ => ?_)
  subst el e2
  refine thn (po_none.run pins s2 σ H2 (fun o H3 => o = none ∧ H3 = H2) I2 ⟨rfl, rfl⟩) fun vu s3 ⟨u, H3, I3, pu, eu, e3⟩ => ?_
  subst eu e3
  refine thn (hst.run pins s3 σ H3 (fun o H4 => o = some (-1) ∧ H4 = H3) I3 ⟨1, rfl, -1, rfl, rfl, rfl⟩) fun vs s4 ⟨o, H4, I4, ps, eo, e4⟩ => ?_
  subst eo e4
  cases pl
  cases pu
  have I5 : Inv X pins σ H4 { s4 with heap := s4.heap.push { cls := .type "slice", data := .fields #[.none, .none, vs] } } := I4.kept (t' := s4.toks) fun b ob q => Heap.get?_push_of_some _ q
  obtain ⟨its, r, ht, hz⟩ := I5.tuple hx
  have hlen := r.length
  show wpAny (model X.prog X.w) X.A (subscriptTail e (.Slice none none (some (.UnaryOp .USub (.Constant (.int 1) k p1) p2)) p3) (.ref a) (.ref s4.heap.objs.size)) (EP X pins σ Q) X.xe { s4 with heap := s4.heap.push { cls := .type "slice", data := .fields #[.none, .none, vs] } }
  refine tail_any (ops := [.ref a, .ref s4.heap.objs.size]) ht.typeIs (PyProof.Rows.slot_tuple_getitem.lookup) ?_ (by with_unfolding_all rfl)
  refine getItem_rev ht (Heap.IsSliceOf.new _ .none .none vs) ps (by omega) ?_
  refine ⟨.ref _, _, I5.laid (t' := s4.toks) (o := .tup xs.reverse) (fun b ob q => Heap.get?_push_of_some _ q) (Nat.le_refl _) ?_, rfl, q _ (I5.hok.fresh (Nat.le_refl _))⟩
  exact ⟨by rw [List.length_reverse]; exact hz, _, r.reverse, IsTup.new _ _⟩
end Td
set_option maxHeartbeats 4000000
namespace Td
open PySem PySem.Spec PyProof.Rows L2
/-! ### xs.remove(x) of a list of texts that has x -/
theorem first_atS : ∀ {ns : List Str} {k : Str}, k ∈ ns → ∃ j, j < ns.length ∧ ns[j]? = some k ∧ (∀ i, i < j → ns[i]? ≠ some k) ∧ ns.eraseIdx j = ns.erase k
  | [], k, h => nomatch h
  | a :: r, k, h => by
    by_cases e : a = k
    · subst e
      exact ⟨0, Nat.succ_pos _, rfl, fun i hi => absurd hi (Nat.not_lt_zero _), by rw [List.erase_cons_head]; rfl⟩
    · obtain ⟨j, h1, h2, h3, h4⟩ := first_atS ((List.mem_cons.mp h).resolve_left fun z => e z.symm)
      refine ⟨j + 1, Nat.succ_lt_succ h1, h2, fun i hi => ?_, ?_⟩
      · cases i with
        | zero => exact fun z => e (Option.some.inj z)
        | succ i => exact h3 i (Nat.lt_of_succ_lt_succ hi)
      · rw [List.erase_cons_tail (by rw [beq_iff_eq]; exact e), ← h4]
        rfl
theorem map_eraseIdxS (f : Str → V) : ∀ (ns : List Str) (j : Nat), (ns.map f).eraseIdx j = (ns.eraseIdx j).map f
  | [], _ => rfl
  | _ :: _, 0 => rfl
  | n :: r, j + 1 => by
    show f n :: (r.map f).eraseIdx j = f n :: (r.eraseIdx j).map f
    rw [map_eraseIdxS f r j]
theorem isStr_at (k : Str) : ∀ {vs : List Value} {ns : List Str}, StrsAre vs ns → ∀ (i : Nat) (h : i < vs.length), isStrOf k vs[i] = true ↔ ns[i]? = some k
  | _, _, .nil, i, h => absurd h (by simp)
  | _, _, .cons n t hr, 0, _ => by
    show isStrOf k (.str n t) = true ↔ some n = some k
    rw [Option.some_inj]
    simp [isStrOf]
  | _, _, .cons n t hr, i + 1, h => isStr_at k hr i (Nat.lt_of_succ_lt_succ h)
def tRemS (K : PySem.W.Frag) (to te : TE) : TE := fun σ H Q => to σ H fun x H1 => tyV K "list" x H1 ∧ te σ H1 fun y H2 => ∃ (l : Addr) (ns : List Str) (k : Str), x = .ref l ∧ y = .str k ∧ H2 l = some (.lst (ns.map V.str)) ∧
  k ∈ ns ∧ Q .non (upd H2 l (.lst ((ns.erase k).map V.str)))
theorem strs_of : ∀ {ns : List Str} {its : List Value}, Vals (ns.map V.str) its → StrsAre its ns
  | [], _, h => by cases h; exact .nil
  | n :: ns, _, .cons r h => by
    obtain ⟨t, rfl⟩ := r
    exact .cons n t (strs_of h)
section
variable {X : Cx} {o e : Expr} {to te : TE} {apos cpos : Pos}
theorem pe_remS (ho : PE X o to) (he : PE X e te) (hbase : attributeBase o "remove" X.env (eval o X.env) = eval o X.env := by rfl)
    (hfew : ((backTo cpos (starEach [e] X.env)).all (fun x => !x.1) && (backToKw cpos (keywordEach [] X.env)).all (fun x => x.1.isSome)
      && decide (([e] : List Expr).length + ([] : List Keyword).length + (if ([] : List Keyword).isEmpty then 0 else 1) < 30)) = true := by rfl)
    (hline : (apos.endLine == cpos.line) = true := by rfl) (hs : starEach [e] X.env = (false, eval e X.env) :: starEach [] X.env := by rfl) (hplain : (backTo cpos (starEach [] X.env)).any (·.1) = false := by rfl) :
    PE X (.Call (.Attribute o "remove" apos) [e] [] cpos) (tRemS X.K to te) := by
  refine ⟨fun pins s σ H Q I h => ?_⟩
  refine wpAny_Call_method_late hbase hfew hline rfl (thn (ho.run pins s σ H _ I h) fun v s1 ⟨x, H1, I1, r1, ty, q1⟩ => ?_)
  obtain ⟨h1, h2⟩ := tyV_is I1 r1 ty
  refine ⟨"list", _, PySem.F.plainAttrs_list, PySem.F.slot_list_remove, PySem.F.type_list_remove, h1, h2, ?_⟩
  rw [hs]
  refine Calls.callWith_builtin (by show (false || (backTo cpos (starEach [] X.env)).any (·.1)) = false; rw [hplain] <;> rfl) (Calls.evalArgs_plain ?_)
  show wpAny _ _ (spliced ((false, eval e X.env) :: backTo cpos (starEach [] X.env))) _ _ s1
  refine Calls.spliced_cons (thn (he.run pins s1 σ H1 _ I1 q1) fun u s2 ⟨y, H2, I2, ry, q2⟩ => ?_)
  refine Calls.spliced_nil ?_
  obtain ⟨l, ns, k, ex, ey, hH, hk, qy⟩ := q2
  subst ex
  subst ey
  cases (show v = Value.ref l from r1)
  obtain ⟨t, rfl⟩ := (show ∃ t, u = Value.str k t from ry)
  obtain ⟨z, its, n, r, hl, e0⟩ := I2.lstM hH
  have hi : StrsAre its ns := strs_of r
  have heq := eq_isStrOf k t hi
  have hnl : ns.length = its.length := by rw [← hl, List.length_map]
  have hsz : its.toArray.size ≤ sizeLine := by rw [List.size_toArray, ← hl]; exact z
  obtain ⟨j, j1, j2, j3, j4⟩ := first_atS hk
  have hj : j < its.length := by omega
  refine call_meets PySem.F.slot_list_remove ⟨_, e0, rfl⟩ PySem.F.entry_list_remove (PySem.F.args_list_remove_2 _ _)
    (MeetsSeq.list_remove l its.toArray n (.str k t) (isStrOf k) (fun y hy => heq y (by simpa using hy)) j (by rw [List.size_toArray]; exact hj) ?hit (fun i hi2 hlt => ?hno) hsz) ⟨e0, ?_⟩
  case hit =>
    show isStrOf k its[j] = true
    exact (isStr_at k hi j hj).mpr j2
  case hno =>
    have hi3 : i < its.length := by rw [List.size_toArray] at hi2; exact hi2
    show isStrOf k its[i] = false
    rw [Bool.eq_false_iff]
    intro w
    exact j3 i hlt ((isStr_at k hi i hi3).mp w)
  have r2 : Vals ((ns.erase k).map V.str) (its.eraseIdx j) := by
    have w := r.eraseIdx j
    rw [map_eraseIdxS, j4] at w
    exact w
  refine ⟨.non, _, I2.lset (its' := its.eraseIdx j) hH e0 ?_ r2 ?_, rfl, qy⟩
  · show its.toArray.eraseIdxIfInBounds j = (its.eraseIdx j).toArray
    rw [List.eraseIdxIfInBounds_toArray]
  · rw [List.length_map]
    have := List.length_erase_le (a := k) (l := ns)
    rw [List.length_map] at z
    omega
end
end Td
set_option maxHeartbeats 4000000
namespace Td
open PySem PySem.Spec PyProof.Rows L2
/-! ### zip of a list, a tuple and a list, all of one length -/
def ItZ3 (Sq Sr Ss : Hp → List V → Prop) : It :=
  ⟨fun i H => ∃ (xs ys zs : List V) (x y z : V), Sq H xs ∧ Sr H ys ∧ Ss H zs ∧ xs[i]? = some x ∧ ys[i]? = some y ∧ zs[i]? = some z,
    fun i H v H' => ∃ T x y z, v = .ref T ∧ H T = none ∧ H' = upd H T (.tup [x, y, z]) ∧ (∀ xs, Sq H xs → xs[i]? = some x) ∧ (∀ ys, Sr H ys → ys[i]? = some y) ∧ ∀ zs, Ss H zs → zs[i]? = some z,
    fun i H => ∃ xs ys zs : List V, Sq H xs ∧ Sr H ys ∧ Ss H zs ∧ xs.length = i ∧ ys.length = i ∧ zs.length = i⟩
theorem turn_Z3 {P : Program} {w : World} {K : PySem.W.Frag} {elts : List Expr} {kk : Nat} {tpos : Pos} {zz TI TO i1 i2 i3 l1 l2 l3 : Addr} (S : ZipSep3 zz TI TO i1 i2 i3 [i1, l1] [i2, l2] [i3, l3]) (n1 : l1 ≠ i1) (n2 : l2 ≠ i2) (n3 : l3 ≠ i3) :
    Turn P w K (.Tuple elts kk tpos) (ItZ3 (fun H xs => SqL K H l1 xs) (fun H xs => SqT K H l2 xs) (fun H xs => SqL K H l3 xs)) [zz, TI, TO, i1, i2, i3] zz
      (fun i g => IsZip g zz TI TO .none ∧ IsTupOf3 g TI (.ref i1) (.ref i2) (.ref i3) ∧ (∃ a b c, IsTupOf3 g TO a b c) ∧ g.IsListIter i1 l1 i ∧ g.IsTupleIter i2 l2 i ∧ g.IsListIter i3 l3 i) where
  mem := List.mem_cons_self ..
  obj := fun i g ⟨hz, hTI, ⟨x, y, u, hTO⟩, ⟨o1, a1, _, d1⟩, ⟨o2, a2, _, d2⟩, ⟨o3, a3, _, d3⟩⟩ c hc => by
    have hc' : c = zz ∨ c = TI ∨ c = TO ∨ c = i1 ∨ c = i2 ∨ c = i3 := by simpa using hc
    rcases hc' with z | z | z | z | z | z <;> rw [z]
    · exact ⟨_, hz, fun v q => nomatch q⟩
    · exact ⟨_, hTI, fun v q => nomatch q⟩
    · exact ⟨_, hTO, fun v q => nomatch q⟩
    · exact ⟨o1, a1, fun v q => by rw [d1] at q; cases q⟩
    · exact ⟨o2, a2, fun v q => by rw [d2] at q; cases q⟩
    · exact ⟨o3, a3, fun v q => by rw [d3] at q; cases q⟩
  keep := fun i g g' ⟨hz, hTI, ⟨x, y, u, hTO⟩, ⟨o1, a1, r1⟩, ⟨o2, a2, r2⟩, ⟨o3, a3, r3⟩⟩ k =>
    ⟨k zz (by simp) _ hz, k TI (by simp) _ hTI, ⟨x, y, u, k TO (by simp) _ hTO⟩, ⟨o1, k i1 (by simp) _ a1, r1⟩, ⟨o2, k i2 (by simp) _ a2, r2⟩, ⟨o3, k i3 (by simp) _ a3, r3⟩⟩
  item := by
    intro X hP hw hK hc i pins s σ H E I hf ⟨hz, hTI, ⟨x0, y0, u0, hTO⟩, h1, h2, h3⟩ ⟨xs, ys, zs, x, y, z, hqx, hqy, hqz, hx, hy, hzz⟩
    subst hP hw hK
    obtain ⟨its, rv, c1, _⟩ := I.list hqx
    obtain ⟨its2, rv2, c2, _⟩ := I.tuple hqy
    obtain ⟨its3, rv3, c3, _⟩ := I.list hqz
    obtain ⟨u, hu, ru⟩ := rv.get hx
    obtain ⟨u2, hu2, ru2⟩ := rv2.get hy
    obtain ⟨u3, hu3, ru3⟩ := rv3.get hzz
    have lz : zz < s.heap.objs.size := Heap.lt_size hz
    have hd : X.A.in1.handled = none := I.ok.hd hc
    have W := GoesN.zip3 (prog := X.prog) (w := X.w) (A := X.A) (elts := elts) (x1 := kk) (pos := tpos) S (Draws.list hd i1 l1 n1 its.toArray) (Draws.tuple hd i2 l2 n2 its2.toArray) (Draws.list hd i3 l3 n3 its3.toArray)
    have b1 := (List.getElem?_eq_some_iff.mp hu).1
    have b2 := (List.getElem?_eq_some_iff.mp hu2).1
    have b3 := (List.getElem?_eq_some_iff.mp hu3).1
    refine W.goes i s _ E (by simp only [List.size_toArray]; omega) ⟨hz, hTI, ⟨x0, y0, u0, hTO⟩, ⟨h1, c1.isList⟩, ⟨h2, c2⟩, ⟨h3, c3.isList⟩⟩ fun v h' tk hY st' hk htk => ?_
    obtain ⟨T, a, b, c, rfl, hge, ha, hb, hcc, hT⟩ := hY
    have ea : a = u := by
      have ha : its.toArray[i]? = some a := ha
      rw [List.getElem?_toArray, hu] at ha
      exact (Option.some.inj ha).symm
    have eb : b = u2 := by
      have hb : its2.toArray[i]? = some b := hb
      rw [List.getElem?_toArray, hu2] at hb
      exact (Option.some.inj hb).symm
    have ec : c = u3 := by
      have hcc : its3.toArray[i]? = some c := hcc
      rw [List.getElem?_toArray, hu3] at hcc
      exact (Option.some.inj hcc).symm
    subst ea eb ec
    have new : ObjOk X.prog X.w (upd H T (.tup [x, y, z])) h' T (.tup [x, y, z]) := ⟨by show 3 ≤ sizeLine; decide, [a, b, c], .cons ru (.cons ru2 (.cons ru3 .nil)), hT⟩
    have I1 : Inv X pins σ (upd H T (.tup [x, y, z])) { s with heap := h', toks := tk } :=
      I.turnedNew (ch := [zz, TI, TO, i1, i2, i3]) (fun c o hc z => hk c o (fun m => hc (by
        have m' : c = zz ∨ c = TO ∨ c = i1 ∨ c = i2 ∨ c = i3 := by simpa using m
        rcases m' with q | q | q | q | q <;> rw [q] <;> simp)) z) hf hge new
    obtain ⟨t1, t2, t3, ⟨t4, _⟩, ⟨t5, _⟩, ⟨t6, _⟩⟩ := st'
    refine ⟨.ref T, _, I1, rfl, ⟨T, x, y, z, rfl, I.hok.fresh hge, rfl, fun l hl => by rw [I.list_inj hl hqx]; exact hx, fun l hl => by rw [I.tuple_inj hl hqy]; exact hy, fun l hl => by rw [I.list_inj hl hqz]; exact hzz⟩, ⟨t1, t2, t3, t4, t5, t6⟩, fun c hc => ?_⟩
    have lt : c < s.heap.objs.size := by
      obtain ⟨o1, a1, _⟩ := h1
      obtain ⟨o2, a2, _⟩ := h2
      obtain ⟨o3, a3, _⟩ := h3
      have hc' : c = zz ∨ c = TI ∨ c = TO ∨ c = i1 ∨ c = i2 ∨ c = i3 := by simpa using hc
      rcases hc' with z | z | z | z | z | z <;> rw [z]
      · exact lz
      · exact Heap.lt_size hTI
      · exact Heap.lt_size hTO
      · exact Heap.lt_size a1
      · exact Heap.lt_size a2
      · exact Heap.lt_size a3
    rw [upd_ne (Nat.ne_of_lt (Nat.lt_of_lt_of_le lt hge))]
    exact (hf c hc).1
  done := by
    intro X hP hw hK hc i pins s σ H E I hf ⟨hz, hTI, ⟨x0, y0, u0, hTO⟩, h1, h2, h3⟩ ⟨xs, ys, zs, hqx, hqy, hqz, e1, e2, e3⟩
    subst hP hw hK
    obtain ⟨its, rv, c1, _⟩ := I.list hqx
    obtain ⟨its2, rv2, c2, _⟩ := I.tuple hqy
    obtain ⟨its3, rv3, c3, _⟩ := I.list hqz
    have hd : X.A.in1.handled = none := I.ok.hd hc
    have W := GoesN.zip3 (prog := X.prog) (w := X.w) (A := X.A) (elts := elts) (x1 := kk) (pos := tpos) S (Draws.list hd i1 l1 n1 its.toArray) (Draws.tuple hd i2 l2 n2 its2.toArray) (Draws.list hd i3 l3 n3 its3.toArray)
    have m1 := rv.length
    have m2 := rv2.length
    have m3 := rv3.length
    have hn : min (min its.toArray.size its2.toArray.size) its3.toArray.size = i := by simp only [List.size_toArray]; omega
    rw [hn] at W
    exact W.stops s _ E ⟨hz, hTI, ⟨x0, y0, u0, hTO⟩, ⟨h1, c1.isList⟩, ⟨h2, c2⟩, ⟨h3, c3.isList⟩⟩ fun h' tk hk htk => I.turnedL (ch := [zz, TI, TO, i1, i2, i3]) (fun c o hc z => hk c o (fun m => hc (by
        have m' : c = zz ∨ c = TO ∨ c = i1 ∨ c = i2 ∨ c = i3 := by simpa using m
        rcases m' with q | q | q | q | q <;> rw [q] <;> simp)) z) hf
  self := fun A i s Q E st h => wpAny_pyIter_zip st.1 h
def iZip3 (K : PySem.W.Frag) (ta : TA) : TI := fun σ H R => ta σ H fun vs H1 => ∃ a b c xs ys zs, vs = [.ref a, .ref b, .ref c] ∧ SqL K H1 a xs ∧ SqT K H1 b ys ∧ SqL K H1 c zs ∧ R (ItZ3 (fun H xs => SqL K H a xs) (fun H ys => SqT K H b ys) (fun H zs => SqL K H c zs)) H1
theorem pi_zip3 {X : Cx} {e e2 e3 : Expr} {ta : TA} {p pos tpos : Pos} {elts : List Expr} {kk : Nat} (hg : Gl X "zip") (hm : X.mg "zip" = none) (ha : PA X [e, e2, e3] ta)
    (hs : starEach [e, e2, e3] X.env = (false, eval e X.env) :: starEach [e2, e3] X.env := by rfl) (hpl : (backTo pos (starEach [e2, e3] X.env)).any (·.1) = false := by rfl) :
    PI X (.Tuple elts kk tpos) (.Call (.Name "zip" p) [e, e2, e3] [] pos) (iZip3 X.K ta) := by
  refine ⟨fun pins s σ H R I h => Call_ (ld_blt I hg hm PyProof.Rows.boot_zip (PyProof.Rows.callWith_type1 (thn (ha.run pos pins s σ H _ I h) fun us s1 ⟨vs, H1, I1, r1, a, b, c, xs, ys, zs, ex, hx, hy, hz, q⟩ => ?_) hs hpl))⟩
  subst ex
  cases r1 with
  | cons r rr =>
    cases rr with
    | cons r' rr =>
      cases rr with
      | cons r'' rr =>
        cases rr
        cases r
        cases r'
        cases r''
        obtain ⟨its, rv, p1, _⟩ := I1.list hx
        obtain ⟨its2, rv2, p2, _⟩ := I1.tuple hy
        obtain ⟨its3, rv3, p3, _⟩ := I1.list hz
        obtain ⟨o2, ho2, _⟩ := id p2
        have la := p1.lt
        have lb := Heap.lt_size ho2
        have lc := p3.lt
        refine zip_begins3 (begins_list a its.toArray) (begins_tuple b its2.toArray) (begins_list c its3.toArray) p1.isList p2 p3.isList fun g' hz hTI hTO h1 h2 h3 hsz hk => wpAny_pyIter_zip hz ?_
        have I2 : Inv X pins σ H1 { s1 with heap := g' } := I1.kept (t' := s1.toks) hk
        have one : ∀ {x N : Nat}, x < N → ∀ b ∈ [x], b < N := fun hx b hb => by rw [List.mem_singleton.mp hb]; exact hx
        refine ⟨s1.heap.objs.size + 5, [s1.heap.objs.size + 5, s1.heap.objs.size + 3, s1.heap.objs.size + 4, s1.heap.objs.size, s1.heap.objs.size + 1, s1.heap.objs.size + 2], _, _, H1, rfl, I2,
          turn_Z3 (zip_sep3 (one la) (one lb) (one lc)) (Nat.ne_of_lt la) (Nat.ne_of_lt (Nat.lt_succ_of_lt lb)) (Nat.ne_of_lt (Nat.lt_succ_of_lt (Nat.lt_succ_of_lt lc))), ⟨hz, hTI, ⟨_, _, _, hTO⟩, ⟨_, h1, rfl, rfl⟩, ⟨_, h2, rfl, rfl⟩, ⟨_, h3, rfl, rfl⟩⟩, fun c hc => ?_, q⟩
        have le : s1.heap.objs.size ≤ c := by
          have hc' : c = s1.heap.objs.size + 5 ∨ c = s1.heap.objs.size + 3 ∨ c = s1.heap.objs.size + 4 ∨ c = s1.heap.objs.size ∨ c = s1.heap.objs.size + 1 ∨ c = s1.heap.objs.size + 2 := by simpa using hc
          rcases hc' with z | z | z | z | z | z <;> rw [z] <;> first | exact Nat.le_add_right _ _ | exact Nat.le_refl _
        exact I1.fpOk le (I1.hok.fresh le)
end Td
set_option maxHeartbeats 4000000
namespace Td
open PySem PySem.Spec PyProof.Rows L2
/-! ### zip of three tuples, all of one length -/
theorem turn_Z3T {P : Program} {w : World} {K : PySem.W.Frag} {elts : List Expr} {kk : Nat} {tpos : Pos} {zz TI TO i1 i2 i3 l1 l2 l3 : Addr} (S : ZipSep3 zz TI TO i1 i2 i3 [i1, l1] [i2, l2] [i3, l3]) (n1 : l1 ≠ i1) (n2 : l2 ≠ i2) (n3 : l3 ≠ i3) :
    Turn P w K (.Tuple elts kk tpos) (ItZ3 (fun H xs => SqT K H l1 xs) (fun H xs => SqT K H l2 xs) (fun H xs => SqT K H l3 xs)) [zz, TI, TO, i1, i2, i3] zz
      (fun i g => IsZip g zz TI TO .none ∧ IsTupOf3 g TI (.ref i1) (.ref i2) (.ref i3) ∧ (∃ a b c, IsTupOf3 g TO a b c) ∧ g.IsTupleIter i1 l1 i ∧ g.IsTupleIter i2 l2 i ∧ g.IsTupleIter i3 l3 i) where
  mem := List.mem_cons_self ..
  obj := fun i g ⟨hz, hTI, ⟨x, y, u, hTO⟩, ⟨o1, a1, _, d1⟩, ⟨o2, a2, _, d2⟩, ⟨o3, a3, _, d3⟩⟩ c hc => by
    have hc' : c = zz ∨ c = TI ∨ c = TO ∨ c = i1 ∨ c = i2 ∨ c = i3 := by simpa using hc
    rcases hc' with z | z | z | z | z | z <;> rw [z]
    · exact ⟨_, hz, fun v q => nomatch q⟩
    · exact ⟨_, hTI, fun v q => nomatch q⟩
    · exact ⟨_, hTO, fun v q => nomatch q⟩
    · exact ⟨o1, a1, fun v q => by rw [d1] at q; cases q⟩
    · exact ⟨o2, a2, fun v q => by rw [d2] at q; cases q⟩
    · exact ⟨o3, a3, fun v q => by rw [d3] at q; cases q⟩
  keep := fun i g g' ⟨hz, hTI, ⟨x, y, u, hTO⟩, ⟨o1, a1, r1⟩, ⟨o2, a2, r2⟩, ⟨o3, a3, r3⟩⟩ k =>
    ⟨k zz (by simp) _ hz, k TI (by simp) _ hTI, ⟨x, y, u, k TO (by simp) _ hTO⟩, ⟨o1, k i1 (by simp) _ a1, r1⟩, ⟨o2, k i2 (by simp) _ a2, r2⟩, ⟨o3, k i3 (by simp) _ a3, r3⟩⟩
  item := by
    intro X hP hw hK hc i pins s σ H E I hf ⟨hz, hTI, ⟨x0, y0, u0, hTO⟩, h1, h2, h3⟩ ⟨xs, ys, zs, x, y, z, hqx, hqy, hqz, hx, hy, hzz⟩
    subst hP hw hK
    obtain ⟨its, rv, c1, _⟩ := I.tuple hqx
    obtain ⟨its2, rv2, c2, _⟩ := I.tuple hqy
    obtain ⟨its3, rv3, c3, _⟩ := I.tuple hqz
    obtain ⟨u, hu, ru⟩ := rv.get hx
    obtain ⟨u2, hu2, ru2⟩ := rv2.get hy
    obtain ⟨u3, hu3, ru3⟩ := rv3.get hzz
    have lz : zz < s.heap.objs.size := Heap.lt_size hz
    have hd : X.A.in1.handled = none := I.ok.hd hc
    have W := GoesN.zip3 (prog := X.prog) (w := X.w) (A := X.A) (elts := elts) (x1 := kk) (pos := tpos) S (Draws.tuple hd i1 l1 n1 its.toArray) (Draws.tuple hd i2 l2 n2 its2.toArray) (Draws.tuple hd i3 l3 n3 its3.toArray)
    have b1 := (List.getElem?_eq_some_iff.mp hu).1
    have b2 := (List.getElem?_eq_some_iff.mp hu2).1
    have b3 := (List.getElem?_eq_some_iff.mp hu3).1
    refine W.goes i s _ E (by simp only [List.size_toArray]; omega) ⟨hz, hTI, ⟨x0, y0, u0, hTO⟩, ⟨h1, c1⟩, ⟨h2, c2⟩, ⟨h3, c3⟩⟩ fun v h' tk hY st' hk htk => ?_
    obtain ⟨T, a, b, c, rfl, hge, ha, hb, hcc, hT⟩ := hY
    have ea : a = u := by
      have ha : its.toArray[i]? = some a := ha
      rw [List.getElem?_toArray, hu] at ha
      exact (Option.some.inj ha).symm
    have eb : b = u2 := by
      have hb : its2.toArray[i]? = some b := hb
      rw [List.getElem?_toArray, hu2] at hb
      exact (Option.some.inj hb).symm
    have ec : c = u3 := by
      have hcc : its3.toArray[i]? = some c := hcc
      rw [List.getElem?_toArray, hu3] at hcc
      exact (Option.some.inj hcc).symm
    subst ea eb ec
    have new : ObjOk X.prog X.w (upd H T (.tup [x, y, z])) h' T (.tup [x, y, z]) := ⟨by show 3 ≤ sizeLine; decide, [a, b, c], .cons ru (.cons ru2 (.cons ru3 .nil)), hT⟩
    have I1 : Inv X pins σ (upd H T (.tup [x, y, z])) { s with heap := h', toks := tk } :=
      I.turnedNew (ch := [zz, TI, TO, i1, i2, i3]) (fun c o hc z => hk c o (fun m => hc (by
        have m' : c = zz ∨ c = TO ∨ c = i1 ∨ c = i2 ∨ c = i3 := by simpa using m
        rcases m' with q | q | q | q | q <;> rw [q] <;> simp)) z) hf hge new
    obtain ⟨t1, t2, t3, ⟨t4, _⟩, ⟨t5, _⟩, ⟨t6, _⟩⟩ := st'
    refine ⟨.ref T, _, I1, rfl, ⟨T, x, y, z, rfl, I.hok.fresh hge, rfl, fun l hl => by rw [I.tuple_inj hl hqx]; exact hx, fun l hl => by rw [I.tuple_inj hl hqy]; exact hy, fun l hl => by rw [I.tuple_inj hl hqz]; exact hzz⟩, ⟨t1, t2, t3, t4, t5, t6⟩, fun c hc => ?_⟩
    have lt : c < s.heap.objs.size := by
      obtain ⟨o1, a1, _⟩ := h1
      obtain ⟨o2, a2, _⟩ := h2
      obtain ⟨o3, a3, _⟩ := h3
      have hc' : c = zz ∨ c = TI ∨ c = TO ∨ c = i1 ∨ c = i2 ∨ c = i3 := by simpa using hc
      rcases hc' with z | z | z | z | z | z <;> rw [z]
      · exact lz
      · exact Heap.lt_size hTI
      · exact Heap.lt_size hTO
      · exact Heap.lt_size a1
      · exact Heap.lt_size a2
      · exact Heap.lt_size a3
    rw [upd_ne (Nat.ne_of_lt (Nat.lt_of_lt_of_le lt hge))]
    exact (hf c hc).1
  done := by
    intro X hP hw hK hc i pins s σ H E I hf ⟨hz, hTI, ⟨x0, y0, u0, hTO⟩, h1, h2, h3⟩ ⟨xs, ys, zs, hqx, hqy, hqz, e1, e2, e3⟩
    subst hP hw hK
    obtain ⟨its, rv, c1, _⟩ := I.tuple hqx
    obtain ⟨its2, rv2, c2, _⟩ := I.tuple hqy
    obtain ⟨its3, rv3, c3, _⟩ := I.tuple hqz
    have hd : X.A.in1.handled = none := I.ok.hd hc
    have W := GoesN.zip3 (prog := X.prog) (w := X.w) (A := X.A) (elts := elts) (x1 := kk) (pos := tpos) S (Draws.tuple hd i1 l1 n1 its.toArray) (Draws.tuple hd i2 l2 n2 its2.toArray) (Draws.tuple hd i3 l3 n3 its3.toArray)
    have m1 := rv.length
    have m2 := rv2.length
    have m3 := rv3.length
    have hn : min (min its.toArray.size its2.toArray.size) its3.toArray.size = i := by simp only [List.size_toArray]; omega
    rw [hn] at W
    exact W.stops s _ E ⟨hz, hTI, ⟨x0, y0, u0, hTO⟩, ⟨h1, c1⟩, ⟨h2, c2⟩, ⟨h3, c3⟩⟩ fun h' tk hk htk => I.turnedL (ch := [zz, TI, TO, i1, i2, i3]) (fun c o hc z => hk c o (fun m => hc (by
        have m' : c = zz ∨ c = TO ∨ c = i1 ∨ c = i2 ∨ c = i3 := by simpa using m
        rcases m' with q | q | q | q | q <;> rw [q] <;> simp)) z) hf
  self := fun A i s Q E st h => wpAny_pyIter_zip st.1 h
def iZip3T (K : PySem.W.Frag) (ta : TA) : TI := fun σ H R => ta σ H fun vs H1 => ∃ a b c xs ys zs, vs = [.ref a, .ref b, .ref c] ∧ SqT K H1 a xs ∧ SqT K H1 b ys ∧ SqT K H1 c zs ∧ R (ItZ3 (fun H xs => SqT K H a xs) (fun H ys => SqT K H b ys) (fun H zs => SqT K H c zs)) H1
theorem pi_zip3T {X : Cx} {e e2 e3 : Expr} {ta : TA} {p pos tpos : Pos} {elts : List Expr} {kk : Nat} (hg : Gl X "zip") (hm : X.mg "zip" = none) (ha : PA X [e, e2, e3] ta)
    (hs : starEach [e, e2, e3] X.env = (false, eval e X.env) :: starEach [e2, e3] X.env := by rfl) (hpl : (backTo pos (starEach [e2, e3] X.env)).any (·.1) = false := by rfl) :
    PI X (.Tuple elts kk tpos) (.Call (.Name "zip" p) [e, e2, e3] [] pos) (iZip3T X.K ta) := by
  refine ⟨fun pins s σ H R I h => Call_ (ld_blt I hg hm PyProof.Rows.boot_zip (PyProof.Rows.callWith_type1 (thn (ha.run pos pins s σ H _ I h) fun us s1 ⟨vs, H1, I1, r1, a, b, c, xs, ys, zs, ex, hx, hy, hz, q⟩ => ?_) hs hpl))⟩
  subst ex
  cases r1 with
  | cons r rr =>
    cases rr with
    | cons r' rr =>
      cases rr with
      | cons r'' rr =>
        cases rr
        cases r
        cases r'
        cases r''
        obtain ⟨its, rv, p1, _⟩ := I1.tuple hx
        obtain ⟨its2, rv2, p2, _⟩ := I1.tuple hy
        obtain ⟨its3, rv3, p3, _⟩ := I1.tuple hz
        obtain ⟨o1, ho1, _⟩ := id p1
        obtain ⟨o2, ho2, _⟩ := id p2
        obtain ⟨o3, ho3, _⟩ := id p3
        have la := Heap.lt_size ho1
        have lb := Heap.lt_size ho2
        have lc := Heap.lt_size ho3
        refine zip_begins3 (begins_tuple a its.toArray) (begins_tuple b its2.toArray) (begins_tuple c its3.toArray) p1 p2 p3 fun g' hz hTI hTO h1 h2 h3 hsz hk => wpAny_pyIter_zip hz ?_
        have I2 : Inv X pins σ H1 { s1 with heap := g' } := I1.kept (t' := s1.toks) hk
        have one : ∀ {x N : Nat}, x < N → ∀ b ∈ [x], b < N := fun hx b hb => by rw [List.mem_singleton.mp hb]; exact hx
        refine ⟨s1.heap.objs.size + 5, [s1.heap.objs.size + 5, s1.heap.objs.size + 3, s1.heap.objs.size + 4, s1.heap.objs.size, s1.heap.objs.size + 1, s1.heap.objs.size + 2], _, _, H1, rfl, I2,
          turn_Z3T (zip_sep3 (one la) (one lb) (one lc)) (Nat.ne_of_lt la) (Nat.ne_of_lt (Nat.lt_succ_of_lt lb)) (Nat.ne_of_lt (Nat.lt_succ_of_lt (Nat.lt_succ_of_lt lc))), ⟨hz, hTI, ⟨_, _, _, hTO⟩, ⟨_, h1, rfl, rfl⟩, ⟨_, h2, rfl, rfl⟩, ⟨_, h3, rfl, rfl⟩⟩, fun c hc => ?_, q⟩
        have le : s1.heap.objs.size ≤ c := by
          have hc' : c = s1.heap.objs.size + 5 ∨ c = s1.heap.objs.size + 3 ∨ c = s1.heap.objs.size + 4 ∨ c = s1.heap.objs.size ∨ c = s1.heap.objs.size + 1 ∨ c = s1.heap.objs.size + 2 := by simpa using hc
          rcases hc' with z | z | z | z | z | z <;> rw [z] <;> first | exact Nat.le_add_right _ _ | exact Nat.le_refl _
        exact I1.fpOk le (I1.hok.fresh le)
end Td
set_option maxHeartbeats 4000000
namespace Td
open PySem PySem.Spec PyProof.Rows L2
/-! ### tuple(reversed(a tuple)) -/
theorem hint_rt : typeLookup (.type "reversed") "__length_hint__" = pure (some (.builtin "reversed.__length_hint__")) := by rfl
theorem entry_rh : entryFor table "reversed.__length_hint__" = some Builtin.«reversed.__length_hint__» := entryFor_of_tree rfl
theorem args_rh (a : Value) : argsOk "reversed.__length_hint__" { pos := [a] } := by
  unfold argsOk
  rfl
theorem slot_rh : Slot "reversed" "__length_hint__" "reversed.__length_hint__" := Slot.of (owner := "reversed") (n := "__length_hint__") rfl (by decide +kernel) (by decide +kernel) (by decide +kernel) (Or.inr (by decide +kernel)) (by rw [isSubtype_type]; rfl) (by decide +kernel)
theorem nolen_rt : typeLookup (.type "reversed") "__len__" = pure none := by rfl
section
variable {prog : Program} {w : World} {A : Around} {E : Value → Shared → Prop} {s : Shared}
theorem tup_keep {h h' : Heap} {t : Addr} {items : Array Value} (x : IsTup h t items) (k : ∀ o, h.get? t = some o → h'.get? t = some o) : IsTup h' t items := by
  obtain ⟨o, ho, r⟩ := x
  exact ⟨o, k o ho, r⟩
theorem rt_walks (hh : A.handled = none) (it t : Addr) (hne : t ≠ it) (items : Array Value) (hn : items.size ≤ sizeLine) :
    Walks prog w A it [it, t] [it] items.size (fun i v => items[items.size - 1 - i]? = some v) (fun i h => i ≤ items.size ∧ RT.IsRt h it t ((items.size : Int) - 1 - (i : Nat)) ∧ IsTup h t items) where
  sub := fun b hb => by
    rw [List.mem_singleton.mp hb]
    exact List.mem_cons_self
  frame := fun i h h' ⟨h1, h2, h3⟩ k => ⟨h1, h2.at fun o e => k it List.mem_cons_self o e, tup_keep h3 fun o e => k t (List.mem_cons_of_mem _ List.mem_cons_self) o e⟩
  item := fun i s Q E hi ⟨h1, h2, h3⟩ k => by
    have e : (items.size : Int) - 1 - (i : Nat) = ((items.size - 1 - i : Nat) : Int) := by omega
    rw [e] at h2
    have hx : items[items.size - 1 - i]? = some (items[items.size - 1 - i]'(by omega)) := Array.getElem?_eq_getElem (by omega)
    refine RT.next_rt_item h2 h3 hx hn fun h' hr sb => k _ h' _ hx ⟨by omega, ?_, tup_keep h3 fun o e => (sb.2 t hne).trans e⟩ fun b o hb e => (sb.2 b fun z => hb (List.mem_singleton.mpr z)).trans e
    have e2 : (items.size : Int) - 1 - ((i + 1 : Nat) : Int) = ((items.size - 1 - i : Nat) : Int) - 1 := by omega
    rw [e2]
    exact hr
  done := fun s Q E ⟨h1, h2, h3⟩ k => by
    have e : (items.size : Int) - 1 - (items.size : Nat) = -1 := by omega
    rw [e] at h2
    exact RT.next_rt_end hh h2 fun h' ex => k h' _ fun b o hb e => ex b o (fun z => hb (List.mem_singleton.mpr z)) e
  self := fun i s Q E ⟨h1, h2, h3⟩ q => RT.iter_rt h2 q
theorem call_rh {it t : Addr} {items : Array Value} {Q : Value → Shared → Prop} (hit : RT.IsRt s.heap it t ((items.size : Int) - 1)) (ht : IsTup s.heap t items) (hn : items.size ≤ sizeLine)
    (q : ∀ u tk, Q (.int (items.size : Int) u) { s with toks := tk }) : wpAny (model prog w) A (call (.builtin "reversed.__length_hint__") [.ref it]) Q E s := by
  refine wpAny_call_entry slot_rh hit.typeIs entry_rh ?_ (args_rh _)
  obtain ⟨o, ho, hc, hd⟩ := hit
  have hn63 : (items.size : Int) < 2 ^ 63 := by
    have := L2.line63
    omega
  have ln : ∀ {A : Around} {E Q : Value → Shared → Prop}, Q (.int items.size (s.toks + 1)) { s with toks := s.toks + 1 + 1 } → wpAny (model prog w) A (call (.builtin "len") [.ref t]) Q E s := fun k => PyProof.Rows.len_tuple ht hn63 k
  wp_walk using ln
  rw [hd]
  refine wpAny_pure (wpAny_pure ?_)
  refine wpAny_ite_false rfl ?_
  refine wpAny_bind (ln ?_)
  wp_walk
  rw [hd]
  refine wpAny_pure (wpAny_pure ?_)
  have h3 : ¬ ((items.size : Int) < (items.size : Int) - 1 + 1) := by omega
  refine wpAny_ite_false (decide_eq_false h3) ?_
  rw [show (items.size : Int) - 1 + 1 = (items.size : Int) by omega]
  wp_walk
  exact ⟨_, rfl, q _ _⟩
theorem collect_rt {it t : Addr} {items : Array Value} {Q : List Value → Shared → Prop} (hh : A.handled = none) (hit : RT.IsRt s.heap it t ((items.size : Int) - 1)) (ht : IsTup s.heap t items) (hne : t ≠ it) (hn : items.size ≤ sizeLine)
    (hQ : ∀ (h' : Heap) (tk : Nat) (acc : Array Value), (∀ (b : Addr) (o : Obj), b ≠ it → s.heap.get? b = some o → h'.get? b = some o) → ItemsOf (fun i v => items[items.size - 1 - i]? = some v) acc items.size → Q acc.toList { s with heap := h', toks := tk }) :
    wpAny (model prog w) A (collect (.ref it)) Q E s := by
  have W := (rt_walks (prog := prog) (w := w) (A := A.in1) hh it t hne items hn).toS
  obtain ⟨oi, hoi, _⟩ := id hit
  obtain ⟨ot, hot, _⟩ := id ht
  have hSi : s.heap.objs.size ≠ it := Nat.ne_of_gt (Heap.lt_size hoi)
  have hSt : s.heap.objs.size ≠ t := Nat.ne_of_gt (Heap.lt_size hot)
  have hSf : ¬ s.heap.objs.size ∈ [it, t] := by simp [hSi, hSt]
  refine wpAny_bind (wpAny_runValue (codeAny_builtin F.entry_proto_collect ?_))
  rw [Around.under_plainId F.plain_proto_collect]
  refine wpAny_bind (wpAny_newObj_type (wpAny_pure ⟨plainId_quiet F.plain_list_iadd _, codeAny_builtin F.entry_list_iadd ?_⟩) (by show 0 ≤ sizeLine; decide))
  rw [Around.under_plainId F.plain_list_iadd]
  have hS1 : (s.heap.push { cls := .type "list", data := .seq #[] }).get? s.heap.objs.size = some { cls := .type "list", data := .seq #[] } := Heap.get?_push_size _ rfl
  have hit1 : RT.IsRt (s.heap.push { cls := .type "list", data := .seq #[] }) it t ((items.size : Int) - 1) := hit.at fun o e => Heap.get?_push_of_some _ e
  have ht1 : IsTup (s.heap.push { cls := .type "list", data := .seq #[] }) t items := tup_keep ht fun o e => Heap.get?_push_of_some _ e
  have hT : Shared.TypeIs { s with heap := s.heap.push { cls := .type "list", data := .seq #[] } } (.ref it) "reversed" := hit1.typeIs
  have h1 : (s.heap.objs.size == it) = false := beq_eq_false_iff_ne.mpr hSi
  wp_walk using RT.iter_rt hit1, wpAny_specialOf hT nolen_rt, wpAny_specialOf hT hint_rt, wpAny_typeOf hT, wpAny_isInstance hT
  have h2 : (Builtin.List.listSameRef (Value.ref s.heap.objs.size) (Value.ref it) || Value.type "reversed" == Value.type "list" || Value.type "reversed" == Value.type "tuple") = false := by
    have h3 : Builtin.List.listSameRef (Value.ref s.heap.objs.size) (Value.ref it) = false := h1
    rw [h3]
    decide
  rw [h2]
  rw [if_neg (by decide)]
  wp_walk using RT.iter_rt hit1, wpAny_specialOf hT nolen_rt
  refine wpAny_of_eq hint_rt ?_
  have sI : splitId "reversed.__length_hint__" = some ("reversed", "__length_hint__") := by decide +kernel
  dsimp only
  rw [sI]
  dsimp only
  have hsub : isSubtype (.type "reversed") (.type "reversed") = pure true := by rw [isSubtype_type]; rfl
  refine wpAny_bind (wpAny_isInstance hT hsub ?_)
  rw [if_neg (by decide)]
  rw [if_neg (by decide)]
  refine wpAny_bind (wpAny_rule ?_)
  refine wpAny_bind (wpAny_of_eq (slot_rh.bind _) ?_)
  refine wpAny_bind (wpAny_attempt (call_rh hit1 ht1 hn fun u tk => ?_))
  have f1 : Builtin.List.listFitsIndex (items.size : Int) = true := by
    have := L2.line63
    unfold Builtin.List.listFitsIndex
    rw [decide_eq_true (by omega), decide_eq_true (by omega)]
    rfl
  have f2 : Builtin.List.listTooLong (items.size : Int).toNat = false := by
    unfold Builtin.List.listTooLong
    exact decide_eq_false (by rw [Int.toNat_natCast]; omega)
  have f3 : ¬ ((items.size : Int) < 0) := by omega
  dsimp only
  refine wpAny_bind ?_
  refine wpAny_pure ?_
  dsimp only
  rw [f1]
  refine wpAny_ite_false rfl ?_
  refine wpAny_ite_false (decide_eq_false f3) ?_
  rw [f2]
  refine wpAny_ite_false rfl (wpAny_pure ?_)
  have fin : ∀ (c : Nat) (h2 : Heap) (tk2 : Nat), h2.get? s.heap.objs.size = some { cls := .type "list", data := .seq #[] c } → (∀ b o, b ≠ s.heap.objs.size → (s.heap.push { cls := .type "list", data := .seq #[] }).get? b = some o → h2.get? b = some o) →
      codeAny (model prog w) A (.builtin "list.extend.loop" { pos := [.ref s.heap.objs.size, .ref it, .ref s.heap.objs.size] }) (fun r s' => match r with
        | .ok (.ret v) => wpAny (model prog w) A (match v with
          | .ref a => do
            let o ← load a
            match o.data with
            | .seq xs epoch => pure xs.toList
            | _ => unsupported "internal:collect"
          | _ => unsupported "internal:collect") Q E s'
        | .ok _ => False
        | .error e => E e s') { s with heap := h2, toks := tk2 } := fun c h2 tk2 hc k2 => by
    have hit2 : RT.IsRt h2 it t ((items.size : Int) - 1 - (0 : Nat)) := by
      rw [show (items.size : Int) - 1 - ((0 : Nat) : Int) = (items.size : Int) - 1 by omega]
      exact hit1.at fun o e => k2 it o (fun z => hSi z.symm) e
    refine codeAny_extend_loopS W hn s.heap.objs.size hSf (.ref s.heap.objs.size) items.size 0 { s with heap := h2, toks := tk2 } #[] c rfl (Nat.zero_le _) ⟨Nat.zero_le _, hit2, tup_keep ht1 fun o e => k2 t o (fun z => hSt z.symm) e⟩ hc (ItemsOf.nil _) fun s' acc' c' hm hS' hacc => ?_
    refine wpAny_bind (wpAny_load hS' (wpAny_pure ?_))
    rw [Moved.eq_with hm]
    refine hQ s'.heap s'.toks acc' (fun b o hb e => ?_) hacc
    refine hm.heap b o (fun hmem => ?_) (k2 b o (fun z => by rw [z] at e; exact absurd (Heap.lt_size e) (Nat.lt_irrefl _)) (Heap.get?_push_of_some _ e))
    rcases List.mem_cons.mp hmem with z | z
    · rw [z] at e
      exact absurd (Heap.lt_size e) (Nat.lt_irrefl _)
    · exact hb (List.mem_singleton.mp z)
  refine wp_if ?_ ?_
  · refine wpAny_bind (wpAny_rule ?_)
    have z0 : (0 : Nat) ≤ sizeLine := Nat.zero_le _
    have z1 : (1 : Nat) ≤ sizeLine := by decide
    have u1 := PyProof.Rows.get?_update_seq (c := "list") (xs := #[]) (n := 0) hS1 (fun x => x.push .none)
    have u2 := PyProof.Rows.get?_update_seq u1 (fun x => x.pop)
    refine wpAny_bind (wpAny_bind (wpAny_updateSeq hS1 rfl (wpAny_updateSeq u1 rfl ?_ z1 (Nat.le_succ_of_le z0)) z0 (Nat.le_succ_of_le z1)))
    exact wpAny_pure ⟨plainId_quiet F.plain_extend_loop _, fin _ _ _ u2 fun b o hb e => Heap.get?_update_of_ne _ hb.symm (Heap.get?_update_of_ne _ hb.symm e)⟩
  · exact wpAny_pure ⟨plainId_quiet F.plain_extend_loop _, fin _ _ _ hS1 fun b o _ e => e⟩
theorem code_tuple_rt {it t : Addr} {items : Array Value} {Q₁ : Value → Shared → Prop} (hh : A.handled = none) (hit : RT.IsRt s.heap it t ((items.size : Int) - 1)) (ht : IsTup s.heap t items) (hne : t ≠ it) (hn : items.size ≤ sizeLine)
    (h : ∀ (h' : Heap) (tk : Nat) (acc : Array Value), (∀ (b : Addr) (o : Obj), b ≠ it → s.heap.get? b = some o → h'.get? b = some o) → ItemsOf (fun i v => items[items.size - 1 - i]? = some v) acc items.size →
      Q₁ (.ref h'.objs.size) { s with heap := h'.push { cls := .type "tuple", data := .seq acc }, toks := tk }) :
    codeAny (model prog w) A (.call (.builtin "tuple.__new__") { pos := [.type "tuple", .ref it] }) (wants Q₁ E) s := by
  refine codeAny_of_tree ?_
  refine wpAny_bind (wpAny_of_eq (F.newCall_tuple_1 _) (wpAny_pure ⟨plainId_quiet F.plain_tuple_new _, codeAny_builtin F.entry_tuple_new ?_⟩))
  rw [Around.under_plainId F.plain_tuple_new]
  have hsub := sub_tuple_self
  have hinit := init_tuple_lookup
  have hmh := madeHere_tuple
  have hTI := hit.typeIs
  have cr : ∀ {E : Value → Shared → Prop} {Q : List Value → Shared → Prop}, (∀ (h' : Heap) (tk : Nat) (acc : Array Value), (∀ (b : Addr) (o : Obj), b ≠ it → s.heap.get? b = some o → h'.get? b = some o) → ItemsOf (fun i v => items[items.size - 1 - i]? = some v) acc items.size → Q acc.toList { s with heap := h', toks := tk }) → wpAny (model prog w) A.in1 (collect (.ref it)) Q E s := fun k => collect_rt (A := A.in1) hh hit ht hne hn k
  wp_walk using wpAny_of_eq hsub, wpAny_of_eq hinit, wpAny_of_eq hmh, wpAny_typeOf hTI, cr
  intro h' tk acc hk hacc
  have hz : acc.size ≤ sizeLine := by
    have := hacc.1
    omega
  wp_walk
  exact h h' tk acc hk hacc
theorem call_tuple_rt {it t : Addr} {items : Array Value} {Q : Value → Shared → Prop} (hh : A.handled = none) (hit : RT.IsRt s.heap it t ((items.size : Int) - 1)) (ht : IsTup s.heap t items) (hne : t ≠ it) (hn : items.size ≤ sizeLine)
    (hQ : ∀ (h' : Heap) (tk : Nat) (acc : Array Value), (∀ (b : Addr) (o : Obj), b ≠ it → s.heap.get? b = some o → h'.get? b = some o) → ItemsOf (fun i v => items[items.size - 1 - i]? = some v) acc items.size →
      Q (.ref h'.objs.size) { s with heap := h'.push { cls := .type "tuple", data := .seq acc }, toks := tk }) :
    wpAny (model prog w) A (call (.type "tuple") [.ref it]) Q E s :=
  callType_codes (Q₁ := fun obj s₁ => s₁.TypeIs obj "tuple" ∧ Q obj s₁) F.called_tuple (F.typeCall_tuple_1 (.ref it)) F.entry_object_init
    (code_tuple_rt hh hit ht hne hn fun h' tk acc hk hacc => ⟨⟨{ cls := .type "tuple", data := .seq acc }, Heap.get?_push_size h' rfl, rfl⟩, hQ h' tk acc hk hacc⟩)
    fun obj s₁ h₁ => ⟨h₁.1, F.args_object_init_2 obj (.ref it), object_init_meets F.called_tuple.init.lookup F.called_tuple.made (by decide) prog w A.in1 (wants (fun r s₂ => r = .none ∧ Q obj s₂) E) s₁ ⟨h₁.1, rfl, h₁.2⟩⟩
end
/-- tuple(reversed(xs)) of a tuple -/
def tTupRevT (K : PySem.W.Frag) (te : TE) : TE := fun σ H Q => te σ H fun v H1 => ∃ (a : Addr) (xs : List V), v = .ref a ∧ SqT K H1 a xs ∧ ∀ q, H1 q = none → Q (.ref q) (upd H1 q (.tup xs.reverse))
theorem pe_tupRevT {X : Cx} {e : Expr} {te : TE} {p p2 pos pos2 : Pos} (hc : X.calm = true) (hg : Gl X "tuple") (hm : X.mg "tuple" = none) (hg2 : Gl X "reversed") (hm2 : X.mg "reversed" = none) (he : PE X e te)
    (hs : starEach [e] X.env = (false, eval e X.env) :: starEach [] X.env := by rfl) (hs2 : starEach [.Call (.Name "reversed" p2) [e] [] pos2] X.env = (false, eval (.Call (.Name "reversed" p2) [e] [] pos2) X.env) :: starEach [] X.env := by rfl) :
    PE X (.Call (.Name "tuple" p) [.Call (.Name "reversed" p2) [e] [] pos2] [] pos) (tTupRevT X.K te) := by
  refine ⟨fun pins s σ H Q I h => Call_ (ld_blt I hg hm PyProof.Rows.boot_tuple (PyProof.Rows.callWith_type1 (PyProof.Rows.args_cons (Call_ (ld_blt I hg2 hm2 PyProof.Rows.boot_reversed (PyProof.Rows.callWith_type1 (PyProof.Rows.args_cons
    (thn (he.run pins s σ H _ I h) fun u s1 ⟨v, H1, I1, r1, a, xs, ev, hq, q⟩ => PyProof.Rows.args_nil ?_) hs) hs rfl))) hs2) hs2 rfl))⟩
  subst ev
  cases r1
  obtain ⟨its, rv, p', hz⟩ := I1.tuple hq
  have hl : its.toArray.size = xs.length := by rw [List.size_toArray, rv.length]
  have h63 : (its.toArray.size : Int) < 2 ^ 63 := by
    have := L2.line63
    omega
  refine RT.call_reversed_tup p' (fun A E Q k => PyProof.Rows.len_tuple p' h63 k) (PyProof.Rows.args_nil ?_)
  have k0 : ∀ b o, s1.heap.get? b = some o → (s1.heap.push (RT.rtObj a ((its.toArray.size : Int) - 1))).get? b = some o := fun b o e => Heap.get?_push_of_some _ e
  have I2 := I1.kept (t' := s1.toks + 1 + 1) k0
  obtain ⟨f0, f1, f2, f3, f4, f5⟩ := I1.fpOk (Nat.le_refl s1.heap.objs.size) (I1.hok.fresh (Nat.le_refl s1.heap.objs.size))
  obtain ⟨oa, hoa, _⟩ := id p'
  have hne : a ≠ s1.heap.objs.size := Nat.ne_of_lt (Heap.lt_size hoa)
  refine call_tuple_rt (I1.ok.hd hc) ⟨_, Heap.get?_push_size _ rfl, rfl, rfl⟩ (tup_keep p' fun o e => k0 _ _ e) hne (by omega) fun h' tk acc hk hi => ?_
  have I3 : L2.Inv X pins σ H1 { s1 with heap := h', toks := tk } := L2.Inv.turned (s := { s1 with heap := s1.heap.push (RT.rtObj a ((its.toArray.size : Int) - 1)), toks := s1.toks + 1 + 1 }) (h' := h') (t' := tk) I2 (fun b o hb e => hk b o hb e) f0 f1 f3 f4 f5
  refine ⟨.ref h'.objs.size, upd H1 h'.objs.size (.tup xs.reverse), L2.Inv.laid (s := { s1 with heap := h', toks := tk }) (t' := tk) I3 (fun c o e => Heap.get?_push_of_some { cls := .type "tuple", data := .seq acc } e) (Nat.le_refl _) ?_, rfl, q _ (I3.hok.fresh (Nat.le_refl _))⟩
  exact ⟨by rw [List.length_reverse]; exact hz, acc.toList, RT.vals_rev rv hi, PyProof.Rows.IsTup.new h' acc⟩
theorem pe_alt {X : Cx} {e : Expr} {t1 t2 : TE} (h1 : PE X e t1) (h2 : PE X e t2) : PE X e (fun σ H Q => t1 σ H Q ∨ t2 σ H Q) := ⟨fun pins s σ H Q I h => h.elim (h1.run pins s σ H Q I) (h2.run pins s σ H Q I)⟩
def tTupRevQ (K : PySem.W.Frag) (te : TE) : TE := fun σ H Q => RT.tTupRev K te σ H Q ∨ tTupRevT K te σ H Q
theorem pe_tupRevQ {X : Cx} {e : Expr} {te : TE} {p p2 pos pos2 : Pos} (hc : X.calm = true) (hg : Gl X "tuple") (hm : X.mg "tuple" = none) (hg2 : Gl X "reversed") (hm2 : X.mg "reversed" = none) (he : PE X e te)
    (hs : starEach [e] X.env = (false, eval e X.env) :: starEach [] X.env := by rfl) (hs2 : starEach [.Call (.Name "reversed" p2) [e] [] pos2] X.env = (false, eval (.Call (.Name "reversed" p2) [e] [] pos2) X.env) :: starEach [] X.env := by rfl) :
    PE X (.Call (.Name "tuple" p) [.Call (.Name "reversed" p2) [e] [] pos2] [] pos) (tTupRevQ X.K te) :=
  pe_alt (RT.pe_tupRev hc hg hm hg2 hm2 he hs hs2) (pe_tupRevT hc hg hm hg2 hm2 he hs hs2)
end Td
set_option maxHeartbeats 4000000
namespace Td
open PySem PySem.Spec PyProof.Rows L2 LamX NdefX
/-! ### little things -/
theorem Fr.back {T : List (Addr × Str)} {H H1 : Hp} {p : Addr} (n : Nx T H H1) (f : Fr H1 p) : Fr H p := fun o e => Classical.byContradiction fun z => z (f o (n.e p o e fun ps y => z ⟨ps, y⟩))
theorem plc_get {ns : List Str} {ρ : Str → Str} {j : Nat} {w r : Str} (h : (plc ns ρ)[j]? = some [w, r]) : ns[j]? = some w ∧ r = ρ w := by
  unfold plc at h
  rw [List.getElem?_map] at h
  cases z : ns[j]? with
  | none => rw [z] at h; cases h
  | some n =>
    rw [z] at h
    cases h
    exact ⟨rfl, rfl⟩
theorem plc_two (ns : List Str) (ρ : Str → Str) : ∀ p ∈ plc ns ρ, ∃ w r : Str, p = [w, r] := fun p hp => by
  obtain ⟨n, _, rfl⟩ := List.mem_map.mp hp
  exact ⟨_, _, rfl⟩
theorem plc_room {rooms : List Str} {rows : List (List Str)} {faces : List Str} {ns : List Str} {ρ : Str → Str} (ht : StV rooms rows faces (plc ns ρ)) {w : Str} (h : w ∈ ns) : ρ w ∈ rooms := by
  obtain ⟨w', r, e, _, hr⟩ := ht.pl [w, ρ w] (List.mem_map.mpr ⟨w, h, rfl⟩)
  cases e
  exact hr
theorem not_head {ns : List Str} {ρ : Str → Str} {w : Str} (h : w ∈ ns) : ¬ w ∉ (plc ns ρ).map hd0 := by rw [plc_heads]; exact fun z => z h
theorem DiF.un {H : Hp} {D : Addr} {m : List (Str × Addr)} {fd : Rs} (d : DiF H D m fd) : DiP (upd H D (.dK (kvOf m))) D m fd := ⟨upd_same, d.kk, fun i e p h1 h2 => by
  have z := d.pa i e p h1 h2
  obtain ⟨o, ho⟩ := d.at_
  rw [upd_ne (fun q => by rw [q, ho] at z; cases z)]
  exact z⟩
theorem DiF.get0 {H : Hp} {D : Addr} {m : List (Str × Addr)} {fd : Rs} (d : DiF H D m fd) (x : Str) : DGet H D (.str x) (valV (kvOf m) (Sum.inr x)) := .inl ⟨kvOf m, Sum.inr x, d.rd, rfl, rfl⟩
/-- a list of tuples that begin with numbers -/
theorem min_num {K : PySem.W.Frag} {H : Hp} {B : Addr} {as : List Addr} {ds : List PyData} {κ : Nat → Int} {tl : Nat → List PyData} {Q : VK} (hB : H B = some (.lst (as.map V.ref))) (len : as.length = ds.length) (ne : ds ≠ []) (dp : ∀ (i : Nat) (a : Addr) (d : PyData), as[i]? = some a → ds[i]? = some d → Dp K H (.ref a) d)
    (al : PySem.W.AllAlike ds) (dpt : ∀ d ∈ ds, d.depth ≤ 32) (hk : ∀ (i : Nat) (d : PyData), ds[i]? = some d → d = PyData.tuple (.int (κ i) :: tl i))
    (q : ∀ (j : Nat) (a : Addr), as[j]? = some a → (∀ i : Nat, i < ds.length → κ j ≤ κ i) → Q (.ref a) H) : rMinB K [.ref B] H Q := by
  have e1 : ((as.zip ds).map fun z => (V.ref z.1, z.2)).map (·.1) = as.map V.ref := by
    rw [List.map_map, show ((fun x : V × PyData => x.1) ∘ fun z : Addr × PyData => (V.ref z.1, z.2)) = V.ref ∘ Prod.fst from rfl, ← List.map_map, List.map_fst_zip (Nat.le_of_eq len)]
  have e2 : ((as.zip ds).map fun z => (V.ref z.1, z.2)).map (·.2) = ds := by
    rw [List.map_map, show ((fun x : V × PyData => x.2) ∘ fun z : Addr × PyData => (V.ref z.1, z.2)) = Prod.snd from rfl, List.map_snd_zip (Nat.le_of_eq len.symm)]
  have at_ : ∀ (i : Nat) (c : V × PyData), ((as.zip ds).map fun z => (V.ref z.1, z.2))[i]? = some c → ∃ a, as[i]? = some a ∧ ds[i]? = some c.2 ∧ c.1 = .ref a := fun i c h => by
    rw [List.getElem?_map] at h
    cases z : (as.zip ds)[i]? with
    | none => rw [z] at h; cases h
    | some y =>
      rw [z] at h
      cases h
      obtain ⟨h1, h2⟩ := List.getElem?_zip_eq_some.mp z
      exact ⟨_, h1, h2, rfl⟩
  have ln : ((as.zip ds).map fun z => (V.ref z.1, z.2)).length = ds.length := by
    rw [List.length_map, List.length_zip]
    omega
  refine ⟨B, (as.zip ds).map fun z => (V.ref z.1, z.2), κ, tl, rfl, fun z => ne ?_, by rw [e1]; exact SqL.of hB, fun c hc => ?_, by rw [e2]; exact al, fun c hc => ?_, fun i c h => ?_, fun j c h hm => ?_⟩
  · rw [← e2, z]
    rfl
  · obtain ⟨i, hi⟩ := List.mem_iff_getElem?.mp hc
    obtain ⟨a, h1, h2, h3⟩ := at_ i c hi
    rw [h3]
    exact dp i a _ h1 h2
  · obtain ⟨i, hi⟩ := List.mem_iff_getElem?.mp hc
    obtain ⟨a, h1, h2, h3⟩ := at_ i c hi
    exact dpt _ (List.mem_of_getElem? h2)
  · obtain ⟨a, h1, h2, h3⟩ := at_ i c h
    exact hk i _ h2
  · obtain ⟨a, h1, h2, h3⟩ := at_ j c h
    rw [h3]
    exact q j a h1 fun i hi => hm i (by rw [ln]; exact hi)
/-! ### the promises -/
structure MeetR (rows : List (List Str)) (faces : List Str) (r s u v : Str) (row : List Deed) : Prop where
  ex : ∃ (p q : List Str) (x : Str), row = (p.map fun d => (u, d)) ++ (q.map fun d => (v, d)) ∧ p.Nodup ∧ q.Nodup ∧ (∀ d ∈ p, d ∉ q) ∧ Wf (outs rows faces) r p x ∧ Wf (outs rows faces) s q x ∧ p.length ≤ 8 ∧ q.length ≤ 8
def spChF (T : List (Addr × Str)) : Sp := fun vs H Q _ => ∃ (h st : Addr) (w : Str) (rooms : List Str) (rows : List (List Str)) (faces : List Str) (places : List (List Str)), vs = [.ref h, .ref st, .str w] ∧ HSy H h st rooms rows faces places ∧ w ∈ places.map hd0 ∧ Tabs T H ∧
  ∀ E n fd H', Nx T H H' → Fr H E → DiP H' E n fd → Spd (nbr (rsOf rooms rows faces places)) w fd → Q (.ref E) H'
def spMeet (T : List (Addr × Str)) : Sp := fun vs H Q _ => ∃ (h st : Addr) (u v : Str) (rooms : List Str) (rows : List (List Str)) (faces ns : List Str) (ρ : Str → Str), vs = [.ref h, .ref st, .str u, .str v] ∧ HSy H h st rooms rows faces (plc ns ρ) ∧ u ∈ ns ∧ v ∈ ns ∧ Tabs T H ∧
  (¬ MtR rooms rows faces (ρ u) (ρ v) → ∀ H', Nx T H H' → Q .non H') ∧ ∀ p row H', MtR rooms rows faces (ρ u) (ρ v) → Nx T H H' → RowT H' p row → MeetR rows faces (ρ u) (ρ v) u v row → Q (.ref p) H'
def spSwapR (T : List (Addr × Str)) : Sp := fun vs H Q _ => ∃ (h st : Addr) (u v : Str) (rooms : List Str) (rows : List (List Str)) (faces ns : List Str) (ρ : Str → Str), vs = [.ref h, .ref st, .str u, .str v] ∧ HSy H h st rooms rows faces (plc ns ρ) ∧ u ∈ ns ∧ v ∈ ns ∧ u ≠ v ∧ Tabs T H ∧ MtR rooms rows faces (ρ u) (ρ v) ∧
  ∀ p row H', Nx T H H' → RowT H' p row → goM rows (faces, plc ns ρ) row = some (faces, plc ns (swp ρ u v)) → row.length ≤ 32 → Q (.ref p) H'
def spExR (T : List (Addr × Str)) : Sp := fun vs H Q _ => ∃ (h st : Addr) (u v : Str) (rooms : List Str) (rows : List (List Str)) (faces ns : List Str) (ρ : Str → Str), vs = [.ref h, .ref st, .str u, .str v] ∧ HSy H h st rooms rows faces (plc ns ρ) ∧ u ∈ ns ∧ v ∈ ns ∧ u ≠ v ∧ Tabs T H ∧ Cn (rsOf rooms rows faces (plc ns ρ)) u v ∧
  ∀ p row H', Nx T H H' → RowT H' p row → goM rows (faces, plc ns ρ) row = some (faces, plc ns (swp ρ u v)) → row.length ≤ 640 → Q (.ref p) H'
section
variable {P : Program} {w : World} {K : PySem.W.Frag} {mg : Str → Option Value} {base : Heap} {f : Addr} {fd : FuncData} {T : List (Addr × Str)}
abbrev s_chains_from : Stmt := top 22
abbrev n_chains_from : List Str := ["hall", "state", "walker"]
theorem sc_chains_from : FnScope n_chains_from ["hall", "state", "walker"] (defScope s_chains_from) := ⟨rfl, rfl, rfl, by decide +kernel, rfl, by decide +kernel, by decide +kernel⟩
theorem ok_chains_from (F : FnP K "chains_from" s_chains_from f fd) (hm : mg "chains_from" = some (.ref f)) (c_chains : Cal P w K mg base 4 "_chains" (spChains T)) (c_reaches : Cal P w K mg base 7 "_reaches" (spReaches T)) :
    Cal P w K mg base 8 "chains_from" (spChF T) := by
  refine cal_of (F.ok sc_chains_from (fun vs H Q E h => ?_) (fun cdv A outer s H vs Q E hr h => ?_)) hm F.kp (F.bindsN (ps := ["hall", "state", "walker"]) fun _ _ _ _ _ _ us hl => match us, hl with | [_, _, _], _ => rfl)
  · obtain ⟨h, st, wk, rooms, rows, faces, places, rfl, hs, hw, hT, q⟩ := h
    rfl
  obtain ⟨h, st, wk, rooms, rows, faces, places, rfl, hs, hw, hT, q⟩ := h
  have nd := sc_chains_from.nd
  refine ⟨_, PSs.nox (pss_one (ps_ret (C8.pe_c c_chains hr (by omega) (by rfl) (pa_cons (C8.pe_c c_reaches hr (by omega) (by rfl) (pa_cons (pv 0) (pa_cons (pv 1) pa_nil))) (pa_cons (pv 2) pa_nil))))), ?_⟩
  have ndr := rsOf_nd (rooms := rooms) hs.t
  have l5 := rsOf_len (rooms := rooms) hs.t
  have l8 := rsOf_8 (rows := rows) (faces := faces) (places := places) hs.v
  refine ⟨_, rfl, _, rfl, h, st, rooms, rows, faces, places, rfl, hs, hT, fun D m H1 n1 hD => ?_⟩
  exact ⟨_, rfl, D, wk, m, rsOf rooms rows faces places, rfl, hD, ndr, by rw [rsOf_ks]; exact hw, l5, l8, n1.t, fun E n fd2 H2 n2 hF hE hS _ => q E n fd2 H2 (n1.trans n2) (hF.back n1) hE hS⟩
abbrev s_meeting_row : Stmt := top 35
abbrev n_meeting_row : List Str := ["hall", "state", "one", "other", "ways", "others", "lengths", "_", "room", "door"]
theorem sc_meeting_row : FnScope n_meeting_row ["hall", "state", "one", "other"] (defScope s_meeting_row) := ⟨rfl, rfl, rfl, by decide +kernel, rfl, by decide +kernel, by decide +kernel⟩
theorem ok_meeting_row (F : FnP K "meeting_row" s_meeting_row f fd) (hm : mg "meeting_row" = some (.ref f)) (c_room_of : CalX P w K mg base 3 "room_of" (spRoomIZ K)) (c_ways_from : Cal P w K mg base 5 "ways_from" (spFrom T)) (m_len : mg "len" = none) (m_min : mg "min" = none) (m_tuple : mg "tuple" = none) :
    Cal P w K mg base 6 "meeting_row" (spMeet T) := by
  refine cal_of (F.ok sc_meeting_row (fun vs H Q E h => ?_) (fun cdv A outer s H vs Q E hr h => ?_)) hm F.kp (F.bindsN (ps := ["hall", "state", "one", "other"]) fun _ _ _ _ _ _ us hl => match us, hl with | [_, _, _, _], _ => rfl)
  · obtain ⟨h, st, u, v, rooms, rows, faces, ns, ρ, rfl, hs, hu, hw, hT, q0, q1⟩ := h
    rfl
  obtain ⟨h, st, u, v, rooms, rows, faces, ns, ρ, rfl, hs, hu, hw, hT, q0, q1⟩ := h
  have nd := sc_meeting_row.nd
  refine ⟨_, PSs.nox (pss_cons (ps_set (i := 4) nd rfl (Or.inr rfl) (pe_keep (C8.pe_c c_ways_from hr (by omega) (by rfl) (pa_cons (pv 0) (pa_cons (pe_ix (r := rIxT K) ix_tup (pv 1) pe_int (fun _ _ => rfl)) (pa_cons (pe_cX c_room_of hr (by omega) (fun σ => passF) (by rfl) (pa_cons (pv 1) (pa_cons (pv 2) pa_nil))) pa_nil))))))
    (pss_cons (ps_set (i := 5) nd rfl (Or.inr rfl) (pe_keep (C8.pe_c c_ways_from hr (by omega) (by rfl) (pa_cons (pv 0) (pa_cons (pe_ix (r := rIxT K) ix_tup (pv 1) pe_int (fun _ _ => rfl)) (pa_cons (pe_cX c_room_of hr (by omega) (fun σ => passF) (by rfl) (pa_cons (pv 1) (pa_cons (pv 3) pa_nil))) pa_nil))))))
    (pss_cons (ps_setLc (i := 6) (own := [("room", 8)]) (g := (gName 8)) (by rfl) nd rfl rfl (sw_true rfl rfl rfl (by decide +kernel)) (pi_keys (pv 4)) (blkOk_by (own := [("room", 8)]) (N := n_meeting_row) (sc := defScope s_meeting_row) (by decide +kernel)) (fun _ _ _ _ _ => (pg_name (i := 8) nd rfl (Or.inl rfl))) (fun _ _ _ _ _ => (pts_one (pt_cmp (pc_din (hu_of hr) (pv 8) (pv 5))))) (fun _ _ _ _ _ => (pe_tup (pa_cons (pe_op op_add (pe_callB (r := rLn K) call_len_seq (by rfl) m_len PySem.boot_len (pa_cons (pe_dget (hu_of hr) (pv 4) (pv 8) (fun _ _ => rfl)) pa_nil)) (pe_callB (r := rLn K) call_len_seq (by rfl) m_len PySem.boot_len (pa_cons (pe_dget (hu_of hr) (pv 5) (pv 8) (fun _ _ => rfl)) pa_nil))) (pa_cons (pv 8) pa_nil)))))
    (pss_cons (ps_if (pt_not (show PT _ _ (tTru K _) from pt_tru (pv 6))) (pss_one (ps_ret pe_non)) pss_nil)
    (pss_cons (ps_asg (pe_callB (r := rMinB K) (cr_minB hr.units hr.hd) (by rfl) m_min (by decide +kernel) (pa_cons (pv 6) pa_nil)) (pg_tup (by rfl) (pgs_cons (pg_name (i := 7) nd rfl (Or.inl rfl)) (pgs_cons (pg_name (i := 8) nd rfl (Or.inl rfl)) pgs_nil))))
    (pss_one (ps_ret (pe_callTy (r := rTpOf K) call_tuple_of (by rfl) m_tuple (by decide +kernel) (pa_cons (pe_op op_cat (pe_lc (own := [("door", 9)]) (g := (gName 9)) (by rfl) nd (pi_tup (pe_dget (hu_of hr) (pv 4) (pv 8) (fun _ _ => rfl))) (blkOk_by (own := [("door", 9)]) (N := n_meeting_row) (sc := defScope s_meeting_row) (by decide +kernel)) (fun _ _ _ _ _ => (pg_name (i := 9) nd rfl (Or.inl rfl))) (fun _ _ _ _ _ => pts_nil) (fun _ _ _ _ _ => (pe_tup (pa_cons (pv 2) (pa_cons (pv 9) pa_nil))))) (pe_lc (own := [("door", 9)]) (g := (gName 9)) (by rfl) nd (pi_tup (pe_dget (hu_of hr) (pv 5) (pv 8) (fun _ _ => rfl))) (blkOk_by (own := [("door", 9)]) (N := n_meeting_row) (sc := defScope s_meeting_row) (by decide +kernel)) (fun _ _ _ _ _ => (pg_name (i := 9) nd rfl (Or.inl rfl))) (fun _ _ _ _ _ => pts_nil) (fun _ _ _ _ _ => (pe_tup (pa_cons (pv 3) (pa_cons (pv 9) pa_nil)))))) pa_nil))))))))), ?_⟩
  obtain ⟨fa, pl, g1, g2, bs, g3, hRB⟩ := id hs.s
  have hur := plc_room hs.t hu
  have hvr := plc_room hs.t hw
  refine ⟨_, rfl, _, rfl, st, _, _, _, rfl, rfl, SqT.of g1, atI_nat (j := 0) rfl, _, rfl, _, rfl, st, u, faces, plc ns ρ, rfl, hs.s, plc_two ns ρ, fun j r hj H1 s1 => ?_, fun hn => absurd hn (not_head hu)⟩
  obtain ⟨_, rfl⟩ := plc_get hj
  refine ⟨h, fa, ρ u, rooms, rows, faces, rfl, hs.h.tu (Tu.same s1), hs.v, g2.same s1, hs.t.fl, hur, Tabs.same hT s1, fun D m fd1 H2 n2 hF hDi hS hU => ⟨D, _, rfl, hDi.at_, trivial, fun od => ?_⟩⟩
  have n02 : Nx T H H2 := ((Nx.refl hT).same s1).trans n2
  have hK := hDi.keep od
  have nK := n02.mutD hDi.at_ (hF.back ((Nx.refl hT).same s1)) (.frz od (.dK (kvOf m)))
  clear hDi n02
  generalize upd H2 D (.frz od (.dK (kvOf m))) = HA at hK nK ⊢
  have hsA := hs.nx nK
  refine ⟨_, rfl, _, rfl, st, _, _, _, rfl, rfl, SqT.of (nK.tu _ _ g1), atI_nat (j := 0) rfl, _, rfl, _, rfl, st, v, faces, plc ns ρ, rfl, hsA.s, plc_two ns ρ, fun j2 r2 hj2 H3 s3 => ?_, fun hn => absurd hn (not_head hw)⟩
  obtain ⟨_, rfl⟩ := plc_get hj2
  refine ⟨h, fa, ρ v, rooms, rows, faces, rfl, hsA.h.tu (Tu.same s3), hs.v, (g2.nx nK).same s3, hs.t.fl, hvr, Tabs.same nK.t s3, fun E m2 fd2 H4 n4 hF2 hEi hS2 hU2 => ⟨E, _, rfl, hEi.at_, trivial, fun od2 => ?_⟩⟩
  have n04 : Nx T HA H4 := ((Nx.refl nK.t).same s3).trans n4
  have hK2 := hEi.keep od2
  have nK2 := n04.mutD hEi.at_ (hF2.back ((Nx.refl nK.t).same s3)) (.frz od2 (.dK (kvOf m2)))
  clear hEi n04
  generalize upd H4 E (.frz od2 (.dK (kvOf m2))) = HB at hK2 nK2 ⊢
  have hKB := hK.nx nK2
  have nB := nK.trans nK2
  have l1 : fd1.length ≤ 8 := by
    have z := nodup_sub hS.nd hU
    unfold ks at z
    rw [List.length_map] at z
    exact Nat.le_trans z hs.v.r8
  have l2 : fd2.length ≤ 8 := by
    have z := nodup_sub hS2.nd hU2
    unfold ks at z
    rw [List.length_map] at z
    exact Nat.le_trans z hs.v.r8
  have ml : m.length = fd1.length := by
    have := congrArg List.length hKB.kk
    rw [List.length_map, List.length_map] at this
    exact this
  obtain ⟨o, hDo⟩ := hKB.at_
  refine ⟨_, rfl, D, o, rfl, .inl ⟨kvOf m, hDo, fun B hB => ?_⟩⟩
  refine lc_gen (n := m.length) (fun k Hx => Same HB Hx ∧ ∃ (as : List Addr) (L : List (Str × List Str × List Str)), Hx B = some (.lst (as.map V.ref)) ∧ as.length = L.length ∧ L.length ≤ k ∧ (∀ (i : Nat) (a : Addr) (t : Str × List Str × List Str), as[i]? = some a → L[i]? = some t → Hx a = some (.tup [.int ((t.2.1.length : Nat) + (t.2.2.length : Nat) : Int), .str t.1])) ∧ (∀ t ∈ L, (t.1, t.2.1) ∈ fd1 ∧ (t.1, t.2.2) ∈ fd2) ∧ ∀ x p q, (x, p) ∈ fd1.take k → (x, q) ∈ fd2 → (x, p, q) ∈ L)
    ⟨same_new hB _, [], [], upd_same, rfl, Nat.le_refl _, fun i a t h => (nomatch h), fun t ht => (nomatch ht), fun x p q h => (nomatch h)⟩ (fun k Hx hk ⟨sx, as, L, hBx, hal, hL, hat, hm, hall⟩ => ?_) (fun Hx ⟨sx, as, L, hBx, hal, hL, hat, hm, hall⟩ => ?_)
  · refine ⟨⟨sx _ _ hDo, by rw [kvOf_len]; exact hk⟩, ?_⟩
    rintro _ H' ⟨eH, key, vv, hkv, rfl⟩
    have eH := eH.symm
    subst eH
    have hmk : m[k]? = some m[k] := List.getElem?_eq_getElem hk
    obtain ⟨e, he⟩ : ∃ e, fd1[k]? = some e := ⟨_, List.getElem?_eq_getElem (by omega)⟩
    have e1 : m[k].1 = e.1 := by
      have z : (m.map (·.1))[k]? = (ks fd1)[k]? := by rw [hKB.kk]
      unfold ks at z
      rw [List.getElem?_map, List.getElem?_map, hmk, he] at z
      exact Option.some.inj z
    have hkv2 : (kvOf m)[k]? = some (Sum.inr m[k].1, V.ref m[k].2) := by unfold kvOf; rw [List.getElem?_map, hmk]; rfl
    rw [hkv2] at hkv
    cases hkv
    rw [e1]
    have hKx := hKB.same sx
    have hK2x := hK2.same sx
    have hmem := List.mem_of_getElem? he
    refine ⟨rfl, _, rfl, _, rfl, E, _, rfl, hK2x.get0 e.1, _, rfl, ?_⟩
    rw [hK2x.un.is hS2.nd]
    by_cases z : e.1 ∈ ks fd2
    · rw [decide_eq_true z]
      obtain ⟨e2, he2, ee⟩ := List.mem_map.mp z
      obtain ⟨a1, v1⟩ := hKx.val hS.nd (x := e.1) (p := e.2) hmem
      obtain ⟨a2, v2⟩ := hK2x.val hS2.nd (x := e.1) (p := e2.2) (by rw [← ee]; exact he2)
      refine iteT ⟨_, rfl, _, rfl, D, _, rfl, (v1 _ hKx).1, a1, e.2.map V.str, rfl, .inr (SqT.of (v1 _ hKx).2), _, rfl, _, rfl, E, _, rfl, (v2 _ hK2x).1, a2, e2.2.map V.str, rfl, .inr (SqT.of (v2 _ hK2x).2), ?_⟩
      refine ⟨_, _, rfl, rfl, _, rfl, (by show 2 ≤ sizeLine; decide), fun t ht => ?_⟩
      have sq := same_new ht (.tup [.int (((e.2.map V.str).length : Nat) + ((e2.2.map V.str).length : Nat) : Int), .str e.1])
      have htq : upd Hx t (.tup [.int (((e.2.map V.str).length : Nat) + ((e2.2.map V.str).length : Nat) : Int), .str e.1]) t = some (.tup [.int ((e.2.length : Nat) + (e2.2.length : Nat) : Int), .str e.1]) := by
        rw [upd_same, List.length_map, List.length_map]
      dsimp only [kV]
      generalize upd Hx t (.tup [.int (((e.2.map V.str).length : Nat) + ((e2.2.map V.str).length : Nat) : Int), .str e.1]) = Hz at sq htq ⊢
      have hBz := sq _ _ hBx
      have tum : Tu Hz (upd Hz B (.lst (as.map V.ref ++ [.ref t]))) := fun a xs h => by
        rw [upd_ne (fun e => by rw [e, hBz] at h; cases h)]
        exact h
      refine ⟨_, hBz, ?_, same_mut (sx.trans sq) hB _, as ++ [t], L ++ [(e.1, e.2, e2.2)], ?_, ?_, ?_, fun i a t' h1 h2 => ?_, fun t' ht' => ?_, fun x p q h1 h2 => ?_⟩
      · rw [List.length_map]
        exact sz100 (by omega)
      · rw [upd_same, List.map_append]
        rfl
      · rw [List.length_append, List.length_append, hal]
        rfl
      · rw [List.length_append]
        show L.length + 1 ≤ k + 1
        omega
      · by_cases hi : i < as.length
        · rw [List.getElem?_append_left hi] at h1
          rw [List.getElem?_append_left (by omega)] at h2
          exact tum _ _ (sq _ _ (hat i a t' h1 h2))
        · have lt := (List.getElem?_eq_some_iff.mp h1).1
          rw [List.length_append] at lt
          obtain rfl : i = as.length := by
            have : i < as.length + 1 := lt
            omega
          rw [List.getElem?_append_right (Nat.le_refl _), Nat.sub_self] at h1
          rw [hal, List.getElem?_append_right (Nat.le_refl _), Nat.sub_self] at h2
          cases h1
          cases h2
          exact tum _ _ htq
      · rcases List.mem_append.mp ht' with ht' | ht'
        · exact hm t' ht'
        · rw [List.mem_singleton.mp ht']
          exact ⟨hmem, by show (e.1, e2.2) ∈ fd2; rw [← ee]; exact he2⟩
      · rw [take_snoc he] at h1
        rcases List.mem_append.mp h1 with h1 | h1
        · exact List.mem_append_left _ (hall x p q h1 h2)
        · have h1 := List.mem_singleton.mp h1
          cases h1
          have := ks_one hS2.nd h2 he2 ee.symm
          rw [← this]
          exact List.mem_append_right _ (List.mem_singleton.mpr rfl)
    · rw [decide_eq_false z]
      refine iteF ⟨sx, as, L, hBx, hal, Nat.le_succ_of_le hL, hat, hm, fun x p q h1 h2 => ?_⟩
      rw [take_snoc he] at h1
      rcases List.mem_append.mp h1 with h1 | h1
      · exact hall x p q h1 h2
      · have h1 := List.mem_singleton.mp h1
        cases h1
        exact absurd (ks_mem h2) z
  rw [ml, List.take_length] at hall
  refine ⟨⟨sx _ _ hDo, by rw [kvOf_len]; exact Nat.le_refl _⟩, ?_⟩
  have nX : Nx T H Hx := nB.same sx
  refine ⟨_, rfl, _, .inl ⟨_, SqL.of hBx, rfl⟩, ?_⟩
  by_cases hn : L = []
  · subst hn
    obtain rfl : as = [] := List.length_eq_zero_iff.mp hal
    refine iteT (q0 (fun ⟨x, hx1, hx2⟩ => ?_) _ nX)
    obtain ⟨e, he, rfl⟩ := List.mem_map.mp (hS.iff.mpr (rch_mem.mp hx1).2)
    obtain ⟨e2, he2, ee⟩ := List.mem_map.mp (hS2.iff.mpr (rch_mem.mp hx2).2)
    cases hall e.1 e.2 e2.2 he (by rw [← ee]; exact he2)
  have hne : (!(as.map V.ref).isEmpty) = true := by
    cases as with
    | nil => exact absurd (List.length_eq_zero_iff.mp hal.symm) hn
    | cons a as => rfl
  rw [hne]
  refine iteF ?_
  have hmin : ∀ (j : Nat) (a : Addr), as[j]? = some a → (∀ i : Nat, i < (L.map fun t => PyData.tuple [.int ((t.2.1.length : Nat) + (t.2.2.length : Nat) : Int), .str t.1]).length → ((((L.getD j default).2.1.length : Nat) + ((L.getD j default).2.2.length : Nat) : Int)) ≤ (((L.getD i default).2.1.length : Nat) + ((L.getD i default).2.2.length : Nat) : Int)) →
      ∃ t, L[j]? = some t ∧ Hx a = some (.tup [.int ((t.2.1.length : Nat) + (t.2.2.length : Nat) : Int), .str t.1]) ∧ ∀ y p' q', (y, p') ∈ fd1 → (y, q') ∈ fd2 → t.2.1.length + t.2.2.length ≤ p'.length + q'.length := fun j a ha hm2 => by
    have lj : j < L.length := by rw [← hal]; exact (List.getElem?_eq_some_iff.mp ha).1
    have ej : L[j]? = some L[j] := List.getElem?_eq_getElem lj
    refine ⟨L[j], ej, hat j a _ ha ej, fun y p' q' h1 h2 => ?_⟩
    obtain ⟨i, hi⟩ := List.mem_iff_getElem?.mp (hall y p' q' h1 h2)
    have := hm2 i (by rw [List.length_map]; exact (List.getElem?_eq_some_iff.mp hi).1)
    rw [List.getD_eq_getElem?_getD, List.getD_eq_getElem?_getD, ej, hi] at this
    have this : ((L[j].2.1.length : Nat) + (L[j].2.2.length : Nat) : Int) ≤ ((p'.length : Nat) + (q'.length : Nat) : Int) := this
    omega
  refine ⟨_, rfl, ?_⟩
  dsimp only [tNil]
  refine min_num (ds := L.map fun t => PyData.tuple [.int ((t.2.1.length : Nat) + (t.2.2.length : Nat) : Int), .str t.1]) (κ := fun i => (((L.getD i default).2.1.length : Nat) + ((L.getD i default).2.2.length : Nat) : Int)) (tl := fun i => [.str (L.getD i default).1]) hBx (by rw [List.length_map]; exact hal) (fun z => hn (List.map_eq_nil_iff.mp z)) (fun i a d h1 h2 => ?_) (fun d hd d' hd' => ?_) (fun d hd => ?_) (fun i d h => ?_) (fun j a ha hm2 => ?_)
  · rw [List.getElem?_map] at h2
    cases z : L[i]? with
    | none => rw [z] at h2; cases h2
    | some t =>
      rw [z] at h2
      cases h2
      exact .tup (SqT.of (hat i a t h1 z)) (.cons (.int _) (.cons (.str _) .nil))
  · obtain ⟨t, _, rfl⟩ := List.mem_map.mp hd
    obtain ⟨t', _, rfl⟩ := List.mem_map.mp hd'
    simp [PySem.W.alike, PySem.W.alikeAll]
  · obtain ⟨t, _, rfl⟩ := List.mem_map.mp hd
    simp [PyData.depth, PyData.depthAll]
  · rw [List.getElem?_map] at h
    cases z : L[i]? with
    | none => rw [z] at h; cases h
    | some t =>
      rw [z] at h
      cases h
      show _ = PyData.tuple [.int (((L.getD i default).2.1.length : Nat) + ((L.getD i default).2.2.length : Nat) : Int), .str (L.getD i default).1]
      rw [List.getD_eq_getElem?_getD, z]
      rfl
  obtain ⟨t, htj, hta, hmn⟩ := hmin j a ha hm2
  obtain ⟨m1, m2'⟩ := hm t (List.mem_of_getElem? htj)
  have np := spd_nd hs.v hS m1
  have nq := spd_nd hs.v hS2 m2'
  have dj := spd_dj hs.v hS hS2 m1 m2' hmn
  have lp : t.2.1.length ≤ 8 := Nat.le_trans (hS.ln _ m1) l1
  have lq : t.2.2.length ≤ 8 := Nat.le_trans (hS2.ln _ m2') l2
  have hmt : MtR rooms rows faces (ρ u) (ρ v) := ⟨t.1, rch_mem.mpr ⟨hU _ (ks_mem m1), ⟨_, hS.wk _ m1⟩⟩, rch_mem.mpr ⟨hU2 _ (ks_mem m2'), ⟨_, hS2.wk _ m2'⟩⟩⟩
  refine ⟨a, _, rfl, SqT.of hta, rfl, _, _, rfl, _, _, rfl, rfl, ?_⟩
  have hKx := hKB.same sx
  have hK2x := hK2.same sx
  obtain ⟨a1, v1⟩ := hKx.val hS.nd (x := t.1) (p := t.2.1) m1
  obtain ⟨a2, v2⟩ := hK2x.val hS2.nd (x := t.1) (p := t.2.2) m2'
  refine ⟨_, rfl, _, rfl, D, _, rfl, (v1 _ hKx).1, a1, rfl, ⟨_, SqT.of (v1 _ hKx).2⟩, fun B1 hB1 => ?_⟩
  refine lc_tup (K := K) (a := a1) (xs := t.2.1.map V.str) (fun k Hy => Same Hx Hy ∧ ∃ es : List Addr, Hy B1 = some (.lst (es.map V.ref)) ∧ RowsAt Hy es (((t.2.1.take k).map fun d => (u, d)).map pr)) ⟨same_new hB1 _, [], upd_same, RowsAt.nil⟩ (fun k Hy _ ⟨sy, _⟩ => SqT.of (sy _ _ (v1 _ hKx).2)) (fun k y Hy hy2 ⟨sy, es, hBy, hM⟩ => ?_) (fun Hy ⟨sy, es, hBy, hM⟩ => ?_)
  · obtain ⟨d, hd, rfl⟩ := str_at hy2
    refine ⟨rfl, lcY ?_⟩
    refine ⟨_, rfl, _, rfl, (by show 2 ≤ sizeLine; decide), fun tq htq => ?_⟩
    have sq := same_new htq (.tup [.str u, .str d])
    have htq' : upd Hy tq (.tup [.str u, .str d]) tq = some (.tup ((pr (u, d)).map V.str)) := upd_same
    show ∃ acc, upd Hy tq (.tup [.str u, .str d]) B1 = some (.lst acc) ∧ _
    generalize upd Hy tq (.tup [.str u, .str d]) = Hz at sq htq' ⊢
    have hBz := sq _ _ hBy
    have el := hM.1
    rw [List.length_map, List.length_map, List.length_take] at el
    have tum : Tu Hz (upd Hz B1 (.lst (es.map V.ref ++ [.ref tq]))) := fun a xs h => by
      rw [upd_ne (fun e => by rw [e, hBz] at h; cases h)]
      exact h
    refine ⟨_, hBz, ?_, same_mut (sy.trans sq) hB1 _, es ++ [tq], ?_, ?_⟩
    · rw [List.length_map]
      exact sz100 (by omega)
    · rw [upd_same, List.map_append]
      rfl
    · rw [take_snoc hd, List.map_append, List.map_append]
      exact ((hM.tu (Tu.same sq)).tu tum).snoc (tum _ _ htq')
  rw [List.length_map, List.take_length] at hM
  have hKy := hKx.same sy
  have hK2y := hK2x.same sy
  refine ⟨_, rfl, _, rfl, E, _, rfl, (v2 _ hK2y).1, a2, rfl, ⟨_, SqT.of (v2 _ hK2y).2⟩, fun B2 hB2 => ?_⟩
  refine lc_tup (K := K) (a := a2) (xs := t.2.2.map V.str) (fun k Hw => Same Hy Hw ∧ ∃ fs : List Addr, Hw B2 = some (.lst (fs.map V.ref)) ∧ RowsAt Hw fs (((t.2.2.take k).map fun d => (v, d)).map pr)) ⟨same_new hB2 _, [], upd_same, RowsAt.nil⟩ (fun k Hw _ ⟨sy, _⟩ => SqT.of (sy _ _ (v2 _ hK2y).2)) (fun k y Hw hy2 ⟨sw, fs, hBw, hM2⟩ => ?_) (fun Hw ⟨sw, fs, hBw, hM2⟩ => ?_)
  · obtain ⟨d, hd, rfl⟩ := str_at hy2
    refine ⟨rfl, lcY ?_⟩
    refine ⟨_, rfl, _, rfl, (by show 2 ≤ sizeLine; decide), fun tq htq => ?_⟩
    have sq := same_new htq (.tup [.str v, .str d])
    have htq' : upd Hw tq (.tup [.str v, .str d]) tq = some (.tup ((pr (v, d)).map V.str)) := upd_same
    show ∃ acc, upd Hw tq (.tup [.str v, .str d]) B2 = some (.lst acc) ∧ _
    generalize upd Hw tq (.tup [.str v, .str d]) = Hz at sq htq' ⊢
    have hBz := sq _ _ hBw
    have el := hM2.1
    rw [List.length_map, List.length_map, List.length_take] at el
    have tum : Tu Hz (upd Hz B2 (.lst (fs.map V.ref ++ [.ref tq]))) := fun a xs h => by
      rw [upd_ne (fun e => by rw [e, hBz] at h; cases h)]
      exact h
    refine ⟨_, hBz, ?_, same_mut (sw.trans sq) hB2 _, fs ++ [tq], ?_, ?_⟩
    · rw [List.length_map]
      exact sz100 (by omega)
    · rw [upd_same, List.map_append]
      rfl
    · rw [take_snoc hd, List.map_append, List.map_append]
      exact ((hM2.tu (Tu.same sq)).tu tum).snoc (tum _ _ htq')
  rw [List.length_map, List.take_length] at hM2
  have le1 := hM.1
  have le2 := hM2.1
  rw [List.length_map, List.length_map] at le1 le2
  refine ⟨B1, B2, _, _, rfl, rfl, sw _ _ hBy, hBw, ?_, fun C hC => ?_⟩
  · rw [List.length_map, List.length_map]
    exact Nat.le_of_lt (sz100 (by omega))
  have sC := same_new hC (.lst (es.map V.ref ++ fs.map V.ref))
  refine ⟨C, _, rfl, .inl ⟨SqL.of upd_same, fun t2 ht2 => ?_⟩⟩
  have s5 := same_new ht2 (.tup (es.map V.ref ++ fs.map V.ref))
  refine q1 t2 ((t.2.1.map fun d => (u, d)) ++ (t.2.2.map fun d => (v, d))) _ hmt ((((nX.same sy).same sw).same sC).same s5) ⟨es ++ fs, by rw [upd_same, List.map_append], ?_⟩ ⟨t.2.1, t.2.2, t.1, rfl, np, nq, dj, (hS.wk _ m1).wf, (hS2.wk _ m2').wf, lp, lq⟩
  rw [List.map_append]
  exact RowsAt.app ((hM.tu (Tu.same sw)).tu (Tu.same (sC.trans s5))) (hM2.tu (Tu.same (sC.trans s5)))
end
end Td
set_option maxHeartbeats 4000000
namespace Td
open PySem PySem.Spec PyProof.Rows L2 LamX NdefX
theorem go_all {rows : List (List Str)} {s t s' : Sta} {l : List Deed} {i : Nat} {p : Deed} (h : goM rows s l = some t) (hi : l[i]? = some p) (hg : goM rows s (l.take i) = some s') (hn : stp rows s' p = none) : False := by
  have e : l = l.take i ++ l.drop i := (List.take_append_drop i l).symm
  have hd : l.drop i = p :: l.drop (i + 1) := by
    obtain ⟨hl, e⟩ := List.getElem?_eq_some_iff.mp hi
    rw [List.drop_eq_getElem_cons hl, e]
  rw [e, goM_ap hg, hd] at h
  unfold goM at h
  rw [List.foldlM_cons, hn] at h
  cases h
theorem RowT.rwX {K : PySem.W.Frag} {H : Hp} {a : Addr} {l : List Deed} (h : RowT H a l) : Rw K H a l := by
  obtain ⟨as, ha, hR⟩ := h
  exact ⟨as, .inr (SqT.of ha), hR⟩
theorem RowT.tu {H H' : Hp} {a : Addr} {l : List Deed} (n : Tu H H') (h : RowT H a l) : RowT H' a l := by
  obtain ⟨as, ha, hR⟩ := h
  exact ⟨as, n _ _ ha, hR.tu n⟩
theorem row_cat {K : PySem.W.Frag} {H : Hp} {a b : Addr} {l m : List Deed} {Q : VK} (ha : RowT H a l) (hb : RowT H b m) (hl : l.length + m.length ≤ 100000) (q : ∀ p H', Same H H' → RowT H' p (l ++ m) → Q (.ref p) H') : rCatA K (.ref a) (.ref b) H Q := by
  obtain ⟨as, h1, r1⟩ := ha
  obtain ⟨bs, h2, r2⟩ := hb
  have l1 := r1.1
  have l2 := r2.1
  rw [List.length_map] at l1 l2
  refine ⟨a, b, _, _, rfl, rfl, SqT.of h1, SqT.of h2, ?_, fun e => ?_, fun _ e => ?_, fun _ _ p hp => ?_⟩
  · rw [List.length_map, List.length_map, l1, l2]
    exact Nat.le_trans hl (by decide)
  · obtain rfl : as = [] := List.map_eq_nil_iff.mp e
    obtain rfl : l = [] := List.length_eq_zero_iff.mp l1.symm
    exact q b H (Same.refl H) ⟨bs, h2, r2⟩
  · obtain rfl : bs = [] := List.map_eq_nil_iff.mp e
    obtain rfl : m = [] := List.length_eq_zero_iff.mp l2.symm
    rw [List.append_nil] at q
    exact q a H (Same.refl H) ⟨as, h1, r1⟩
  · have s := same_new hp (.tup (as.map V.ref ++ bs.map V.ref))
    refine q p _ s ⟨as ++ bs, by rw [upd_same, List.map_append], ?_⟩
    rw [List.map_append]
    exact RowsAt.app (r1.tu (Tu.same s)) (r2.tu (Tu.same s))
theorem val_two {u v x : Str} (ne : u ≠ v) (h : x = u ∨ x = v) : valV (mergeK [] [(Sum.inr u, V.str v), (Sum.inr v, V.str u)]) (Sum.inr x : Key) = some (.str (if x = u then v else u)) := by
  show valV (putK (putK [] (Sum.inr u) (V.str v)) (Sum.inr v) (V.str u)) (Sum.inr x : Key) = _
  rw [valV_put, valV_put]
  rcases h with rfl | rfl
  · rw [if_neg (fun e => ne (Sum.inr.inj e)), if_pos rfl, if_pos rfl]
  · rw [if_pos rfl, if_neg ne.symm]
def swD (u v : Str) (p : Deed) : Deed := (if p.1 = u then v else u, p.2)
theorem sw_back {u v : Str} (ne : u ≠ v) (p q : List Str) : (((p.map fun d => (u, d)) ++ (q.map fun d => (v, d))).reverse).map (swD u v) = (q.reverse.map fun d => (u, d)) ++ (p.reverse.map fun d => (v, d)) := by
  rw [List.reverse_append, List.map_append, ← List.map_reverse, ← List.map_reverse, List.map_map, List.map_map]
  refine congr (congrArg _ (List.map_congr_left fun d _ => ?_)) (List.map_congr_left fun d _ => ?_)
  · show (if v = u then v else u, d) = (u, d)
    rw [if_neg ne.symm]
  · show (if u = u then v else u, d) = (v, d)
    rw [if_pos rfl]
section
variable {P : Program} {w : World} {K : PySem.W.Frag} {mg : Str → Option Value} {base : Heap} {f : Addr} {fd : FuncData} {T : List (Addr × Str)}
abbrev s_reverse : Stmt := top 31
abbrev n_reverse : List Str := ["row"]
theorem sc_reverse : FnScope n_reverse ["row"] (defScope s_reverse) := ⟨rfl, rfl, rfl, by decide +kernel, rfl, by decide +kernel, by decide +kernel⟩
theorem ok_reverse (F : FnP K "reverse" s_reverse f fd) (hm : mg "reverse" = some (.ref f)) (m_reversed : mg "reversed" = none) (m_tuple : mg "tuple" = none) :
    Cal P w K mg base 1 "reverse" (spRev K) := by
  refine cal_of (F.ok sc_reverse (fun vs H Q E h => ?_) (fun cdv A outer s H vs Q E hr h => ?_)) hm F.kp (F.bindsN (ps := ["row"]) fun _ _ _ _ _ _ us hl => match us, hl with | [_], _ => rfl)
  · obtain ⟨r, l, rfl, hR, q⟩ := h
    rfl
  obtain ⟨r, l, rfl, hR, q⟩ := h
  have nd := sc_reverse.nd
  refine ⟨_, PSs.nox (pss_one (ps_ret (pe_tupRevQ (by rfl) (by rfl) m_tuple (by rfl) m_reversed (pv 0)))), ?_⟩
  obtain ⟨as, hk, hRA⟩ := hR
  have fin : ∀ t, H t = none → Q (.ref t) (upd H t (.tup (as.map V.ref).reverse)) := fun t ht => by
    refine q t _ (same_new ht _) ⟨as.reverse, ?_, ?_⟩
    · rw [upd_same, List.map_reverse]
    · have := hRA
      exact ⟨by rw [List.length_reverse, List.length_map, List.length_reverse, this.1, List.length_map], fun i a r h1 h2 => by
        rw [List.map_reverse] at h2
        have hl := this.1
        have l1 := (List.getElem?_eq_some_iff.mp h1).1
        have l2 := (List.getElem?_eq_some_iff.mp h2).1
        rw [List.length_reverse] at l1 l2
        rw [List.getElem?_reverse l1] at h1
        rw [List.getElem?_reverse l2] at h2
        rw [← hl] at h2
        exact Tu.same (same_new ht _) _ _ (this.2 _ _ _ h1 h2)⟩
  rcases hk with hk | hk
  · exact .inl ⟨_, rfl, r, _, rfl, hk, fin⟩
  · exact .inr ⟨_, rfl, r, _, rfl, hk, fin⟩
abbrev s_swap_row : Stmt := top 37
abbrev n_swap_row : List Str := ["hall", "state", "one", "other", "there", "swapped", "back", "walker", "door"]
theorem sc_swap_row : FnScope n_swap_row ["hall", "state", "one", "other"] (defScope s_swap_row) := ⟨rfl, rfl, rfl, by decide +kernel, rfl, by decide +kernel, by decide +kernel⟩
theorem ok_swap_row (F : FnP K "_swap_row" s_swap_row f fd) (hm : mg "_swap_row" = some (.ref f)) (c_meeting_row : Cal P w K mg base 6 "meeting_row" (spMeet T)) (c_reverse : Cal P w K mg base 1 "reverse" (spRev K)) (m_tuple : mg "tuple" = none) :
    Cal P w K mg base 7 "_swap_row" (spSwapR T) := by
  refine cal_of (F.ok sc_swap_row (fun vs H Q E h => ?_) (fun cdv A outer s H vs Q E hr h => ?_)) hm F.kp (F.bindsN (ps := ["hall", "state", "one", "other"]) fun _ _ _ _ _ _ us hl => match us, hl with | [_, _, _, _], _ => rfl)
  · obtain ⟨h, st, u, v, rooms, rows, faces, ns, ρ, rfl, hs, hu, hw, ne, hT, hm, q⟩ := h
    rfl
  obtain ⟨h, st, u, v, rooms, rows, faces, ns, ρ, rfl, hs, hu, hw, ne, hT, hm, q⟩ := h
  have nd := sc_swap_row.nd
  refine ⟨_, PSs.nox (pss_cons (ps_set (i := 4) nd rfl (Or.inl rfl) (C8.pe_c c_meeting_row hr (by omega) (by rfl) (pa_cons (pv 0) (pa_cons (pv 1) (pa_cons (pv 2) (pa_cons (pv 3) pa_nil))))))
    (pss_cons (ps_set (i := 5) nd rfl (Or.inr rfl) (pe_disp (pps_cons (pv 2) (pv 3) (pps_cons (pv 3) (pv 2) pps_nil)) (by rfl) (by rfl) (by decide) (by decide)))
    (pss_cons (ps_setLc (i := 6) (own := [("walker", 7), ("door", 8)]) (g := (gTup K 2 (gCons (gName 7) (gCons (gName 8) gNil)))) (by rfl) nd rfl rfl (sw_true rfl rfl rfl (by decide +kernel)) (pi_tup (C8.pe_c c_reverse hr (by omega) (by rfl) (pa_cons (pv 4) pa_nil))) (blkOk_by (own := [("walker", 7), ("door", 8)]) (N := n_swap_row) (sc := defScope s_swap_row) (by decide +kernel)) (fun _ _ _ _ _ => (pg_tup (by rfl) (pgs_cons (pg_name (i := 7) nd rfl (Or.inl rfl)) (pgs_cons (pg_name (i := 8) nd rfl (Or.inl rfl)) pgs_nil)))) (fun _ _ _ _ _ => pts_nil) (fun _ _ _ _ _ => (pe_tup (pa_cons (pe_dget (hu_of hr) (pv 5) (pv 7) (fun _ _ => rfl)) (pa_cons (pv 8) pa_nil)))))
    (pss_one (ps_ret (pe_op (r := rCatA K) op_catA (pv 4) (pe_callTy (r := rTpOf K) call_tuple_of (by rfl) m_tuple (by decide +kernel) (pa_cons (pv 6) pa_nil)))))))), ?_⟩
  refine ⟨_, rfl, _, rfl, _, rfl, _, rfl, h, st, u, v, rooms, rows, faces, ns, ρ, rfl, hs, hu, hw, hT, fun z => absurd hm z, fun p row H1 _ n1 hp ⟨P1, R1, x, er, np, nq, dj, hW1, hW2, lp, lq⟩ => ?_⟩
  intro D hD
  have s1 := same_new hD (.dK [])
  have hD2 : upd H1 D (.dK []) D = some (.dK []) := upd_same
  refine ⟨_, rfl, _, rfl, _, rfl, _, rfl, hD2, [(Sum.inr u, V.str v), (Sum.inr v, V.str u)], rfl, (by show 2 ≤ 15; decide), ?_⟩
  have s2 : Same H1 (upd (upd H1 D (.dK [])) D (.dK (mergeK [] [(Sum.inr u, V.str v), (Sum.inr v, V.str u)]))) := same_mut s1 hD _
  have hDz : upd (upd H1 D (.dK [])) D (.dK (mergeK [] [(Sum.inr u, V.str v), (Sum.inr v, V.str u)])) D = some (.dK (mergeK [] [(Sum.inr u, V.str v), (Sum.inr v, V.str u)])) := upd_same
  clear hD2 s1
  generalize upd (upd H1 D (.dK [])) D (.dK (mergeK [] [(Sum.inr u, V.str v), (Sum.inr v, V.str u)])) = H2 at s2 hDz ⊢
  refine ⟨_, rfl, p, row, rfl, (hp.tu (Tu.same s2)).rwX, fun b H3 s3 ⟨bs, hb, hRB⟩ => ⟨b, rfl, ⟨_, SqT.of hb⟩, fun B hB => ?_⟩⟩
  have lrow : row.length ≤ 16 := by
    rw [er, List.length_append, List.length_map, List.length_map]
    omega
  have hbl : (bs.map V.ref).length = row.length := by rw [List.length_map, hRB.1, List.length_map, List.length_reverse]
  have hwk : ∀ d ∈ row, d.1 = u ∨ d.1 = v := fun d hd => by
    rw [er] at hd
    rcases List.mem_append.mp hd with hd | hd
    · obtain ⟨y, _, rfl⟩ := List.mem_map.mp hd
      exact .inl rfl
    · obtain ⟨y, _, rfl⟩ := List.mem_map.mp hd
      exact .inr rfl
  refine lc_tup (K := K) (a := b) (xs := bs.map V.ref) (fun k Hx => Same H3 Hx ∧ ∃ es : List Addr, Hx B = some (.lst (es.map V.ref)) ∧ RowsAt Hx es (((row.reverse.take k).map (swD u v)).map pr)) ⟨same_new hB _, [], upd_same, RowsAt.nil⟩ (fun k Hx _ ⟨sy, _⟩ => SqT.of (sy _ _ hb)) (fun k y Hx hy ⟨sy, es, hBx, hM⟩ => ?_) (fun Hx ⟨sy, es, hBx, hM⟩ => ?_)
  · obtain ⟨a, r, rfl, hri, hra⟩ := hRB.row hy
    rw [List.getElem?_map] at hri
    cases hd : row.reverse[k]? with
    | none => rw [hd] at hri; cases hri
    | some d =>
    rw [hd] at hri
    cases hri
    have hdr := hwk d (List.mem_reverse.mp (List.mem_of_getElem? hd))
    refine ⟨a, _, rfl, SqT.of (sy _ _ hra), rfl, _, _, rfl, _, _, rfl, rfl, rfl, lcY ?_⟩
    refine ⟨_, rfl, _, rfl, D, _, rfl, (by rw [← val_two ne hdr]; exact DGet.k (k := Sum.inr d.1) (sy _ _ (s3 _ _ hDz))), _, rfl, (by show 2 ≤ sizeLine; decide), fun tq htq => ?_⟩
    have sq := same_new htq (.tup [.str (if d.1 = u then v else u), .str d.2])
    have htq' : upd Hx tq (.tup [.str (if d.1 = u then v else u), .str d.2]) tq = some (.tup ((pr (swD u v d)).map V.str)) := upd_same
    show ∃ acc, upd Hx tq (.tup [.str (if d.1 = u then v else u), .str d.2]) B = some (.lst acc) ∧ _
    generalize upd Hx tq (.tup [.str (if d.1 = u then v else u), .str d.2]) = Hz at sq htq' ⊢
    have hBz := sq _ _ hBx
    have el := hM.1
    rw [List.length_map, List.length_map, List.length_take] at el
    have tum : Tu Hz (upd Hz B (.lst (es.map V.ref ++ [.ref tq]))) := fun a xs h => by
      rw [upd_ne (fun e => by rw [e, hBz] at h; cases h)]
      exact h
    refine ⟨_, hBz, ?_, same_mut (sy.trans sq) hB _, es ++ [tq], ?_, ?_⟩
    · rw [List.length_map]
      rw [List.length_reverse] at el
      exact sz100 (by omega)
    · rw [upd_same, List.map_append]
      rfl
    · rw [take_snoc hd, List.map_append, List.map_append]
      exact ((hM.tu (Tu.same sq)).tu tum).snoc (tum _ _ htq')
  rw [hbl, ← List.length_reverse, List.take_length] at hM
  refine ⟨_, rfl, _, rfl, B, _, rfl, .inl ⟨SqL.of hBx, fun t ht => ?_⟩⟩
  have s4 := same_new ht (.tup (es.map V.ref))
  have hrow : RowT (upd Hx t (.tup (es.map V.ref))) p row := hp.tu (Tu.same (((s2.trans s3).trans sy).trans s4))
  have hback : RowT (upd Hx t (.tup (es.map V.ref))) t (row.reverse.map (swD u v)) := ⟨es, upd_same, hM.tu (Tu.same s4)⟩
  refine row_cat hrow hback (by rw [List.length_map, List.length_reverse]; omega) fun p2 H5 s5 hp2 => ?_
  refine q p2 _ H5 ((((n1.same s2).same s3).same sy).same (s4.trans s5)) hp2 ?_ (by rw [List.length_append, List.length_map, List.length_reverse]; omega)
  rw [er, sw_back ne]
  exact swap_go hs.v hu hw ne hs.t np nq dj hW1 hW2
end
end Td
set_option maxHeartbeats 4000000
namespace Td
open PySem PySem.Spec PyProof.Rows L2 LamX NdefX
theorem cut_dl (l : List Str) : cutV (l.map V.str) none (some (-1)) = l.dropLast.map V.str := by
  unfold cutV
  have e : HT.sIx (l.map V.str).length (l.map V.str).length (some (-1)) = l.length - 1 := by
    rw [List.length_map]
    show (if (-1 : Int) < 0 then ((-1 : Int) + ((l.length : Nat) : Int)).toNat else min (-1 : Int).toNat l.length) = l.length - 1
    rw [if_pos (by decide)]
    omega
  rw [HT.sIx_none, e, List.drop_zero, Nat.sub_zero, List.dropLast_eq_take, List.map_take]
theorem ns5 {rooms : List Str} {rows : List (List Str)} {faces ns : List Str} {ρ : Str → Str} (ht : StV rooms rows faces (plc ns ρ)) : ns.length ≤ 5 := by
  have := ht.p5
  unfold plc at this
  rw [List.length_map] at this
  exact this
theorem ns_nd {rooms : List Str} {rows : List (List Str)} {faces ns : List Str} {ρ : Str → Str} (ht : StV rooms rows faces (plc ns ρ)) : ns.Nodup := by
  have := ht.pnd
  rw [plc_heads] at this
  exact this
theorem ch_facts {rooms : List Str} {rows : List (List Str)} {faces ns : List Str} {ρ : Str → Str} (ht : StV rooms rows faces (plc ns ρ)) {one other : Str} {ch : List Str} {fd : List (Str × List Str)} (ho : one ∈ ns) (hw : other ∈ ns) (S : Spd (nbr (rsOf rooms rows faces (plc ns ρ))) one fd) (hp : (other, ch) ∈ fd) :
    (∀ w ∈ ch, w ∈ ns) ∧ ch.length ≤ 5 ∧ ∃ prs, prs = (ch.map fun x => (one, x)) ++ (ch.dropLast.reverse.map fun x => (other, x)) ∧ SwOk (MtR rooms rows faces) ρ prs ∧ swF ρ prs = swp ρ one other ∧ (∀ e ∈ prs, e.1 ∈ ns ∧ e.2 ∈ ns) ∧ prs.length ≤ 10 := by
  by_cases ne : one = other
  · subst ne
    have := S.mn _ hp [] .nil
    have hc : ch = [] := List.length_eq_zero_iff.mp (Nat.le_zero.mp this)
    subst hc
    refine ⟨fun w hw => (nomatch hw), by decide, [], rfl, trivial, ?_, fun e he => (nomatch he), by decide⟩
    funext n
    show ρ n = if n = one then ρ one else if n = one then ρ one else ρ n
    by_cases z : n = one
    · rw [if_pos z, z]
    · rw [if_neg z, if_neg z]
  · obtain ⟨c, ec, ndc, hch, hcs⟩ := chain_of ht ho ne S hp
    have lch : ch.length ≤ 5 := Nat.le_trans (nodup_sub (List.nodup_cons.mp ndc).2 hcs) (ns5 ht)
    obtain ⟨sw1, sw2⟩ := ex_chain (M := MtR rooms rows faces) (ρ := ρ) (fun _ _ => MtR.symm) (one := one) (other := other) (c := c) (by rw [← ec]; exact ndc) (by rw [← ec]; exact hch)
    have ed : ch.dropLast = c := by rw [ec, List.dropLast_concat]
    refine ⟨hcs, lch, exPr one c other, ?_, sw1, sw2, fun e he => ?_, ?_⟩
    · unfold exPr
      rw [ed, ← ec]
    · unfold exPr at he
      rw [← ec] at he
      rcases List.mem_append.mp he with he | he
      · obtain ⟨x, hx, rfl⟩ := List.mem_map.mp he
        exact ⟨ho, hcs x hx⟩
      · obtain ⟨x, hx, rfl⟩ := List.mem_map.mp he
        exact ⟨hw, hcs x (by rw [ec]; exact List.mem_append_left _ (List.mem_reverse.mp hx))⟩
    · unfold exPr
      rw [ec] at lch
      rw [List.length_append] at lch ⊢
      rw [List.length_map, List.length_map, List.length_append, List.length_reverse]
      omega
def spExA (T : List (Addr × Str)) : Sp := fun vs H Q _ => ∃ (h st : Addr) (u v : Str) (rooms : List Str) (rows : List (List Str)) (faces ns : List Str) (ρ : Str → Str), vs = [.ref h, .ref st, .str u, .str v] ∧ HSy H h st rooms rows faces (plc ns ρ) ∧ u ∈ ns ∧ v ∈ ns ∧ Tabs T H ∧ Cn (rsOf rooms rows faces (plc ns ρ)) u v ∧
  ∀ p row H', Nx T H H' → RowT H' p row → goM rows (faces, plc ns ρ) row = some (faces, plc ns (swp ρ u v)) → row.length ≤ 640 → Q (.ref p) H'
section
variable {P : Program} {w : World} {K : PySem.W.Frag} {mg : Str → Option Value} {base : Heap} {f : Addr} {fd : FuncData} {T : List (Addr × Str)}
abbrev s_exchange_row : Stmt := top 36
abbrev n_exchange_row : List Str := ["hall", "state", "one", "other", "chain", "pairs", "row", "first", "second", "part", "walker"]
theorem sc_exchange_row : FnScope n_exchange_row ["hall", "state", "one", "other"] (defScope s_exchange_row) := ⟨rfl, rfl, rfl, by decide +kernel, rfl, by decide +kernel, by decide +kernel⟩
theorem ok_exchange_row (F : FnP K "exchange_row" s_exchange_row f fd) (hm : mg "exchange_row" = some (.ref f)) (c_swap_row : Cal P w K mg base 7 "_swap_row" (spSwapR T)) (c_chains_from : Cal P w K mg base 8 "chains_from" (spChF T)) (c_run : CalX P w K mg base 6 "run" (spRunM K)) (m_reversed : mg "reversed" = none) :
    Cal P w K mg base 9 "exchange_row" (spExA T) := by
  refine cal_of (F.ok sc_exchange_row (fun vs H Q E h => ?_) (fun cdv A outer s H vs Q E hr h => ?_)) hm F.kp (F.bindsN (ps := ["hall", "state", "one", "other"]) fun _ _ _ _ _ _ us hl => match us, hl with | [_, _, _, _], _ => rfl)
  · obtain ⟨h, st, u, v, rooms, rows, faces, ns, ρ, rfl, hs, hu, hw, hT, hc, q⟩ := h
    rfl
  obtain ⟨h, st, u, v, rooms, rows, faces, ns, ρ, rfl, hs, hu, hw, hT, hc, q⟩ := h
  have nd := sc_exchange_row.nd
  refine ⟨_, PSs.nox (pss_cons (ps_set (i := 4) nd rfl (Or.inl rfl) (pe_dget (hu_of hr) (C8.pe_c c_chains_from hr (by omega) (by rfl) (pa_cons (pv 0) (pa_cons (pv 1) (pa_cons (pv 2) pa_nil)))) (pv 3) (fun _ _ => rfl)))
    (pss_cons (ps_set (i := 5) nd rfl (Or.inl rfl) (pe_op op_cat (pe_lc (own := [("walker", 10)]) (g := (gName 10)) (by rfl) nd (pi_tup (pv 4)) (blkOk_by (own := [("walker", 10)]) (N := n_exchange_row) (sc := defScope s_exchange_row) (by decide +kernel)) (fun _ _ _ _ _ => (pg_name (i := 10) nd rfl (Or.inl rfl))) (fun _ _ _ _ _ => pts_nil) (fun _ _ _ _ _ => (pe_tup (pa_cons (pv 2) (pa_cons (pv 10) pa_nil))))) (pe_lc (own := [("walker", 10)]) (g := (gName 10)) (by rfl) nd (RT.pi_revA (by rfl) m_reversed (pe_slice (r := rSlA K) sl_tupA (pv 4) po_none (po_some (pe_un un_neg pe_int)))) (blkOk_by (own := [("walker", 10)]) (N := n_exchange_row) (sc := defScope s_exchange_row) (by decide +kernel)) (fun _ _ _ _ _ => (pg_name (i := 10) nd rfl (Or.inl rfl))) (fun _ _ _ _ _ => pts_nil) (fun _ _ _ _ _ => (pe_tup (pa_cons (pv 3) (pa_cons (pv 10) pa_nil)))))))
    (pss_cons (ps_set (i := 6) nd rfl (Or.inl rfl) (pe_tup pa_nil))
    (pss_cons (ps_for PassesOwn.never rfl (pi_list (pv 5)) (pg_tup (by rfl) (pgs_cons (pg_name (i := 7) nd rfl (Or.inl rfl)) (pgs_cons (pg_name (i := 8) nd rfl (Or.inl rfl)) pgs_nil))) (pss_cons (ps_set (i := 9) nd rfl (Or.inl rfl) (C8.pe_c c_swap_row hr (by omega) (by rfl) (pa_cons (pv 0) (pa_cons (pv 1) (pa_cons (pv 7) (pa_cons (pv 8) pa_nil))))))
    (pss_cons (ps_set (i := 1) nd rfl (Or.inl rfl) (pe_cX c_run hr (by omega) (fun σ => passF) (by rfl) (pa_cons (pv 0) (pa_cons (pv 1) (pa_cons (pv 9) pa_nil)))))
    (pss_one (ps_set (i := 6) nd rfl (Or.inl rfl) (pe_op (r := rCatA K) op_catA (pv 6) (pv 9)))))))
    (pss_one (ps_ret (pv 6))))))), ?_⟩
  refine ⟨_, rfl, _, rfl, _, rfl, h, st, u, rooms, rows, faces, plc ns ρ, rfl, hs, by rw [plc_heads]; exact hu, hT, fun E n fd2 H1 n1 hF hE hS => ?_⟩
  obtain ⟨⟨v', ch⟩, he, ee⟩ := List.mem_map.mp (hS.iff.mpr hc)
  have he : (v, ch) ∈ fd2 := by rw [← ee]; exact he
  obtain ⟨hcs, lch, prs, hprs, sw1, sw2, hmem, lpr⟩ := ch_facts hs.t hu hw hS he
  have lcd : ch.dropLast.length ≤ 5 := by rw [List.length_dropLast]; omega
  obtain ⟨a, hax, hpa⟩ := hE.get hS.nd he
  refine ⟨_, rfl, E, .ref a, rfl, (by have := DGet.k (k := Sum.inr v) hE.at_; rw [hax] at this; exact this), ?_⟩
  clear hE hax hS hc
  refine ⟨_, rfl, a, rfl, ⟨_, SqT.of hpa⟩, fun B hB => ?_⟩
  refine lc_tup (K := K) (a := a) (xs := ch.map V.str) (fun k Hx => Same H1 Hx ∧ ∃ es : List Addr, Hx B = some (.lst (es.map V.ref)) ∧ RowsAt Hx es (((ch.take k).map fun d => (u, d)).map pr)) ⟨same_new hB _, [], upd_same, RowsAt.nil⟩ (fun k Hx _ ⟨sy, _⟩ => SqT.of (sy _ _ hpa)) (fun k y Hx hy ⟨sy, es, hBx, hM⟩ => ?_) (fun Hx ⟨sy, es, hBx, hM⟩ => ?_)
  · obtain ⟨d, hd, rfl⟩ := str_at hy
    refine ⟨rfl, lcY ?_⟩
    refine ⟨_, rfl, _, rfl, (by show 2 ≤ sizeLine; decide), fun tq htq => ?_⟩
    have sq := same_new htq (.tup [.str u, .str d])
    have htq' : upd Hx tq (.tup [.str u, .str d]) tq = some (.tup ((pr (u, d)).map V.str)) := upd_same
    show ∃ acc, upd Hx tq (.tup [.str u, .str d]) B = some (.lst acc) ∧ _
    generalize upd Hx tq (.tup [.str u, .str d]) = Hz at sq htq' ⊢
    have hBz := sq _ _ hBx
    have el := hM.1
    rw [List.length_map, List.length_map, List.length_take] at el
    have tum : Tu Hz (upd Hz B (.lst (es.map V.ref ++ [.ref tq]))) := fun a xs h => by
      rw [upd_ne (fun e => by rw [e, hBz] at h; cases h)]
      exact h
    refine ⟨_, hBz, ?_, same_mut (sy.trans sq) hB _, es ++ [tq], ?_, ?_⟩
    · rw [List.length_map]
      exact sz100 (by omega)
    · rw [upd_same, List.map_append]
      rfl
    · rw [take_snoc hd, List.map_append, List.map_append]
      exact ((hM.tu (Tu.same sq)).tu tum).snoc (tum _ _ htq')
  rw [List.length_map, List.take_length] at hM
  have hpx := sy _ _ hpa
  refine ⟨_, rfl, 1, rfl, -1, rfl, slT (ys := ch.dropLast.map V.str) hpx (cut_dl ch) fun p2 H3 s3 hp2 => ?_⟩
  refine ⟨p2, _, rfl, .inr ⟨SqT.of hp2, fun B2 hB2 => ?_⟩⟩
  generalize ch.dropLast = c at hprs lcd hp2
  refine lc_gen (n := (c.map V.str).length) (fun k Hy => Same H3 Hy ∧ ∃ fs : List Addr, Hy B2 = some (.lst (fs.map V.ref)) ∧ RowsAt Hy fs (((c.reverse.take k).map fun d => (v, d)).map pr)) ⟨same_new hB2 _, [], upd_same, RowsAt.nil⟩ (fun k Hy hk ⟨sw, fs, hBy, hM2⟩ => ?_) (fun Hy ⟨sw, fs, hBy, hM2⟩ => ?_)
  · have hk' : k < c.length := by rw [List.length_map] at hk; exact hk
    have hpy := sw _ _ hp2
    refine ⟨⟨hk, c.map V.str, _, SqT.of hpy, List.getElem?_eq_getElem (by rw [List.length_map]; omega)⟩, ?_⟩
    rintro x H' ⟨rfl, hx⟩
    have hx := hx _ (SqT.of hpy)
    obtain ⟨d, hd, rfl⟩ := str_at hx
    have hd : c.reverse[k]? = some d := by
      rw [List.getElem?_reverse hk']
      rw [List.length_map] at hd
      exact hd
    refine ⟨rfl, lcY ?_⟩
    refine ⟨_, rfl, _, rfl, (by show 2 ≤ sizeLine; decide), fun tq htq => ?_⟩
    have sq := same_new htq (.tup [.str v, .str d])
    have htq' : upd H' tq (.tup [.str v, .str d]) tq = some (.tup ((pr (v, d)).map V.str)) := upd_same
    show ∃ acc, upd H' tq (.tup [.str v, .str d]) B2 = some (.lst acc) ∧ _
    generalize upd H' tq (.tup [.str v, .str d]) = Hz at sq htq' ⊢
    have hBz := sq _ _ hBy
    have el := hM2.1
    rw [List.length_map, List.length_map, List.length_take, List.length_reverse] at el
    have tum : Tu Hz (upd Hz B2 (.lst (fs.map V.ref ++ [.ref tq]))) := fun a xs h => by
      rw [upd_ne (fun e => by rw [e, hBz] at h; cases h)]
      exact h
    refine ⟨_, hBz, ?_, same_mut (sw.trans sq) hB2 _, fs ++ [tq], ?_, ?_⟩
    · rw [List.length_map]
      exact sz100 (by omega)
    · rw [upd_same, List.map_append]
      rfl
    · rw [take_snoc hd, List.map_append, List.map_append]
      exact ((hM2.tu (Tu.same sq)).tu tum).snoc (tum _ _ htq')
  refine ⟨by show (c.map V.str).length ≤ _; exact Nat.le_refl _, ?_⟩
  rw [List.length_map, ← List.length_reverse, List.take_length] at hM2
  have le1 := hM.1
  have le2 := hM2.1
  rw [List.length_map, List.length_map] at le1 le2
  rw [List.length_reverse] at le2
  refine ⟨B, B2, _, _, rfl, rfl, sw _ _ (s3 _ _ hBx), hBy, ?_, fun C hC => ?_⟩
  · rw [List.length_map, List.length_map]
    exact Nat.le_of_lt (sz100 (by omega))
  have sC := same_new hC (.lst (es.map V.ref ++ fs.map V.ref))
  have hCC : upd Hy C (.lst (es.map V.ref ++ fs.map V.ref)) C = some (.lst ((es ++ fs).map V.ref)) := by rw [upd_same, List.map_append]
  have hP : RowsAt (upd Hy C (.lst (es.map V.ref ++ fs.map V.ref))) (es ++ fs) (prs.map pr) := by
    rw [hprs, List.map_append]
    exact RowsAt.app (hM.tu (Tu.same ((s3.trans sw).trans sC))) (hM2.tu (Tu.same sC))
  have nC : Nx T H (upd Hy C (.lst (es.map V.ref ++ fs.map V.ref))) := (((n1.same sy).same s3).same sw).same sC
  clear hM hM2 hBx hBy
  generalize upd Hy C (.lst (es.map V.ref ++ fs.map V.ref)) = H4 at hCC hP nC ⊢
  refine ⟨(by show 0 ≤ sizeLine; decide), fun R hR => ?_⟩
  have sR := same_new hR (.tup [])
  have hRR : RowT (upd H4 R (.tup [])) R [] := ⟨[], upd_same, RowsAt.nil⟩
  have nR : Nx T H (upd H4 R (.tup [])) := nC.same sR
  have hCR := sR _ _ hCC
  have hPR := hP.tu (Tu.same sR)
  generalize upd H4 R (.tup []) = H5 at hRR nR hCR hPR ⊢
  have hCl : ((es ++ fs).map V.ref).length = prs.length := by rw [List.length_map, hPR.1, List.length_map]
  refine ⟨_, rfl, C, rfl, ⟨_, SqL.of hCR⟩, ?_⟩
  refine for_list (K := K) (a := C) (xs := (es ++ fs).map V.ref) (fun i σ' Hx => ∃ (sp rp : Addr) (l : List Deed) (v7 v8 v9 : Option V), σ' = [some (.ref h), some (.ref sp), some (.str u), some (.str v), some (.ref a), some (.ref C), some (.ref rp), v7, v8, v9, none] ∧ Nx T H5 Hx ∧ RowT Hx rp l ∧ HSy Hx h sp rooms rows faces (plc ns (swF ρ (prs.take i))) ∧ goM rows (faces, plc ns ρ) l = some (faces, plc ns (swF ρ (prs.take i))) ∧ l.length ≤ 32 * i)
    ⟨st, R, [], none, none, none, rfl, Nx.refl nR.t, hRR, hs.nx nR, rfl, Nat.le_refl _⟩ (fun i σ' Hx _ ⟨_, _, _, _, _, _, _, nx, _⟩ => SqL.of (nx.lst hCR)) (fun i y σ' Hx hy hI => ?_) (fun σ' Hx hI => ?_)
  rotate_left
  · obtain ⟨sp, rp, l, v7, v8, v9, rfl, nx, hrp, hsp, hgo, hl⟩ := hI
    rw [hCl] at hgo hl
    rw [List.take_length, sw2] at hgo
    exact ⟨_, rfl, q rp l Hx (nR.trans nx) hrp hgo (by omega)⟩
  obtain ⟨sp, rp, l, v7, v8, v9, rfl, nx, hrp, hsp, hgo, hl⟩ := hI
  obtain ⟨b, r, rfl, hri, hrb⟩ := (hPR.tu nx.tu).row hy
  rw [List.getElem?_map] at hri
  cases hpi : prs[i]? with
  | none => rw [hpi] at hri; cases hri
  | some e =>
  rw [hpi] at hri
  cases hri
  have il := (List.getElem?_eq_some_iff.mp hpi).1
  obtain ⟨nee, hmt⟩ := sw1.at_ i e hpi
  obtain ⟨m1, m2⟩ := hmem e (List.mem_of_getElem? hpi)
  refine ⟨b, _, rfl, SqT.of hrb, rfl, _, _, rfl, _, _, rfl, rfl, ?_⟩
  refine ⟨_, rfl, _, rfl, _, rfl, _, rfl, h, sp, e.1, e.2, rooms, rows, faces, ns, swF ρ (prs.take i), rfl, hsp, m1, m2, nee, nx.t, hmt, fun pp part H6 n6 hpp hg6 hl6 => ?_⟩
  have hs6 := hsp.nx n6
  refine ⟨_, rfl, _, rfl, _, rfl, h, sp, pp, rooms, rows, faces, plc ns (swF ρ (prs.take i)), part, rfl, hs6, hpp.rwX, fun j p s' h1 h2 h3 => (go_all hg6 h1 h2 h3).elim, fun s' h1 p7 H7 s7 hp7 => ?_⟩
  rw [hg6] at h1
  cases h1
  have n7 : Nx T H5 H7 := (nx.trans n6).same s7
  have st7 := goM_st hs.v (s := (faces, plc ns (swF ρ (prs.take i)))) hsp.t hg6
  have hs7 : HSy H7 h p7 rooms rows faces (plc ns (swF ρ (prs.take (i + 1)))) := by
    rw [swF_snoc hpi]
    exact ⟨hs6.h.tu (Tu.same s7), hs.v, hp7, st7⟩
  refine ⟨_, rfl, _, rfl, row_cat ((hrp.tu n6.tu).tu (Tu.same s7)) (hpp.tu (Tu.same s7)) (by omega) fun p8 H8 s8 hp8 => ?_⟩
  refine ⟨p7, p8, l ++ part, _, _, _, rfl, n7.same s8, hp8, hs7.same s8, ?_, by rw [List.length_append]; omega⟩
  rw [goM_ap hgo, swF_snoc hpi]
  exact hg6
end
end Td
set_option maxHeartbeats 4000000
namespace Td
open PySem PySem.Spec PyProof.Rows L2
section
variable {P : Program} {w : World} {K : PySem.W.Frag} {mg : Str → Option Value} {base : Heap} {f : Addr} {fd : FuncData}
theorem ok_er {x q : Str} {st : Stmt} (T : ErrT K x) (sc : FnScope ["self", "name"] ["self", "name"] (defScope st))
    (wk : ∀ (cdv : Value) (A : Around) (outer : List Env) (s : Shared) (H : Hp) (E : XK), PSs (cxOf C8.CX0 P w K mg base ["self", "name"] q (defScope st) f cdv A outer s H E) (defBody st) (tKst K "name" (tVar 0) (tVar 1)))
    (F : FunD K "__init__" q (defArgs st) (defBody st) (defScope st) [] [] f fd) : FnOk P w K mg base C8.CX0 1 f fd ["self", "name"] (spErrI (He.ga K x)) := by
  refine F.ok sc (fun vs H Q E h => ?_) (fun cdv A outer s H vs Q E hr h => ?_)
  · obtain ⟨a, v, rfl, ha, q⟩ := h
    rfl
  obtain ⟨a, v, rfl, ha, q⟩ := h
  exact ⟨_, wk cdv A outer s H E, _, rfl, _, rfl, a, He.ga K x, rfl, T.kx, T.no, ha, fun dx hd ne => q dx hd ne⟩
theorem ok_ev {x q fl : Str} {st : Stmt} (T : ErrV K x fl) (sc : FnScope ["self", fl] ["self", fl] (defScope st))
    (wk : ∀ (cdv : Value) (A : Around) (outer : List Env) (s : Shared) (H : Hp) (E : XK), PSs (cxOf C8.CX0 P w K mg base ["self", fl] q (defScope st) f cdv A outer s H E) (defBody st) (tOst K fl (tVar 0) (tVar 1)))
    (F : FunD K "__init__" q (defArgs st) (defBody st) (defScope st) [] [] f fd) : FnOk P w K mg base C8.CX0 1 f fd ["self", fl] (spErrV (He.ga K x) fl) := by
  refine F.ok sc (fun vs H Q E h => ?_) (fun cdv A outer s H vs Q E hr h => ?_)
  · obtain ⟨a, v, rfl, ha, q⟩ := h
    rfl
  obtain ⟨a, v, rfl, ha, q⟩ := h
  exact ⟨_, wk cdv A outer s H E, _, rfl, _, rfl, a, He.ga K x, rfl, T.ox, T.no, .inl ⟨ha, fun dx hd ne => q dx hd ne⟩⟩
end
end Td
set_option maxHeartbeats 4000000
namespace Td
open PySem PySem.Spec PyProof.Rows L2
/-! ### an own class over ValueError with its own __init__, two fields -/
structure ErrV2 (K : PySem.W.Frag) (x f1 f2 : Str) : Prop where
  v : ErrV K x f1
  no2 : PySem.W.findIn K (.ref (He.ga K x)) f2 = some none
def errV2B (K : PySem.W.Frag) (x f1 f2 : Str) : Bool := errVB K x f1 && decide (PySem.W.findIn K (.ref (He.ga K x)) f2 = some none)
theorem errV2B_ok {K : PySem.W.Frag} {x f1 f2 : Str} (h : errV2B K x f1 f2 = true) : ErrV2 K x f1 f2 := by
  unfold errV2B at h
  simp only [Bool.and_eq_true, decide_eq_true_eq] at h
  exact ⟨errVB_ok h.1, h.2⟩
def spErrV2 (C : Addr) (f1 f2 : Str) : Sp := fun vs H Q _ => ∃ (a : Addr) (v u : V), vs = [.ref a, v, u] ∧ H a = some (exo a C none) ∧ ∀ dx, H dx = none → dx ≠ a → Q .non (upd (upd (upd H dx (exd dx [(f1, v)])) a (exo a C (some dx))) dx (exd dx [(f2, u), (f1, v)]))
theorem mk_end_v2 {C : Addr} {f1 f2 : Str} {H : Hp} {Q : XK} {v u : V} (h : ∀ d, H d = none → Q (.ref C) (some d) (upd H d (.xd [(f2, u), (f1, v)]))) :
    ([v, u] : List V).length ≤ 1000 ∧ ∀ a, H a = none → spErrV2 C f1 f2 (.ref a :: ([v, u] ++ [])) (upd H a (exo a C none)) (fun z H2 => z = .non ∧ ∃ (d : Addr) (fs : List (Str × V)), H2 a = some (exo a C (some d)) ∧ H2 d = some (exd d fs) ∧ H d = none ∧ Q (.ref C) (some d) (upd (del H2 a) d (.xd fs))) (fun _ _ _ => False) := by
  refine ⟨by show 2 ≤ 1000; decide, fun a ha => ⟨a, v, u, rfl, upd_same, fun dx hd ne => ⟨rfl, dx, [(f2, u), (f1, v)], by rw [upd_ne ne.symm]; exact upd_same, upd_same, by rw [upd_ne ne] at hd; exact hd, ?_⟩⟩⟩
  rw [upd_ne ne] at hd
  have e : upd (del (upd (upd (upd (upd H a (exo a C none)) dx (exd dx [(f1, v)])) a (exo a C (some dx))) dx (exd dx [(f2, u), (f1, v)])) a) dx (.xd [(f2, u), (f1, v)]) = upd H dx (.xd [(f2, u), (f1, v)]) := by
    funext b
    by_cases hb : b = dx
    · rw [hb, upd_same, upd_same]
    · rw [upd_ne hb, upd_ne hb]
      by_cases hb2 : b = a
      · rw [hb2, del_same, ha]
      · rw [del_ne hb2, upd_ne hb, upd_ne hb2, upd_ne hb, upd_ne hb2]
  rw [e]
  exact h dx hd
structure ErrMV2 (P : Program) (w : World) (K : PySem.W.Frag) (mg : Str → Option Value) (base : Heap) (x f1 f2 : Str) : Prop where
  t : ErrV2 K x f1 f2
  g : mg x = some (.ref (He.ga K x))
  i : ∃ (fd : FuncData) (ps : List Str), FnOk P w K mg base C8.CX0 1 (He.ma K (He.ga K x) "__init__") fd ps (spErrV2 (He.ga K x) f1 f2) ∧ Binds K fd ps []
theorem pmk_errV2 {X : Cx} {x f1 f2 : Str} {p pos : Pos} {e : Expr} {es : List Expr} {t : TA} {k : Nat} (M : ErrMV2 X.prog X.w X.K X.mg X.base x f1 f2) (hr : Room k X.A) (hk : 2 ≤ k) (hg : Gl X x) (ha : PA X (e :: es) t) (hdb : (x == ("__debug__" : Str)) = false := by decide)
    (he : starEach (e :: es) X.env = (false, eval e X.env) :: starEach es X.env := by rfl) (hpl : (backTo pos (starEach es X.env)).any (·.1) = false := by rfl) :
    PMk X (.Call (.Name x p) (e :: es) [] pos) (tMkO (He.ga X.K x) (spErrV2 (He.ga X.K x) f1 f2) [] t) := by
  obtain ⟨fd, ps, F, hb⟩ := M.i
  exact pmk_oex (CX := C8.CX0) (ds := []) (dvs := []) M.t.v.ox M.t.v.iC M.t.v.tI F (hr.mono hk) hb .nil C8.pass0 hg M.g ha hdb he hpl
section
variable {P : Program} {w : World} {K : PySem.W.Frag} {mg : Str → Option Value} {base : Heap} {f : Addr} {fd : FuncData}
theorem ok_ev2 {x q f1 f2 : Str} {st : Stmt} (T : ErrV2 K x f1 f2) (sc : FnScope ["self", f1, f2] ["self", f1, f2] (defScope st))
    (wk : ∀ (cdv : Value) (A : Around) (outer : List Env) (s : Shared) (H : Hp) (E : XK), PSs (cxOf C8.CX0 P w K mg base ["self", f1, f2] q (defScope st) f cdv A outer s H E) (defBody st) (fun D => tOst K f1 (tVar 0) (tVar 1) { D with nx := fun σ H => tOst K f2 (tVar 0) (tVar 2) D σ H }))
    (F : FunD K "__init__" q (defArgs st) (defBody st) (defScope st) [] [] f fd) : FnOk P w K mg base C8.CX0 1 f fd ["self", f1, f2] (spErrV2 (He.ga K x) f1 f2) := by
  refine F.ok sc (fun vs H Q E h => ?_) (fun cdv A outer s H vs Q E hr h => ?_)
  · obtain ⟨a, v, u, rfl, ha, q⟩ := h
    rfl
  obtain ⟨a, v, u, rfl, ha, q⟩ := h
  refine ⟨_, wk cdv A outer s H E, _, rfl, _, rfl, a, He.ga K x, rfl, T.v.ox, T.v.no, .inl ⟨ha, fun dx hd ne => ?_⟩⟩
  exact ⟨_, rfl, _, rfl, a, He.ga K x, rfl, T.v.ox, T.no2, .inr ⟨dx, [(f1, v)], upd_same, by rw [upd_ne ne]; exact upd_same, by show 1 ≤ 900; decide, q dx hd ne⟩⟩
end
end Td
set_option maxHeartbeats 4000000
namespace Td
open PySem PySem.Spec PyProof.Rows L2
/-! ### ends and doors: the promises -/
def nmOf (r : List Str) : Str := r.headD ""
/-- the door's ends -/
def endsM (rows : List (List Str)) (x : Str) : Option (List Str) := (rows.find? fun r => nmOf r == x).map (·.drop 1)
/-- the doors at a room -/
def doorsM (rows : List (List Str)) (x : Str) : List Str := (rows.filter fun r => (r.drop 1).contains x).map nmOf
def errX (K : PySem.W.Frag) (E : XK) (c : Str) (x : Str) (H : Hp) : Prop := ∀ H', Same H H' → ∀ d, H' d = none → E (.ref (He.ga K c)) (some d) (upd H' d (.xd [("name", .str x)]))
def spEndsOf (K : PySem.W.Frag) : Sp := fun vs H Q E => ∃ (h : Addr) (x : Str) (rooms : List Str) (rows : List (List Str)), vs = [.ref h, .str x] ∧ HS H h rooms rows ∧ HallV rooms rows ∧
  (∀ es, endsM rows x = some es → ∀ p H', Same H H' → H' p = some (.tup (es.map V.str)) → Q (.ref p) H') ∧ (endsM rows x = none → errX K E "UnknownDoor" x H)
def spChkR (K : PySem.W.Frag) : Sp := fun vs H Q E => ∃ (h : Addr) (x : Str) (rooms : List Str) (rows : List (List Str)), vs = [.ref h, .str x] ∧ HS H h rooms rows ∧
  (x ∈ rooms → ∀ H', Same H H' → Q .non H') ∧ (x ∉ rooms → errX K E "UnknownRoom" x H)
def spDoorsAt (K : PySem.W.Frag) : Sp := fun vs H Q E => ∃ (h : Addr) (x : Str) (rooms : List Str) (rows : List (List Str)), vs = [.ref h, .str x] ∧ HS H h rooms rows ∧ HallV rooms rows ∧
  (x ∈ rooms → ∀ p H', Same H H' → H' p = some (.tup ((doorsM rows x).map V.str)) → Q (.ref p) H') ∧ (x ∉ rooms → errX K E "UnknownRoom" x H)
/-- what is told: a result, an unknown door, an unknown room -/
def tellR (l : List Str) : PyData := .tuple [.str "result", .tuple (l.map PyData.str)]
def tellE (w x : Str) : PyData := .tuple [.str w, .str x, .bool true, .bool false]
def endsT (rows : List (List Str)) (x : Str) : PyData := match endsM rows x with
  | some es => tellR es
  | none => tellE "door" x
def atT (rooms : List Str) (rows : List (List Str)) (x : Str) : PyData := if x ∈ rooms then tellR (doorsM rows x) else tellE "room" x
/-- the law's own -/
def spLEnds : Sp := fun vs H Q _ => ∃ (h : Addr) (x : Str) (rooms : List Str) (rows : List (List Str)), vs = [.ref h, .str x] ∧ HS H h rooms rows ∧ HallV rooms rows ∧ ∀ p H', Same H H' → DR H' 4 (.ref p) (endsT rows x) → Q (.ref p) H'
def spLAt : Sp := fun vs H Q _ => ∃ (h : Addr) (x : Str) (rooms : List Str) (rows : List (List Str)), vs = [.ref h, .str x] ∧ HS H h rooms rows ∧ HallV rooms rows ∧ ∀ p H', Same H H' → DR H' 4 (.ref p) (atT rooms rows x) → Q (.ref p) H'
/-- _law_told(ends_of | doors_at, hall, name) -/
def spTold (K : PySem.W.Frag) (mg : Str → Option Value) : Sp := fun vs H Q _ => ∃ (h f : Addr) (x : Str) (rooms : List Str) (rows : List (List Str)), vs = [.ref f, .ref h, .str x] ∧ HS H h rooms rows ∧ HallV rooms rows ∧
  ((mg "ends_of" = some (.ref f) ∧ ∀ p H', Same H H' → DR H' 4 (.ref p) (endsT rows x) → Q (.ref p) H') ∨ (mg "doors_at" = some (.ref f) ∧ ∀ p H', Same H H' → DR H' 4 (.ref p) (atT rooms rows x) → Q (.ref p) H'))
theorem drE {H : Hp} {t : Addr} {w x : Str} (h : H t = some (.tup [.str w, .str x, .bl true, .bl false])) : DR H 4 (.ref t) (tellE w x) := by
  refine .inr ⟨t, _, _, rfl, rfl, h, ⟨rfl, by show 4 ≤ 1000; decide⟩, fun i v e a1 a2 => .inl ?_⟩
  match i with
  | 0 => cases a1; cases a2; exact .inl ⟨w, rfl, rfl⟩
  | 1 => cases a1; cases a2; exact .inl ⟨x, rfl, rfl⟩
  | 2 => cases a1; cases a2; exact .inr (.inl ⟨true, rfl, rfl⟩)
  | 3 => cases a1; cases a2; exact .inr (.inl ⟨false, rfl, rfl⟩)
  | i + 4 => cases a1
theorem drR {H : Hp} {t u : Addr} {l : List Str} (h : H t = some (.tup [.str "result", .ref u])) (h2 : H u = some (.tup (l.map V.str))) (hl : l.length ≤ 1000) : DR H 4 (.ref t) (tellR l) := by
  refine .inr ⟨t, _, _, rfl, rfl, h, ⟨rfl, by show 2 ≤ 1000; decide⟩, fun i v e a1 a2 => ?_⟩
  match i with
  | 0 => cases a1; cases a2; exact .inl (.inl ⟨"result", rfl, rfl⟩)
  | 1 =>
    cases a1; cases a2
    refine .inr ⟨u, _, _, rfl, rfl, h2, ⟨by rw [List.length_map, List.length_map], by rw [List.length_map]; exact hl⟩, fun j v e b1 b2 => .inl ?_⟩
    rw [List.getElem?_map] at b1 b2
    cases z : l[j]? with
    | none => rw [z] at b1; cases b1
    | some y =>
      rw [z] at b1 b2
      cases b1; cases b2
      exact .inl ⟨y, rfl, rfl⟩
  | i + 2 => cases a1
/-! ### a call of a local name that holds a def which may raise -/
def tCallAS (i : Nat) (S : Addr → Sp → Prop) (E : L2.St → XK) (t : TA) : TE := fun σ H Q => ∃ f sp, σ[i]? = some (some (.ref f)) ∧ S f sp ∧ t σ H fun vs H1 => sp vs H1 Q (E σ)
theorem pe_callAS {X : Cx} {k i : Nat} {x : Str} {p pos : Pos} {e : Expr} {es : List Expr} {t : TA} {S : Addr → Sp → Prop} {E : L2.St → XK}
    (A : ∀ f sp, S f sp → ∃ (fd : FuncData) (ps : List Str), FnOk X.prog X.w X.K X.mg X.base (L2.CX X.prog X.w) k f fd ps sp ∧ PySem.W.keepIn X.K (.ref f) = true ∧ Binds X.K fd ps [])
    (hr : Room k X.A) (hN : X.N[i]? = some x) (hv : Vis X.env.scope x) (hx : ∀ σ, PassesAt (L2.CX X.prog X.w) X σ (E σ)) (ha : PA X (e :: es) t) (hdb : (x == ("__debug__" : Str)) = false := by decide) (hcd : (x == ("__classdict__" : Str)) = false := by decide)
    (he : starEach (e :: es) X.env = (false, eval e X.env) :: starEach es X.env := by rfl) (hpl : (backTo pos (starEach es X.env)).any (·.1) = false := by rfl) : PE X (.Call (.Name x p) (e :: es) [] pos) (tCallAS i S E t) := by
  refine ⟨fun pins s σ H Q I ⟨f, sp, hs, hS, ht⟩ => ?_⟩
  obtain ⟨fd, ps, F, hk, hb⟩ := A f sp hS
  refine wpAny_Call_Name_kw (thn ((pe_var (pos := p) hN hv hdb hcd).run pins s σ H (fun v H1 => v = .ref f ∧ H1 = H) I ⟨.ref f, hs, rfl, rfl⟩) fun u s1 ⟨v, H1, I1, r1, q1⟩ => ?_)
  obtain ⟨rfl, rfl⟩ := q1
  cases r1
  exact PySem.W.callWith_K (h₀ := X.base) I.ok.mod.kin hk (thn (ha.run pos pins s1 σ _ _ I1 ht) fun us s2 ⟨vs, H2, I2, r, q⟩ => ⟨I2.kIn, run_fnS F hr hb (hx σ) I2 r q⟩) he hpl
end Td
set_option maxHeartbeats 4000000
namespace Td
open PySem PySem.Spec PyProof.Rows L2
/-! ### (a, *r) = a tuple: the last target takes the rest as a list -/
section
variable {prog : Program} {w : World} {A : Around} {E : Value → Shared → Prop} {s : Shared}
theorem rest_tup {t : Addr} {its : Array Value} {k : Nat} {Q : List Value → Shared → Prop} (hh : A.handled = none) (ht : IsTup s.heap t its) (hk : k ≤ its.size) (hz : its.size ≤ sizeLine)
    (q : ∀ (h2 : Heap) (tk : Nat), (∀ b o, s.heap.get? b = some o → h2.get? b = some o) → Q (its.toList.take k ++ [.ref h2.objs.size]) { s with heap := h2.push { cls := .type "list", data := .seq (its.toList.drop k).toArray }, toks := tk }) :
    wpAny (model prog w) A (unpackItems (.ref t) (k + 1) (some k)) Q E s := by
  have tn : t ≠ s.heap.objs.size := Nat.ne_of_lt ht.lt
  have tl : (its.toList.take k).length = k := by rw [List.length_take, Array.length_toList, Nat.min_eq_left hk]
  unfold unpackItems notIterableAtAll
  refine wpAny_bind (wpAny_bind (wpAny_specialOf ht.typeIs slot_tuple_iter.lookup (wpAny_pure ?_)))
  show wpAny _ _ (holding _ (pyIter (.ref t)) >>= _) _ _ _
  refine wpAny_bind (wpAny_holding (iter_tuple ht ?_))
  dsimp only
  refine wpAny_bind (wpAny_holding (draw_tuple tn k 0 _ _ ⟨_, Heap.get?_push_size _ rfl, rfl, rfl⟩ (ht.push _) (by omega) fun g1 i1 b1 => ?_))
  rw [List.drop_zero, tl, if_neg (Nat.lt_irrefl k)]
  rw [Nat.zero_add] at i1
  have t1 := (ht.push { cls := .type "tuple_iterator", data := .fields #[.ref t, .int 0 0] }).extBut b1.extBut tn
  have j1 : s.heap.objs.size < g1.objs.size := by
    obtain ⟨o, ho, _⟩ := id i1
    exact Heap.lt_size ho
  refine wpAny_bind (wpAny_holding (PySem.W.kun_collect (s := { s with heap := g1 }) (T := "tuple_iterator") (.inr (.inr (.inr rfl))) (Walks.tuple (A := A.in1) hh s.heap.objs.size t tn its) (fun _ _ z => z.1.typeIs) hk ⟨i1, t1⟩ j1 t1.lt (fun g2 tk k2 => ?_) hz))
  have dl : (its.toList.drop k).length - (k + 1 - 1 - k) = (its.toList.drop k).length := by omega
  dsimp only
  rw [if_neg (by omega), dl, List.take_length, List.drop_length]
  refine wpAny_bind (wpAny_newList (s := { s with heap := g2, toks := tk }) ?_)
  refine wpAny_pure ?_
  rw [List.append_nil]
  exact q g2 tk fun b o e => k2 b o (Nat.ne_of_lt (Heap.lt_size e)) (b1.extBut b o (Nat.ne_of_lt (Heap.lt_size e)) (Heap.get?_push_of_some _ e))
end
def gRest (K : PySem.W.Frag) (k : Nat) (t : TGs) : TG := fun v σ H Q => ∃ a xs, v = .ref a ∧ SqT K H a xs ∧ k ≤ xs.length ∧ ∀ p, H p = none → t (xs.take k ++ [.ref p]) σ (upd H p (.lst (xs.drop k))) Q
theorem pgs_star {X : Cx} {e : Expr} {p : Pos} {t : TG} (h1 : PG X e t) (hs : (assignEach [.Starred e p] X.env).map (·.2) = [assign e X.env] := by rfl) : PGs X [.Starred e p] (gCons t gNil) := by
  refine ⟨fun pins s σ H vs us Q I r h => ?_⟩
  obtain ⟨v, vr, rfl, h⟩ := h
  cases r with
  | cons r rr =>
    rw [hs]
    refine assignInOrder_cons (thn (h1.run pins s σ H _ _ _ I r h) fun _ s1 ⟨σ1, H1, I1, e1, q1⟩ => ?_)
    subst e1
    cases rr
    exact assignInOrder_nil ⟨σ1, H1, I1, q1⟩
theorem pg_rest {X : Cx} {es : List Expr} {n : Nat} {pos : Pos} {t : TGs} {k : Nat} (hc : X.calm = true) (h : PGs X es t) (hn : (assignEach es X.env).length = k + 1 := by rfl) (hst : (assignEach es X.env).findIdx? (·.1) = some k := by rfl) :
    PG X (.Tuple es n pos) (gRest X.K k t) := by
  refine ⟨fun pins s σ H v u Q I r hw => ?_⟩
  obtain ⟨a, xs, rfl, hq, hl, hw⟩ := hw
  cases r
  obtain ⟨its, rv, ht, hz⟩ := I.tuple hq
  rw [assign_Tuple]
  refine wpAny_bind (wpAny_standAt ?_)
  unfold unpack
  rw [hn, hst]
  have e : xs.length = its.length := rv.length
  refine wpAny_bind (wpAny_holding (rest_tup (I.ok.hd hc) ht (by rw [List.size_toArray]; omega) (by rw [List.size_toArray]; omega) fun h2 tk k2 => ?_))
  have I1 := I.kept (t' := tk) k2
  have hn1 : H h2.objs.size = none := I1.hok.fresh (Nat.le_refl _)
  have I2 := I1.laid (t' := tk) (a := h2.objs.size) (o := .lst (xs.drop k)) (h' := h2.push { cls := .type "list", data := .seq (its.drop k).toArray }) (fun b o e => Heap.get?_push_of_some _ e) (Nat.le_refl _) ?_
  · exact h.run pins _ σ _ (xs.take k ++ [.ref h2.objs.size]) _ Q I2 ((Vals.take k rv).append (show Vals [V.ref h2.objs.size] [Value.ref h2.objs.size] from .cons rfl .nil)) (hw _ hn1)
  · exact (show ObjOk X.prog X.w _ _ _ (.lst (xs.drop k)) from ⟨by rw [List.length_drop]; omega, its.drop k, 0, Vals.drop k rv, by simpa using Heap.get?_push_size h2 rfl⟩)
end Td
set_option maxHeartbeats 4000000
namespace Td
open PySem PySem.Spec PyProof.Rows L2
/-! ### a room merged into another -/
def gX (one other x : Str) : Str := if x = other then one else x
def gR (one other : Str) (r : List Str) : List Str := r.headD "" :: r.tail.map (gX one other)
def badR (one other : Str) (r : List Str) : Prop := gX one other (r.getD 1 "") = gX one other (r.getD 2 "")
instance (one other : Str) (r : List Str) : Decidable (badR one other r) := by unfold badR; infer_instance
def badL (one other : Str) : Nat → List (List Str) → Option Nat
  | _, [] => none
  | k, r :: rs => if badR one other r then some k else badL one other (k + 1) rs
theorem badL_app (one other : Str) : ∀ (l1 l2 : List (List Str)) (k : Nat), badL one other k (l1 ++ l2) = match badL one other k l1 with | some j => some j | none => badL one other (k + l1.length) l2
  | [], l2, k => rfl
  | r :: rs, l2, k => by
    show (if badR one other r then some k else badL one other (k + 1) (rs ++ l2)) = _
    rw [badL_app one other rs l2 (k + 1)]
    by_cases h : badR one other r
    · rw [if_pos h, show badL one other k (r :: rs) = some k from if_pos h]
    · rw [if_neg h, show badL one other k (r :: rs) = badL one other (k + 1) rs from if_neg h, List.length_cons, show k + 1 + rs.length = k + (rs.length + 1) by omega]
theorem badL_step {one other : Str} {rows : List (List Str)} {i : Nat} {r : List Str} (hi : rows[i]? = some r) (h : badL one other 0 (rows.take i) = none) :
    (badR one other r → badL one other 0 rows = some i) ∧ (¬ badR one other r → badL one other 0 (rows.take (i + 1)) = none) := by
  have hil := (List.getElem?_eq_some_iff.mp hi).1
  have tl : (rows.take i).length = i := by rw [List.length_take]; omega
  refine ⟨fun hb => ?_, fun hb => ?_⟩
  · have e : rows = rows.take i ++ (r :: rows.drop (i + 1)) := by
      have z := List.take_append_drop (i + 1) rows
      rw [take_snoc hi, List.append_assoc] at z
      exact z.symm
    have z := badL_app one other (rows.take i) (r :: rows.drop (i + 1)) 0
    rw [← e, h, tl] at z
    rw [z]
    show badL one other (0 + i) (r :: rows.drop (i + 1)) = some i
    rw [Nat.zero_add]
    exact if_pos hb
  · rw [take_snoc hi, badL_app, h]
    exact if_neg hb
theorem badL_none {one other : Str} : ∀ {rows : List (List Str)} {k : Nat}, badL one other k rows = none → ∀ r ∈ rows, ¬ badR one other r
  | r :: rs, k, h, x, hx => by
    have h' : (if badR one other r then some k else badL one other (k + 1) rs) = none := h
    by_cases hb : badR one other r
    · rw [if_pos hb] at h'
      cases h'
    · rw [if_neg hb] at h'
      rcases List.mem_cons.mp hx with rfl | hx
      · exact hb
      · exact badL_none h' x hx
/-- what is due -/
inductive GD where
  | room (x : Str)
  | hall (s : Str) (k : Nat)
  | ok
def glM (rooms : List Str) (rows : List (List Str)) (one other : Str) : GD :=
  if one ∈ rooms then (if other ∈ rooms then (match badL one other 0 rows with
    | some k => .hall "end" k
    | none => if one = other then .hall "rooms" 0 else .ok) else .room other) else .room one
def glS (rooms : List Str) (other : Str) : List Str := rooms.filter fun r => !decide (r = other)
def glRs (rows : List (List Str)) (one other : Str) : List (List Str) := rows.map (gR one other)
theorem glM_one {rooms : List Str} {rows : List (List Str)} {one other : Str} (h : one ∉ rooms) : glM rooms rows one other = .room one := if_neg h
theorem glM_other {rooms : List Str} {rows : List (List Str)} {one other : Str} (h : one ∈ rooms) (h2 : other ∉ rooms) : glM rooms rows one other = .room other := by
  unfold glM
  rw [if_pos h, if_neg h2]
theorem glM_bad {rooms : List Str} {rows : List (List Str)} {one other : Str} {k : Nat} (h : one ∈ rooms) (h2 : other ∈ rooms) (hb : badL one other 0 rows = some k) : glM rooms rows one other = .hall "end" k := by
  unfold glM
  rw [if_pos h, if_pos h2, hb]
theorem glM_same {rooms : List Str} {rows : List (List Str)} {one other : Str} (h : one ∈ rooms) (h2 : other ∈ rooms) (hb : badL one other 0 rows = none) (e : one = other) : glM rooms rows one other = .hall "rooms" 0 := by
  unfold glM
  rw [if_pos h, if_pos h2, hb]
  exact if_pos e
theorem glM_ok {rooms : List Str} {rows : List (List Str)} {one other : Str} (h : one ∈ rooms) (h2 : other ∈ rooms) (hb : badL one other 0 rows = none) (e : one ≠ other) : glM rooms rows one other = .ok := by
  unfold glM
  rw [if_pos h, if_pos h2, hb]
  exact if_neg e
theorem glM_is_ok {rooms : List Str} {rows : List (List Str)} {one other : Str} (h : glM rooms rows one other = .ok) : one ∈ rooms ∧ other ∈ rooms ∧ badL one other 0 rows = none ∧ one ≠ other := by
  by_cases h1 : one ∈ rooms
  · by_cases h2 : other ∈ rooms
    · cases hb : badL one other 0 rows with
      | some k => rw [glM_bad h1 h2 hb] at h; cases h
      | none =>
        by_cases e : one = other
        · rw [glM_same h1 h2 hb e] at h; cases h
        · exact ⟨h1, h2, rfl, e⟩
    · rw [glM_other h1 h2] at h; cases h
  · rw [glM_one h1] at h; cases h
theorem gl_valid {rooms : List Str} {rows : List (List Str)} {one other : Str} (hv : HallV rooms rows) (h : glM rooms rows one other = .ok) : HallV (glS rooms other) (glRs rows one other) := by
  obtain ⟨h1, h2, hb, e⟩ := glM_is_ok h
  have mem : ∀ x, x ∈ rooms → gX one other x ∈ glS rooms other := fun x hx => by
    unfold gX glS
    by_cases c : x = other
    · rw [if_pos c]
      exact List.mem_filter.mpr ⟨h1, by rw [decide_eq_false e]; rfl⟩
    · rw [if_neg c]
      exact List.mem_filter.mpr ⟨hx, by rw [decide_eq_false c]; rfl⟩
  refine ⟨?_, ?_, ?_, ?_, ?_, ?_, ?_⟩
  · have z : one ∈ glS rooms other := List.mem_filter.mpr ⟨h1, by rw [decide_eq_false e]; rfl⟩
    exact List.length_pos_of_mem z
  · exact Nat.le_trans (List.length_filter_le _ _) hv.r8
  · exact hv.nd.sublist List.filter_sublist
  · exact fun x hx => hv.nm x (List.mem_filter.mp hx).1
  · unfold glRs
    rw [List.length_map]
    exact hv.d12
  · intro r hr
    obtain ⟨p, hp, rfl⟩ := List.mem_map.mp hr
    obtain ⟨n, a, b, rfl, hn, ha, hb', hab⟩ := hv.row p hp
    exact ⟨n, gX one other a, gX one other b, rfl, hn, mem a ha, mem b hb', badL_none hb _ hp⟩
  · unfold glRs
    rw [List.map_map]
    exact hv.dn
theorem glS_snoc {rooms : List Str} {i : Nat} {x other : Str} (h : rooms[i]? = some x) : glS (rooms.take (i + 1)) other = glS (rooms.take i) other ++ (if x = other then [] else [x]) := by
  unfold glS
  rw [take_snoc h, List.filter_append]
  by_cases c : x = other
  · rw [if_pos c, List.filter_cons_of_neg (by rw [decide_eq_true c]; decide)]
    rfl
  · rw [if_neg c, List.filter_cons_of_pos (by rw [decide_eq_false c]; rfl)]
    rfl
theorem glR_snoc {rows : List (List Str)} {i : Nat} {r : List Str} {one other : Str} (h : rows[i]? = some r) : glRs (rows.take (i + 1)) one other = glRs (rows.take i) one other ++ [gR one other r] := by
  unfold glRs
  rw [take_snoc h, List.map_append]
  rfl
/-- what stands at t -/
def GAt (H : Hp) (t : Addr) (g : GD) (ss : List Str) (rs : List (List Str)) : Prop := match g with
  | .room x => H t = some (.tup [.str "room", .str x])
  | .hall s k => H t = some (.tup [.str "hall", .str s, .int (k : Nat)])
  | .ok => ∃ p, H t = some (.tup [.str "result", .ref p]) ∧ HS H p ss rs
def gD (g : GD) (ss : List Str) (rs : List (List Str)) : PyData := match g with
  | .room x => .tuple [.str "room", .str x]
  | .hall s k => .tuple [.str "hall", .str s, .int (k : Nat)]
  | .ok => .tuple [.str "result", hsD ss rs]
theorem GAt.tu {H H' : Hp} {t : Addr} {g : GD} {ss : List Str} {rs : List (List Str)} (x : Tu H H') (h : GAt H t g ss rs) : GAt H' t g ss rs := by
  cases g with
  | room n => exact x _ _ h
  | hall s k => exact x _ _ h
  | ok =>
    obtain ⟨p, h1, h2⟩ := h
    exact ⟨p, x _ _ h1, h2.tu x⟩
def errV2 (K : PySem.W.Frag) (E : XK) (s : Str) (k : Nat) (H : Hp) : Prop := ∀ H', Same H H' → ∀ d, H' d = none → E (.ref (He.ga K "InvalidHall")) (some d) (upd H' d (.xd [("index", .int (k : Nat)), ("reason", .str s)]))
def spGlue (K : PySem.W.Frag) : Sp := fun vs H Q E => ∃ (h : Addr) (one other : Str) (rooms : List Str) (rows : List (List Str)), vs = [.ref h, .str one, .str other] ∧ HS H h rooms rows ∧ HallV rooms rows ∧
  (∀ x, glM rooms rows one other = .room x → errX K E "UnknownRoom" x H) ∧ (∀ s k, glM rooms rows one other = .hall s k → errV2 K E s k H) ∧
  (glM rooms rows one other = .ok → ∀ p H', Same H H' → HS H' p (glS rooms other) (glRs rows one other) → Q (.ref p) H')
def spGlD : Sp := fun vs H Q _ => ∃ (h : Addr) (one other : Str) (rooms : List Str) (rows : List (List Str)), vs = [.ref h, .str one, .str other] ∧ HS H h rooms rows ∧ HallV rooms rows ∧
  ∀ t H', Same H H' → GAt H' t (glM rooms rows one other) (glS rooms other) (glRs rows one other) → Q (.ref t) H'
/-- a state glued -/
def spGlSt : Sp := fun vs H Q _ => ∃ (h : Addr) (one other : Str) (faces : List Str) (places : List (List Str)), vs = [.ref h, .str one, .str other] ∧ HS H h faces places ∧ faces.length ≤ 100 ∧ places.length ≤ 100 ∧ (∀ p ∈ places, ∃ w r : Str, p = [w, r]) ∧
  ∀ p H', Same H H' → HS H' p (faces.map (gX one other)) (glRs places one other) → Q (.ref p) H'
/-- validate_hall and its parts, of what is a hall -/
def spValid : Sp := fun vs H Q _ => ∃ (h : Addr) (rooms : List Str) (rows : List (List Str)), vs = [.ref h] ∧ HS H h rooms rows ∧ HallV rooms rows ∧ ∀ H', Same H H' → Q (.bl true) H'
def spShape : Sp := fun vs H Q _ => ∃ (h : Addr) (rooms : List Str) (rows : List (List Str)), vs = [.ref h, .int 3] ∧ HS H h rooms rows ∧ HallV rooms rows ∧ ∀ H', Same H H' → Q (.bl true) H'
def spStrs : Sp := fun vs H Q _ => ∃ (a : Addr) (ss : List Str), vs = [.ref a] ∧ H a = some (.tup (ss.map V.str)) ∧ ss.length ≤ 100 ∧ ∀ H', Same H H' → Q (.bl true) H'
def spGroups : Sp := fun vs H Q _ => ∃ (d : Addr) (rows : List (List Str)) (n : Nat), vs = [.ref d, .int (n : Nat)] ∧ Rows H d rows ∧ rows.length ≤ 100 ∧ n ≤ 100 ∧ (∀ r ∈ rows, r.length = n) ∧ ∀ H', Same H H' → Q (.bl true) H'
def spChkRooms : Sp := fun vs H Q _ => ∃ (r : Addr) (rooms : List Str) (rows : List (List Str)), vs = [.ref r] ∧ H r = some (.tup (rooms.map V.str)) ∧ HallV rooms rows ∧ ∀ H', Same H H' → Q .non H'
def spChkDoors : Sp := fun vs H Q _ => ∃ (r d : Addr) (rooms : List Str) (rows : List (List Str)), vs = [.ref r, .ref d] ∧ H r = some (.tup (rooms.map V.str)) ∧ Rows H d rows ∧ HallV rooms rows ∧ ∀ H', Same H H' → Q .non H'
end Td
set_option maxHeartbeats 4000000
namespace Td
open PySem PySem.Spec PyProof.Rows L2 LamX NdefX
theorem ng_in (z : Str) (l : List Str) : (if true = true then !inV (.str z) (l.map V.str) else inV (.str z) (l.map V.str)) = !decide (z ∈ l) := by rw [if_pos rfl, inV_str]
theorem pg_in (z : Str) (l : List Str) : (if false = true then !inV (.str z) (l.map V.str) else inV (.str z) (l.map V.str)) = decide (z ∈ l) := by rw [if_neg (by decide), inV_str]
theorem DiF_is {H : Hp} {D : Addr} {m : List (Str × Addr)} {fd : Rs} (d : DiF H D m fd) (nd : (ks fd).Nodup) (x : Str) : (valV (kvOf m) (Sum.inr x)).isSome = decide (x ∈ ks fd) := d.un.is nd x
theorem atI_pen {α : Type} (xs : List α) (u v : α) : atI (xs ++ [u, v]) (-2) = some u := by
  have hl : (xs ++ [u, v]).length = xs.length + 2 := by simp
  have e : ixN (xs ++ [u, v]).length (-2) = some xs.length := by
    unfold ixN
    rw [hl, if_neg (by decide), if_pos (by omega)]
    congr 1
    omega
  unfold atI
  rw [e]
  show (xs ++ [u, v])[xs.length]? = some u
  rw [List.getElem?_append_right (Nat.le_refl _), Nat.sub_self]
  rfl
section
variable {rooms : List Str} {rows : List (List Str)} {faces : List Str} {ns : List Str} {ρ : Str → Str}
/-- bands stay bands -/
theorem cn_keep (hv : HallV rooms rows) {s s' : Sta} (ht : StV rooms rows s.1 s.2) {l : List Deed} (h : goM rows s l = some s') {u v : Str} (hu : u ∈ s.2.map hd0) (c : Cn (rsOf rooms rows s.1 s.2) u v) : Cn (rsOf rooms rows s'.1 s'.2) u v := by
  have eb := bdL_goM hv ht h
  have ht' := goM_st hv ht h
  obtain ⟨j, r, hj, _⟩ := place_at ht hu
  obtain ⟨e, he, hue⟩ := in_band (rooms := rooms) (rows := rows) ht hj
  obtain ⟨w0, hw0, rfl⟩ := List.mem_map.mp he
  have ku : u ∈ ks (rsOf rooms rows s.1 s.2) := by rw [rsOf_ks]; exact hu
  have hve : v ∈ cm (rsOf rooms rows s.1 s.2) w0 := cm_mem.mpr ⟨Cn.mem ku c, (cm_mem.mp hue).2.trans c⟩
  rw [← eb] at he
  obtain ⟨w1, hw1, e1⟩ := List.mem_map.mp he
  have e1 : cm (rsOf rooms rows s'.1 s'.2) w1 = cm (rsOf rooms rows s.1 s.2) w0 := congrArg Prod.fst e1
  rw [← e1] at hue hve
  have k1 := frs_sub _ _ _ hw1
  exact ((cm_mem.mp hue).2.symm (rsOf_nd ht') k1).trans (cm_mem.mp hve).2
/-- the last walker of a chain but one -/
theorem pen_of (ht : StV rooms rows faces (plc ns ρ)) {one other : Str} {ch : List Str} {fd : List (Str × List Str)} (ho : one ∈ ns) (ne : one ≠ other) (S : Spd (nbr (rsOf rooms rows faces (plc ns ρ))) one fd) (hp : (other, ch) ∈ fd) :
    ∃ (d : List Str) (y : Str), one :: ch = d ++ [y, other] ∧ y ∈ ns ∧ y ≠ other ∧ Cn (rsOf rooms rows faces (plc ns ρ)) one y ∧ MtR rooms rows faces (ρ y) (ρ other) := by
  obtain ⟨c, ec, ndc, _, hcs⟩ := chain_of ht ho ne S hp
  have hW := (S.wk _ hp).wf
  have hW : Wf (nbr (rsOf rooms rows faces (plc ns ρ))) one ch other := hW
  rw [ec] at hW ndc hcs ⊢
  obtain ⟨y, h1, h2⟩ := wf_cut hW c.length (by rw [List.length_append]; omega)
  rw [List.take_left' rfl] at h1
  rw [List.drop_left' rfl] at h2
  obtain ⟨_, _, h3⟩ := ch_walk ht ho h1.wf
  have hy : y ∈ ns := by
    rcases h3 with ⟨_, e⟩ | ⟨c0, e⟩
    · exact e ▸ ho
    · exact hcs y (List.mem_append_left _ (by rw [e]; exact List.mem_append_right _ (List.mem_singleton.mpr rfl)))
  obtain ⟨z, g, _⟩ := h2
  obtain ⟨_, _, hm⟩ := nbr_of ht hy g
  have hd : ∃ d, one :: (c ++ [other]) = d ++ [y, other] := by
    rcases h3 with ⟨e0, e⟩ | ⟨c0, e⟩
    · subst e0
      subst e
      exact ⟨[], rfl⟩
    · subst e
      exact ⟨one :: c0, by simp⟩
  obtain ⟨d, hd⟩ := hd
  refine ⟨d, y, hd, hy, fun e => ?_, ⟨_, h1⟩, hm⟩
  rw [hd, e] at ndc
  have := (List.nodup_append.mp ndc).2.1
  exact (List.nodup_cons.mp this).1 (List.mem_singleton.mpr rfl)
theorem meet_go (hv : HallV rooms rows) {u v : Str} (hu : u ∈ ns) (hw : v ∈ ns) (ne : u ≠ v) (ht : StV rooms rows faces (plc ns ρ)) {row : List Deed} (M : MeetR rows faces (ρ u) (ρ v) u v row) :
    ∃ (f' : List Str) (x : Str), goM rows (faces, plc ns ρ) row = some (f', plc ns (put1 (put1 ρ u x) v x)) ∧ row.length ≤ 16 := by
  obtain ⟨p, q, x, er, np, nq, dj, hp, hq, lp, lq⟩ := M.ex
  have g1 := go_walk hv hu ht np hp
  have t1 := goM_st hv (s := (faces, plc ns ρ)) ht g1
  have q1 : Wf (outs rows (trP rows faces (inP p))) (put1 ρ u x v) q x := by
    rw [show put1 ρ u x v = ρ v from if_neg ne.symm]
    exact wf_tr hv hq fun d hd => decide_eq_false fun h => dj d h hd
  have g2 := go_walk hv hw t1 nq q1
  refine ⟨_, x, by rw [er, goM_ap g1]; exact g2, by rw [er, List.length_append, List.length_map, List.length_map]; omega⟩
end
noncomputable abbrev gsX (rooms : List Str) (rows : List (List Str)) (faces : List Str) (places : List (List Str)) : List (List Str) := (bdL rooms rows faces places).map (·.2)
def spChkWI (K : PySem.W.Frag) : Sp := fun vs H Q E => ∃ (st : Addr) (x : Str) (faces : List Str) (places : List (List Str)), vs = [.ref st, .str x] ∧ HZ H st faces places ∧ (∀ p ∈ places, ∃ w r : Str, p = [w, r]) ∧ places.length ≤ 5 ∧
  (x ∈ places.map hd0 → ∀ H', Same H H' → Q .non H') ∧ (x ∉ places.map hd0 → errW K E "UnknownWalker" "name" (.str x) H)
def spApart (T : List (Addr × Str)) : Sp := fun vs H Q _ => ∃ (h st : Addr) (rooms : List Str) (rows : List (List Str)) (faces : List Str) (places : List (List Str)), vs = [.ref h, .ref st] ∧ HSy H h st rooms rows faces places ∧ Tabs T H ∧
  ∀ p ep H', Nx T H H' → H' p = some (.tup [.str "apart", .ref ep]) → Rows H' ep (gsX rooms rows faces places) → Q (.ref p) H'
def ApQ (T : List (Addr × Str)) (H : Hp) (Q : VK) (rooms : List Str) (rows : List (List Str)) (faces : List Str) (places : List (List Str)) : Prop := ∀ p ep H', Nx T H H' → H' p = some (.tup [.str "apart", .ref ep]) → Rows H' ep (gsX rooms rows faces places) → Q (.ref p) H'
def RoQ (T : List (Addr × Str)) (H : Hp) (Q : VK) (rows : List (List Str)) (s : Sta) (R : Sta → Prop) : Prop := ∀ p rp row s' H', Nx T H H' → H' p = some (.tup [.str "row", .ref rp]) → RowT H' rp row → goM rows s row = some s' → R s' → row.length ≤ 700 → Q (.ref p) H'
def spSwp (K : PySem.W.Frag) (T : List (Addr × Str)) : Sp := fun vs H Q E => ∃ (h st : Addr) (u v : Str) (rooms : List Str) (rows : List (List Str)) (faces ns : List Str) (ρ : Str → Str), vs = [.ref h, .ref st, .str u, .str v] ∧ HSy H h st rooms rows faces (plc ns ρ) ∧ Tabs T H ∧
  (u ∉ ns → errW K E "UnknownWalker" "name" (.str u) H) ∧ (u ∈ ns → v ∉ ns → errW K E "UnknownWalker" "name" (.str v) H) ∧
  (u ∈ ns → v ∈ ns → Cn (rsOf rooms rows faces (plc ns ρ)) u v → RoQ T H Q rows (faces, plc ns ρ) fun s' => s' = (faces, plc ns (swp ρ u v))) ∧
  (u ∈ ns → v ∈ ns → ¬ Cn (rsOf rooms rows faces (plc ns ρ)) u v → ApQ T H Q rooms rows faces (plc ns ρ))
def spMt (K : PySem.W.Frag) (T : List (Addr × Str)) : Sp := fun vs H Q E => ∃ (h st : Addr) (u v : Str) (rooms : List Str) (rows : List (List Str)) (faces ns : List Str) (ρ : Str → Str), vs = [.ref h, .ref st, .str u, .str v] ∧ HSy H h st rooms rows faces (plc ns ρ) ∧ Tabs T H ∧
  (u ∉ ns → errW K E "UnknownWalker" "name" (.str u) H) ∧ (u ∈ ns → v ∉ ns → errW K E "UnknownWalker" "name" (.str v) H) ∧
  (u ∈ ns → v ∈ ns → Cn (rsOf rooms rows faces (plc ns ρ)) u v → RoQ T H Q rows (faces, plc ns ρ) fun s' => ∃ τ, s'.2 = plc ns τ ∧ τ u = τ v) ∧
  (u ∈ ns → v ∈ ns → ¬ Cn (rsOf rooms rows faces (plc ns ρ)) u v → ApQ T H Q rooms rows faces (plc ns ρ))
def CanCome (rooms : List Str) (rows : List (List Str)) (faces ns : List Str) (ρ : Str → Str) (u x : Str) : Prop := ∃ g, Cn (rsOf rooms rows faces (plc ns ρ)) u g ∧ x ∈ rch rooms rows faces (ρ g)
def spBr (K : PySem.W.Frag) (T : List (Addr × Str)) : Sp := fun vs H Q E => ∃ (h st : Addr) (u x : Str) (rooms : List Str) (rows : List (List Str)) (faces ns : List Str) (ρ : Str → Str), vs = [.ref h, .ref st, .str u, .str x] ∧ HSy H h st rooms rows faces (plc ns ρ) ∧ Tabs T H ∧
  (u ∉ ns → errW K E "UnknownWalker" "name" (.str u) H) ∧ (u ∈ ns → x ∉ rooms → errW K E "UnknownRoom" "name" (.str x) H) ∧
  (u ∈ ns → x ∈ rooms → CanCome rooms rows faces ns ρ u x → RoQ T H Q rows (faces, plc ns ρ) fun s' => ∃ τ, s'.2 = plc ns τ ∧ τ u = x) ∧
  (u ∈ ns → x ∈ rooms → ¬ CanCome rooms rows faces ns ρ u x → ApQ T H Q rooms rows faces (plc ns ρ))
section
variable {P : Program} {w : World} {K : PySem.W.Frag} {mg : Str → Option Value} {base : Heap} {f : Addr} {fd : FuncData} {T : List (Addr × Str)}
abbrev s_check_walker : Stmt := top 11
abbrev n_check_walker : List Str := ["state", "walker", "name", "room"]
theorem sc_check_walker : FnScope n_check_walker ["state", "walker"] (defScope s_check_walker) := ⟨rfl, rfl, rfl, by decide +kernel, rfl, by decide +kernel, by decide +kernel⟩
theorem ok_check_walker (F : FnP K "check_walker" s_check_walker f fd) (hm : mg "check_walker" = some (.ref f)) (M_UnknownWalker : ErrM P w K mg base "UnknownWalker") :
    CalX P w K mg base 3 "check_walker" (spChkWI K) := by
  refine ⟨f, fd, ["state", "walker"], F.ok (CX := L2.CX P w) sc_check_walker (fun vs H Q E h => ?_) (fun cdv A outer s H vs Q E hr h => ?_), hm, F.kp, F.bindsN (ps := ["state", "walker"]) fun _ _ _ _ _ _ us hl => match us, hl with | [_, _], _ => rfl⟩
  · obtain ⟨st, x, faces, places, rfl, hS, hp, p5, q1, q2⟩ := h
    rfl
  obtain ⟨st, x, faces, places, rfl, hS, hp, p5, q1, q2⟩ := h
  have nd := sc_check_walker.nd
  refine ⟨_, (pss_one (ps_if (pt_cmpR (r := rIn K true) op_notIn_seq (pv 1) (pe_lc (own := [("name", 2), ("room", 3)]) (g := (gTup K 2 (gCons (gName 2) (gCons (gName 3) gNil)))) (by rfl) nd (pi_tup (pe_ix (r := rIxT K) ix_tup (pv 0) pe_int (fun _ _ => rfl))) (blkOk_by (own := [("name", 2), ("room", 3)]) (N := n_check_walker) (sc := defScope s_check_walker) (by decide +kernel)) (fun _ _ _ _ _ => (pg_tup (by rfl) (pgs_cons (pg_name (i := 2) nd rfl (Or.inl rfl)) (pgs_cons (pg_name (i := 3) nd rfl (Or.inl rfl)) pgs_nil)))) (fun _ _ _ _ _ => pts_nil) (fun _ _ _ _ _ => (pv 2))) (by rfl)) (pss_one (ps_raise rfl (takes_of rfl rfl rfl rfl) (pmk_err M_UnknownWalker hr (by omega) (by rfl) (pa_cons (pv 1) pa_nil)))) pss_nil)), ?_⟩
  obtain ⟨fa, pl, g1, g2, bs, g3, hRB⟩ := hS
  have hbl : (bs.map V.ref).length = places.length := by rw [List.length_map]; exact hRB.1
  refine ⟨_, rfl, _, rfl, st, _, _, _, rfl, rfl, SqT.of g1, atI_nat (j := 1) rfl, pl, rfl, ⟨_, SqT.of g3⟩, fun D hD => ?_⟩
  refine lc_tup (K := K) (a := pl) (xs := bs.map V.ref) (fun i Hx => Same H Hx ∧ Hx D = some (.lst (((places.take i).map hd0).map V.str))) ⟨same_new hD _, upd_same⟩ (fun i Hx _ ⟨sx, _⟩ => SqT.of (sx _ _ g3)) (fun i y Hx hy ⟨sx, hDx⟩ => ?_) (fun H1 ⟨s1, hD1⟩ => ?_)
  · obtain ⟨a, p, rfl, hpi, hpa⟩ := hRB.row hy
    obtain ⟨n, e1, rfl⟩ := hp p (List.mem_of_getElem? hpi)
    refine ⟨a, _, rfl, SqT.of (sx _ _ hpa), rfl, _, _, rfl, _, _, rfl, rfl, rfl, lcY ?_⟩
    refine ⟨_, rfl, _, hDx, ?_, same_mut sx hD _, ?_⟩
    · rw [List.length_map, List.length_map, List.length_take]
      exact sz100 (by omega)
    · rw [upd_same, take_snoc hpi, List.map_append, List.map_append]
      rfl
  rw [hbl, List.take_length] at hD1
  refine ⟨D, _, rfl, .inl (SqL.of hD1), rfl, flat_strs _, _, rfl, ?_⟩
  rw [ng_in]
  by_cases hw : x ∈ places.map hd0
  · rw [decide_eq_true hw]
    refine iteF ?_
    exact q1 hw H1 s1
  · rw [decide_eq_false hw]
    refine iteT ?_
    exact ⟨_, rfl, mk_end_k fun d hd => q2 hw H1 s1 d hd⟩
abbrev s_apart : Stmt := top 42
abbrev n_apart : List Str := ["hall", "state"]
theorem sc_apart : FnScope n_apart ["hall", "state"] (defScope s_apart) := ⟨rfl, rfl, rfl, by decide +kernel, rfl, by decide +kernel, by decide +kernel⟩
theorem ok_apart (F : FnP K "_apart" s_apart f fd) (hm : mg "_apart" = some (.ref f)) (c_grounds : Cal P w K mg base 9 "grounds" (spGrounds T)) :
    Cal P w K mg base 10 "_apart" (spApart T) := by
  refine cal_of (F.ok sc_apart (fun vs H Q E h => ?_) (fun cdv A outer s H vs Q E hr h => ?_)) hm F.kp (F.bindsN (ps := ["hall", "state"]) fun _ _ _ _ _ _ us hl => match us, hl with | [_, _], _ => rfl)
  · obtain ⟨h, st, rooms, rows, faces, places, rfl, hs, hT, q⟩ := h
    rfl
  obtain ⟨h, st, rooms, rows, faces, places, rfl, hs, hT, q⟩ := h
  have nd := sc_apart.nd
  refine ⟨_, PSs.nox (pss_one (ps_ret (pe_tup (pa_cons pe_str (pa_cons (C8.pe_c c_grounds hr (by omega) (by rfl) (pa_cons (pv 0) (pa_cons (pv 1) pa_nil))) pa_nil))))), ?_⟩
  refine ⟨_, rfl, _, rfl, h, st, rooms, rows, faces, places, rfl, hs, hT, fun ep H1 n1 hep => ⟨(by show 2 ≤ sizeLine; decide), fun t ht => ?_⟩⟩
  have s1 := same_new ht (.tup [.str "apart", .ref ep])
  exact q t ep _ (n1.same s1) upd_same (hep.tu (Tu.same s1))
abbrev s_swap : Stmt := top 40
abbrev n_swap : List Str := ["hall", "state", "one", "other"]
theorem sc_swap : FnScope n_swap ["hall", "state", "one", "other"] (defScope s_swap) := ⟨rfl, rfl, rfl, by decide +kernel, rfl, by decide +kernel, by decide +kernel⟩
theorem ok_swap (F : FnP K "swap" s_swap f fd) (hm : mg "swap" = some (.ref f)) (c_apart : Cal P w K mg base 10 "_apart" (spApart T)) (c_chains_from : Cal P w K mg base 8 "chains_from" (spChF T)) (c_check_walker : CalX P w K mg base 3 "check_walker" (spChkWI K)) (c_exchange_row : Cal P w K mg base 9 "exchange_row" (spExA T)) :
    CalX P w K mg base 11 "swap" (spSwp K T) := by
  refine ⟨f, fd, ["hall", "state", "one", "other"], F.ok (CX := L2.CX P w) sc_swap (fun vs H Q E h => ?_) (fun cdv A outer s H vs Q E hr h => ?_), hm, F.kp, F.bindsN (ps := ["hall", "state", "one", "other"]) fun _ _ _ _ _ _ us hl => match us, hl with | [_, _, _, _], _ => rfl⟩
  · obtain ⟨h, st, u, v, rooms, rows, faces, ns, ρ, rfl, hs, hT, q1, q2, q3, q4⟩ := h
    rfl
  obtain ⟨h, st, u, v, rooms, rows, faces, ns, ρ, rfl, hs, hT, q1, q2, q3, q4⟩ := h
  have nd := sc_swap.nd
  refine ⟨_, (pss_cons (ps_expr (pe_cX c_check_walker hr (by omega) (fun σ => passAt (takes_of rfl rfl rfl rfl) σ) (by rfl) (pa_cons (pv 1) (pa_cons (pv 2) pa_nil))))
    (pss_cons (ps_expr (pe_cX c_check_walker hr (by omega) (fun σ => passAt (takes_of rfl rfl rfl rfl) σ) (by rfl) (pa_cons (pv 1) (pa_cons (pv 3) pa_nil))))
    (pss_cons (ps_if (pt_cmp (pc_dnotin (hu_of hr) (pv 3) (C8.pe_c c_chains_from hr (by omega) (by rfl) (pa_cons (pv 0) (pa_cons (pv 1) (pa_cons (pv 2) pa_nil)))))) (pss_one (ps_ret (C8.pe_c c_apart hr (by omega) (by rfl) (pa_cons (pv 0) (pa_cons (pv 1) pa_nil))))) pss_nil)
    (pss_one (ps_ret (pe_tup (pa_cons pe_str (pa_cons (C8.pe_c c_exchange_row hr (by omega) (by rfl) (pa_cons (pv 0) (pa_cons (pv 1) (pa_cons (pv 2) (pa_cons (pv 3) pa_nil))))) pa_nil)))))))), ?_⟩
  have l5 : (plc ns ρ).length ≤ 5 := hs.t.p5
  have hd := plc_heads ns ρ
  refine ⟨_, rfl, _, rfl, st, u, faces, plc ns ρ, rfl, hs.s, plc_two ns ρ, l5, fun hu H1 s1 => ?_, fun hu => q1 (by rw [← hd]; exact hu)⟩
  have hu : u ∈ ns := by rw [← hd]; exact hu
  refine ⟨_, rfl, _, rfl, st, v, faces, plc ns ρ, rfl, hs.s.same s1, plc_two ns ρ, l5, fun hw H2 s2 => ?_, fun hw => (q2 hu (by rw [← hd]; exact hw)).same s1⟩
  have hw : v ∈ ns := by rw [← hd]; exact hw
  have s02 := s1.trans s2
  have n02 : Nx T H H2 := (Nx.refl hT).same s02
  refine ⟨_, rfl, _, rfl, _, rfl, _, rfl, h, st, u, rooms, rows, faces, plc ns ρ, rfl, hs.same s02, by rw [hd]; exact hu, n02.t, fun E1 n fd2 H3 n3 hF hE hS => ⟨E1, _, rfl, DGet.k (k := Sum.inr v) hE.at_, _, rfl, ?_⟩⟩
  have n03 := n02.trans n3
  rw [hE.is hS.nd]
  by_cases c : v ∈ ks fd2
  · rw [decide_eq_true c]
    have cn : Cn (rsOf rooms rows faces (plc ns ρ)) u v := hS.iff.mp c
    refine iteF ⟨_, rfl, _, rfl, _, rfl, _, rfl, h, st, u, v, rooms, rows, faces, ns, ρ, rfl, hs.nx n03, hu, hw, n03.t, cn, fun p row H4 n4 hp hgo hl => ⟨(by show 2 ≤ sizeLine; decide), fun t ht => ?_⟩⟩
    have s5 := same_new ht (.tup [.str "row", .ref p])
    exact q3 hu hw cn t p row _ _ ((n03.trans n4).same s5) upd_same (hp.tu (Tu.same s5)) hgo rfl (by omega)
  · rw [decide_eq_false c]
    have cn : ¬ Cn (rsOf rooms rows faces (plc ns ρ)) u v := fun z => c (hS.iff.mpr z)
    exact iteT ⟨_, rfl, _, rfl, h, st, rooms, rows, faces, plc ns ρ, rfl, hs.nx n03, n03.t, fun p ep H4 n4 hp hr2 => q4 hu hw cn p ep H4 (n03.trans n4) hp hr2⟩
abbrev s_meet : Stmt := top 41
abbrev n_meet : List Str := ["hall", "state", "one", "other", "chains", "chain", "row"]
theorem sc_meet : FnScope n_meet ["hall", "state", "one", "other"] (defScope s_meet) := ⟨rfl, rfl, rfl, by decide +kernel, rfl, by decide +kernel, by decide +kernel⟩
theorem ok_meet (F : FnP K "meet" s_meet f fd) (hm : mg "meet" = some (.ref f)) (c_apart : Cal P w K mg base 10 "_apart" (spApart T)) (c_chains_from : Cal P w K mg base 8 "chains_from" (spChF T)) (c_check_walker : CalX P w K mg base 3 "check_walker" (spChkWI K)) (c_exchange_row : Cal P w K mg base 9 "exchange_row" (spExA T)) (c_meeting_row : Cal P w K mg base 6 "meeting_row" (spMeet T)) (c_run : CalX P w K mg base 6 "run" (spRunM K)) :
    CalX P w K mg base 11 "meet" (spMt K T) := by
  refine ⟨f, fd, ["hall", "state", "one", "other"], F.ok (CX := L2.CX P w) sc_meet (fun vs H Q E h => ?_) (fun cdv A outer s H vs Q E hr h => ?_), hm, F.kp, F.bindsN (ps := ["hall", "state", "one", "other"]) fun _ _ _ _ _ _ us hl => match us, hl with | [_, _, _, _], _ => rfl⟩
  · obtain ⟨h, st, u, v, rooms, rows, faces, ns, ρ, rfl, hs, hT, q1, q2, q3, q4⟩ := h
    rfl
  obtain ⟨h, st, u, v, rooms, rows, faces, ns, ρ, rfl, hs, hT, q1, q2, q3, q4⟩ := h
  have nd := sc_meet.nd
  refine ⟨_, (pss_cons (ps_expr (pe_cX c_check_walker hr (by omega) (fun σ => passAt (takes_of rfl rfl rfl rfl) σ) (by rfl) (pa_cons (pv 1) (pa_cons (pv 2) pa_nil))))
    (pss_cons (ps_expr (pe_cX c_check_walker hr (by omega) (fun σ => passAt (takes_of rfl rfl rfl rfl) σ) (by rfl) (pa_cons (pv 1) (pa_cons (pv 3) pa_nil))))
    (pss_cons (ps_set (i := 4) nd rfl (Or.inl rfl) (pe_keep (C8.pe_c c_chains_from hr (by omega) (by rfl) (pa_cons (pv 0) (pa_cons (pv 1) (pa_cons (pv 2) pa_nil))))))
    (pss_cons (ps_if (pt_cmp (pc_dnotin (hu_of hr) (pv 3) (pv 4))) (pss_one (ps_ret (C8.pe_c c_apart hr (by omega) (by rfl) (pa_cons (pv 0) (pa_cons (pv 1) pa_nil))))) pss_nil)
    (pss_cons (ps_if (pt_cmpR op_eq (pv 2) (pv 3) (nomark _)) (pss_one (ps_ret (pe_tup (pa_cons pe_str (pa_cons (pe_tup pa_nil) pa_nil))))) pss_nil)
    (pss_cons (ps_set (i := 5) nd rfl (Or.inl rfl) (pe_lst (pa_cons (pv 2) (show PA _ _ (StX.tStar K _ _) from StX.pa_star (pe_dget (hu_of hr) (pv 4) (pv 3) (fun _ _ => rfl)) pa_nil))))
    (pss_cons (ps_set (i := 6) nd rfl (Or.inl rfl) (C8.pe_c c_exchange_row hr (by omega) (by rfl) (pa_cons (pv 0) (pa_cons (pv 1) (pa_cons (pv 2) (pa_cons (pe_ix (r := rIxL K) ix_list (pv 5) (pe_un un_neg pe_int) (fun _ _ => rfl)) pa_nil))))))
    (pss_one (ps_ret (pe_tup (pa_cons pe_str (pa_cons (pe_op (r := rCatA K) op_catA (pv 6) (C8.pe_c c_meeting_row hr (by omega) (by rfl) (pa_cons (pv 0) (pa_cons (pe_cX c_run hr (by omega) (fun σ => passAt (takes_of rfl rfl rfl rfl) σ) (by rfl) (pa_cons (pv 0) (pa_cons (pv 1) (pa_cons (pv 6) pa_nil)))) (pa_cons (pv 2) (pa_cons (pv 3) pa_nil)))))) pa_nil)))))))))))), ?_⟩
  have l5 : (plc ns ρ).length ≤ 5 := hs.t.p5
  have hd := plc_heads ns ρ
  refine ⟨_, rfl, _, rfl, st, u, faces, plc ns ρ, rfl, hs.s, plc_two ns ρ, l5, fun hu H1 s1 => ?_, fun hu => q1 (by rw [← hd]; exact hu)⟩
  have hu : u ∈ ns := by rw [← hd]; exact hu
  refine ⟨_, rfl, _, rfl, st, v, faces, plc ns ρ, rfl, hs.s.same s1, plc_two ns ρ, l5, fun hw H2 s2 => ?_, fun hw => (q2 hu (by rw [← hd]; exact hw)).same s1⟩
  have hw : v ∈ ns := by rw [← hd]; exact hw
  have s02 := s1.trans s2
  have n02 : Nx T H H2 := (Nx.refl hT).same s02
  refine ⟨_, rfl, _, rfl, _, rfl, h, st, u, rooms, rows, faces, plc ns ρ, rfl, hs.same s02, by rw [hd]; exact hu, n02.t, fun E1 n fd2 H3 n3 hF hE hS => ⟨E1, _, rfl, hE.at_, trivial, fun od => ?_⟩⟩
  have hK := hE.keep od
  have nK := (n02.trans n3).mutD hE.at_ (hF.back n02) (.frz od (.dK (kvOf n)))
  clear hE n3
  generalize upd H3 E1 (.frz od (.dK (kvOf n))) = HK at hK nK ⊢
  refine ⟨_, rfl, _, rfl, E1, _, rfl, hK.get0 v, _, rfl, ?_⟩
  rw [DiF_is hK hS.nd]
  by_cases c : v ∈ ks fd2
  case neg =>
    rw [decide_eq_false c]
    have cn : ¬ Cn (rsOf rooms rows faces (plc ns ρ)) u v := fun z => c (hS.iff.mpr z)
    exact iteT ⟨_, rfl, _, rfl, h, st, rooms, rows, faces, plc ns ρ, rfl, hs.nx nK, nK.t, fun p ep H4 n4 hp hr2 => q4 hu hw cn p ep H4 (nK.trans n4) hp hr2⟩
  rw [decide_eq_true c]
  have cn : Cn (rsOf rooms rows faces (plc ns ρ)) u v := hS.iff.mp c
  refine iteF ⟨_, rfl, _, rfl, rfl, _, rfl, ?_⟩
  by_cases e : u = v
  · rw [decide_eq_true (show V.str u = V.str v by rw [e])]
    refine iteT ⟨(by show 0 ≤ sizeLine; decide), fun e0 he0 => ⟨(by show 2 ≤ sizeLine; decide), fun t ht => ?_⟩⟩
    have s4 := same_new he0 (.tup [])
    have s5 := same_new ht (.tup [.str "row", .ref e0])
    exact q3 hu hw cn t e0 [] _ _ ((nK.same s4).same s5) upd_same ⟨[], s5 _ _ upd_same, RowsAt.nil⟩ rfl ⟨ρ, rfl, by rw [e]⟩ (by decide)
  rw [decide_eq_false (fun z => e (V.str.inj z))]
  obtain ⟨⟨v', ch⟩, he, ee⟩ := List.mem_map.mp c
  have he : (v, ch) ∈ fd2 := by rw [← ee]; exact he
  obtain ⟨d, y, ed, hy, ney, cy, my⟩ := pen_of hs.t hu e hS he
  obtain ⟨_, lch, _⟩ := ch_facts hs.t hu hw hS he
  obtain ⟨a, hval⟩ := hK.val hS.nd (x := v) (p := ch) he
  obtain ⟨hg, hpa⟩ := hval _ hK
  refine iteF ⟨_, rfl, _, rfl, _, rfl, E1, _, rfl, hg, a, _, rfl, .inl (SqT.of hpa), ?_⟩
  refine ⟨by
    show (V.str u :: (ch.map V.str ++ [])).length ≤ sizeLine
    rw [List.length_cons, List.length_append, List.length_map]
    exact Nat.le_of_lt (sz100 (by show ch.length + 0 + 1 ≤ 1000; omega)), fun C hC => ?_⟩
  have s4 := same_new hC (.lst (V.str u :: (ch.map V.str ++ [])))
  have kC : upd HK C (.lst (V.str u :: (ch.map V.str ++ []))) C = some (.lst ((d ++ [y, v]).map V.str)) := by
    rw [upd_same, List.append_nil, ← ed]
    rfl
  show gName 5 (.ref C) _ (upd HK C (.lst (V.str u :: (ch.map V.str ++ [])))) _
  generalize upd HK C (.lst (V.str u :: (ch.map V.str ++ []))) = H4 at s4 kC ⊢
  have n04 := nK.same s4
  refine ⟨_, rfl, _, rfl, _, rfl, _, rfl, _, rfl, C, _, _, _, rfl, rfl, SqL.of kC, by rw [List.map_append]; exact atI_pen _ _ _, h, st, u, y, rooms, rows, faces, ns, ρ, rfl, hs.nx n04, hu, hy, n04.t, cy, fun p row H5 n5 hp hgo hl => ?_⟩
  have n05 := n04.trans n5
  refine ⟨_, rfl, _, rfl, _, rfl, _, rfl, _, rfl, h, st, p, rooms, rows, faces, plc ns ρ, row, rfl, hs.nx n05, hp.rwX, fun j p' s3 k1 k2 k3 => (go_all hgo k1 k2 k3).elim, fun s6 k1 p6 H6 s6' hp6 => ?_⟩
  rw [hgo] at k1
  cases k1
  have n06 := n05.same s6'
  have st6 := goM_st hs.v (s := (faces, plc ns ρ)) hs.t hgo
  have hs6 : HSy H6 h p6 rooms rows faces (plc ns (swp ρ u y)) := ⟨(hs.nx n06).h, hs.v, hp6, st6⟩
  have ev1 : swp ρ u y u = ρ y := if_pos rfl
  have ev2 : swp ρ u y v = ρ v := by
    unfold swp
    rw [if_neg (fun z => e z.symm), if_neg (fun z => ney z.symm)]
  have my2 : MtR rooms rows faces (swp ρ u y u) (swp ρ u y v) := by rw [ev1, ev2]; exact my
  refine ⟨_, rfl, _, rfl, h, p6, u, v, rooms, rows, faces, ns, swp ρ u y, rfl, hs6, hu, hw, n06.t, fun z => absurd my2 z, fun p7 row2 H7 _ n7 hp7 hM => ?_⟩
  obtain ⟨f', x, hg2, hl2⟩ := meet_go hs.v hu hw e st6 hM
  refine row_cat ((hp.tu (Tu.same s6')).tu n7.tu) hp7 (by omega) fun p8 H8 s8 hp8 => ⟨(by show 2 ≤ sizeLine; decide), fun t ht => ?_⟩
  have s9 := same_new ht (.tup [.str "row", .ref p8])
  refine q3 hu hw cn t p8 (row ++ row2) _ _ (((n06.trans n7).same s8).same s9) upd_same (hp8.tu (Tu.same s9)) (by rw [goM_ap hgo]; exact hg2) ⟨_, rfl, ?_⟩ (by rw [List.length_append]; omega)
  show (if u = v then x else put1 (swp ρ u y) u x u) = if v = v then x else _
  rw [if_neg e, if_pos rfl]
  exact if_pos rfl
abbrev s_bring : Stmt := top 39
abbrev n_bring : List Str := ["hall", "state", "walker", "room", "guide", "way", "row", "door"]
theorem sc_bring : FnScope n_bring ["hall", "state", "walker", "room"] (defScope s_bring) := ⟨rfl, rfl, rfl, by decide +kernel, rfl, by decide +kernel, by decide +kernel⟩
theorem ok_bring (F : FnP K "bring" s_bring f fd) (hm : mg "bring" = some (.ref f)) (c_apart : Cal P w K mg base 10 "_apart" (spApart T)) (c_chains_from : Cal P w K mg base 8 "chains_from" (spChF T)) (c_check_room : CalX P w K mg base 3 "check_room" (spChkRI K)) (c_check_walker : CalX P w K mg base 3 "check_walker" (spChkWI K)) (c_exchange_row : Cal P w K mg base 9 "exchange_row" (spExA T)) (c_path : CalX P w K mg base 6 "path" (spPath K T)) (c_run : CalX P w K mg base 6 "run" (spRunM K)) (m_tuple : mg "tuple" = none) :
    CalX P w K mg base 11 "bring" (spBr K T) := by
  refine ⟨f, fd, ["hall", "state", "walker", "room"], F.ok (CX := L2.CX P w) sc_bring (fun vs H Q E h => ?_) (fun cdv A outer s H vs Q E hr h => ?_), hm, F.kp, F.bindsN (ps := ["hall", "state", "walker", "room"]) fun _ _ _ _ _ _ us hl => match us, hl with | [_, _, _, _], _ => rfl⟩
  · obtain ⟨h, st, u, x, rooms, rows, faces, ns, ρ, rfl, hs, hT, q1, q2, q3, q4⟩ := h
    rfl
  obtain ⟨h, st, u, x, rooms, rows, faces, ns, ρ, rfl, hs, hT, q1, q2, q3, q4⟩ := h
  have nd := sc_bring.nd
  refine ⟨_, (pss_cons (ps_expr (pe_cX c_check_walker hr (by omega) (fun σ => passAt (takes_of rfl rfl rfl rfl) σ) (by rfl) (pa_cons (pv 1) (pa_cons (pv 2) pa_nil))))
    (pss_cons (ps_expr (pe_cX c_check_room hr (by omega) (fun σ => passAt (takes_of rfl rfl rfl rfl) σ) (by rfl) (pa_cons (pv 0) (pa_cons (pv 3) pa_nil))))
    (pss_cons (ps_for (passes_of rfl) rfl (pi_keys (pe_keep (C8.pe_c c_chains_from hr (by omega) (by rfl) (pa_cons (pv 0) (pa_cons (pv 1) (pa_cons (pv 2) pa_nil)))))) (pg_name (i := 4) nd rfl (Or.inr rfl)) (pss_cons (ps_set (i := 5) nd rfl (Or.inl rfl) (pe_cX c_path hr (by omega) (fun σ => passAt (takes_of rfl rfl rfl rfl) σ) (by rfl) (pa_cons (pv 0) (pa_cons (pv 1) (pa_cons (pv 4) (pa_cons (pv 3) pa_nil))))))
    (pss_one (ps_if (pt_cmpR op_notN (pv 5) pe_non (nomark _)) (pss_cons (ps_set (i := 6) nd rfl (Or.inl rfl) (pe_callTy (r := rTpOf K) call_tuple_of (by rfl) m_tuple (by decide +kernel) (pa_cons (pe_lc (own := [("door", 7)]) (g := (gName 7)) (by rfl) nd (pi_tup (pv 5)) (blkOk_by (own := [("door", 7)]) (N := n_bring) (sc := defScope s_bring) (by decide +kernel)) (fun _ _ _ _ _ => (pg_name (i := 7) nd rfl (Or.inl rfl))) (fun _ _ _ _ _ => pts_nil) (fun _ _ _ _ _ => (pe_tup (pa_cons (pv 4) (pa_cons (pv 7) pa_nil))))) pa_nil)))
    (pss_one (ps_ret (pe_tup (pa_cons pe_str (pa_cons (pe_op (r := rCatA K) op_catA (pv 6) (C8.pe_c c_exchange_row hr (by omega) (by rfl) (pa_cons (pv 0) (pa_cons (pe_cX c_run hr (by omega) (fun σ => passAt (takes_of rfl rfl rfl rfl) σ) (by rfl) (pa_cons (pv 0) (pa_cons (pv 1) (pa_cons (pv 6) pa_nil)))) (pa_cons (pv 2) (pa_cons (pv 4) pa_nil)))))) pa_nil)))))) pss_nil))))
    (pss_one (ps_ret (C8.pe_c c_apart hr (by omega) (by rfl) (pa_cons (pv 0) (pa_cons (pv 1) pa_nil)))))))), ?_⟩
  have l5 : (plc ns ρ).length ≤ 5 := hs.t.p5
  have hd := plc_heads ns ρ
  refine ⟨_, rfl, _, rfl, st, u, faces, plc ns ρ, rfl, hs.s, plc_two ns ρ, l5, fun hu H1 s1 => ?_, fun hu => q1 (by rw [← hd]; exact hu)⟩
  have hu : u ∈ ns := by rw [← hd]; exact hu
  refine ⟨_, rfl, _, rfl, h, x, rooms, rows, rfl, hs.h.tu (Tu.same s1), fun hx H2 s2 => ?_, fun hx => (q2 hu hx).same s1⟩
  have s02 := s1.trans s2
  have n02 : Nx T H H2 := (Nx.refl hT).same s02
  refine ⟨_, rfl, _, rfl, _, rfl, h, st, u, rooms, rows, faces, plc ns ρ, rfl, hs.same s02, by rw [hd]; exact hu, n02.t, fun E1 m fd2 H3 n3 hF hE hS => ⟨E1, _, rfl, hE.at_, trivial, fun od => ?_⟩⟩
  have hK := hE.keep od
  have nK := (n02.trans n3).mutD hE.at_ (hF.back n02) (.frz od (.dK (kvOf m)))
  clear hE n3
  generalize hgK : upd H3 E1 (.frz od (.dK (kvOf m))) = HK at hK nK ⊢
  have hDo : HK E1 = some (.frz od (.dK (kvOf m))) := by rw [← hgK, upd_same]
  have ml : m.length = fd2.length := by
    have := congrArg List.length hK.kk
    rw [List.length_map, List.length_map] at this
    exact this
  refine ⟨E1, od, rfl, .inl ⟨kvOf m, hDo, ?_⟩⟩
  refine for_gen (n := m.length) (fun i σ' Hx => ∃ v4 v5 v6 : Option V, σ' = [some (.ref h), some (.ref st), some (.str u), some (.str x), v4, v5, v6, none] ∧ Nx T HK Hx ∧ ∀ (j : Nat) (e : Str × List Str), j < i → fd2[j]? = some e → x ∉ rch rooms rows faces (ρ e.1)) ⟨_, _, _, rfl, Nx.refl nK.t, fun j e hj => absurd hj (Nat.not_lt_zero j)⟩ (fun i σ' Hx hi hI => ?_) (fun σ' Hx hI => ?_)
  rotate_left
  · obtain ⟨v4, v5, v6, rfl, nx, hall⟩ := hI
    refine ⟨⟨nx.e E1 _ hDo (fun ps z => by cases z), by rw [kvOf_len]; exact Nat.le_refl _⟩, ?_⟩
    have n0x := nK.trans nx
    have nc : ¬ CanCome rooms rows faces ns ρ u x := fun ⟨g, hc, hr2⟩ => by
      obtain ⟨e, he, eg⟩ := List.mem_map.mp (hS.iff.mpr hc)
      obtain ⟨j, hj⟩ := List.mem_iff_getElem?.mp he
      refine hall j e (by rw [ml]; exact (List.getElem?_eq_some_iff.mp hj).1) hj ?_
      rw [eg]
      exact hr2
    exact ⟨_, rfl, _, rfl, h, st, rooms, rows, faces, plc ns ρ, rfl, hs.nx n0x, n0x.t, fun p ep H4 n4 hp hr2 => q4 hu hx nc p ep H4 (n0x.trans n4) hp hr2⟩
  obtain ⟨v4, v5, v6, rfl, nx, hall⟩ := hI
  have n0x := nK.trans nx
  refine ⟨⟨nx.e E1 _ hDo (fun ps z => by cases z), by rw [kvOf_len]; exact hi⟩, ?_⟩
  rintro _ H' ⟨eH, key, vv, hkv, rfl⟩
  have eH := eH.symm
  subst eH
  have hmk : m[i]? = some m[i] := List.getElem?_eq_getElem hi
  obtain ⟨e, he⟩ : ∃ e, fd2[i]? = some e := ⟨_, List.getElem?_eq_getElem (by omega)⟩
  have e1 : m[i].1 = e.1 := by
    have z : (m.map (·.1))[i]? = (ks fd2)[i]? := by rw [hK.kk]
    unfold ks at z
    rw [List.getElem?_map, List.getElem?_map, hmk, he] at z
    exact Option.some.inj z
  have hkv2 : (kvOf m)[i]? = some (Sum.inr m[i].1, V.ref m[i].2) := by unfold kvOf; rw [List.getElem?_map, hmk]; rfl
  rw [hkv2] at hkv
  cases hkv
  rw [e1]
  have hcn : Cn (rsOf rooms rows faces (plc ns ρ)) u e.1 := hS.iff.mp (ks_mem (List.mem_of_getElem? he))
  have hgn : e.1 ∈ ns := by
    have := Cn.mem (by rw [ks_plc]; exact hu) hcn
    rw [ks_plc] at this
    exact this
  generalize hge : e.1 = g at hcn hgn
  have hsx := hs.nx n0x
  obtain ⟨jg, hjg⟩ := List.mem_iff_getElem?.mp hgn
  show gName 4 (.str g) _ _ _
  refine ⟨_, rfl, _, rfl, _, rfl, _, rfl, h, st, g, x, rooms, rows, faces, plc ns ρ, rfl, hsx, n0x.t, fun hn => absurd hn (not_head hgn), fun _ hn => absurd hx hn, fun j r hj _ fd3 H4 n4 hS3 => ?_⟩
  obtain ⟨_, rfl⟩ := plc_get hj
  have n04 := n0x.trans n4
  refine ⟨fun p a hp hpa => ?_, fun hno => ?_⟩
  rotate_left
  · refine ⟨_, rfl, rfl, _, rfl, iteF ⟨_, _, _, rfl, nx.trans n4, fun j' e' hj' he' => ?_⟩⟩
    by_cases z : j' < i
    · exact hall j' e' z he'
    · obtain rfl : j' = i := by omega
      rw [he] at he'
      cases he'
      rw [hge]
      exact fun w => hno (hS3.iff.mpr (rch_mem.mp w).2)
  have npd := spd_nd hs.v hS3 hp
  have hWf := (hS3.wk _ hp).wf
  have lp : p.length ≤ 12 := Nat.le_trans (nodup_sub npd (m := rows.map hd0) fun d hd => by
    obtain ⟨k, hk⟩ := List.mem_iff_getElem?.mp hd
    obtain ⟨y, z, _, _, a3, _⟩ := wf_door hWf hk
    obtain ⟨i', l, a', b', ez, hri, _⟩ := outs_mem (rows3 hs.v) a3
    cases ez
    exact List.mem_map.mpr ⟨_, List.mem_of_getElem? hri, rfl⟩) (by rw [List.length_map]; exact hs.v.d12)
  refine ⟨_, rfl, rfl, _, rfl, iteT ?_⟩
  refine ⟨_, rfl, a, rfl, ⟨_, SqT.of hpa⟩, fun B1 hB1 => ?_⟩
  refine lc_tup (K := K) (a := a) (xs := p.map V.str) (fun k Hy => Same H4 Hy ∧ ∃ es : List Addr, Hy B1 = some (.lst (es.map V.ref)) ∧ RowsAt Hy es (((p.take k).map fun d => (g, d)).map pr)) ⟨same_new hB1 _, [], upd_same, RowsAt.nil⟩ (fun k Hy _ ⟨sy, _⟩ => SqT.of (sy _ _ hpa)) (fun k y Hy hy2 ⟨sy, es, hBy, hM⟩ => ?_) (fun Hy ⟨sy, es, hBy, hM⟩ => ?_)
  · obtain ⟨d, hd, rfl⟩ := str_at hy2
    refine ⟨rfl, lcY ?_⟩
    refine ⟨_, rfl, _, rfl, (by show 2 ≤ sizeLine; decide), fun tq htq => ?_⟩
    have sq := same_new htq (.tup [.str g, .str d])
    have htq' : upd Hy tq (.tup [.str g, .str d]) tq = some (.tup ((pr (g, d)).map V.str)) := upd_same
    show ∃ acc, upd Hy tq (.tup [.str g, .str d]) B1 = some (.lst acc) ∧ _
    generalize upd Hy tq (.tup [.str g, .str d]) = Hz at sq htq' ⊢
    have hBz := sq _ _ hBy
    have el := hM.1
    rw [List.length_map, List.length_map, List.length_take] at el
    have tum : Tu Hz (upd Hz B1 (.lst (es.map V.ref ++ [.ref tq]))) := fun a xs h => by
      rw [upd_ne (fun e => by rw [e, hBz] at h; cases h)]
      exact h
    refine ⟨_, hBz, ?_, same_mut (sy.trans sq) hB1 _, es ++ [tq], ?_, ?_⟩
    · rw [List.length_map]
      exact sz100 (by omega)
    · rw [upd_same, List.map_append]
      rfl
    · rw [take_snoc hd, List.map_append, List.map_append]
      exact ((hM.tu (Tu.same sq)).tu tum).snoc (tum _ _ htq')
  rw [List.length_map, List.take_length] at hM
  refine ⟨B1, _, rfl, .inl ⟨SqL.of hBy, fun t2 ht2 => ?_⟩⟩
  have s5 := same_new ht2 (.tup (es.map V.ref))
  have hrow : RowT (upd Hy t2 (.tup (es.map V.ref))) t2 (p.map fun d => (g, d)) := ⟨es, upd_same, hM.tu (Tu.same s5)⟩
  show gName 6 (.ref t2) _ (upd Hy t2 (.tup (es.map V.ref))) _
  generalize upd Hy t2 (.tup (es.map V.ref)) = H5 at s5 hrow ⊢
  have n05 := (n04.same sy).same s5
  have hgo := go_walk hs.v hgn hs.t npd hWf
  refine ⟨_, rfl, _, rfl, _, rfl, _, rfl, _, rfl, h, st, t2, rooms, rows, faces, plc ns ρ, _, rfl, hs.nx n05, hrow.rwX, fun j p' s3 k1 k2 k3 => (go_all hgo k1 k2 k3).elim, fun s6 k1 p6 H6 s6' hp6 => ?_⟩
  rw [hgo] at k1
  cases k1
  have n06 := n05.same s6'
  have st6 := goM_st hs.v (s := (faces, plc ns ρ)) hs.t hgo
  have hs6 : HSy H6 h p6 rooms rows (trP rows faces (inP p)) (plc ns (put1 ρ g x)) := ⟨(hs.nx n06).h, hs.v, hp6, st6⟩
  have cn6 := cn_keep hs.v (s := (faces, plc ns ρ)) hs.t hgo (by rw [hd]; exact hu) hcn
  refine ⟨_, rfl, _, rfl, h, p6, u, g, rooms, rows, trP rows faces (inP p), ns, put1 ρ g x, rfl, hs6, hu, hgn, n06.t, cn6, fun p7 row2 H7 n7 hp7 hg2 hl2 => ?_⟩
  refine row_cat ((hrow.tu (Tu.same s6')).tu n7.tu) hp7 (by rw [List.length_map]; omega) fun p8 H8 s8 hp8 => ⟨(by show 2 ≤ sizeLine; decide), fun t ht => ?_⟩
  have s9 := same_new ht (.tup [.str "row", .ref p8])
  refine q3 hu hx ⟨g, hcn, rch_mem.mpr ⟨hx, ⟨_, hS3.wk _ hp⟩⟩⟩ t p8 _ _ _ (((n06.trans n7).same s8).same s9) upd_same (hp8.tu (Tu.same s9)) (by rw [goM_ap hgo]; exact hg2) ⟨_, rfl, ?_⟩ (by rw [List.length_append, List.length_map]; omega)
  show (if u = u then put1 ρ g x g else _) = x
  rw [if_pos rfl]
  exact if_pos rfl
end
end Td
set_option maxHeartbeats 4000000
namespace Td
open PySem PySem.Spec PyProof.Rows L2 LamX NdefX
theorem HSy.ch {H H' : Hp} {b h st : Addr} {rooms : List Str} {rows : List (List Str)} {faces : List Str} {places : List (List Str)} (c : Ch b H H') (B : Box H b) (x : HSy H h st rooms rows faces places) : HSy H' h st rooms rows faces places := ⟨x.h.tu (Tu.of c B), x.v, x.s.ch c B, x.t⟩
theorem HSy.mut {H : Hp} {h st p : Addr} {rooms : List Str} {rows : List (List Str)} {faces : List Str} {places : List (List Str)} {us : List V} (x : HSy H h st rooms rows faces places) (hp : H p = some (.lst us)) (us' : List V) : HSy (upd H p (.lst us')) h st rooms rows faces places := ⟨x.h.tu fun b xs g => by
  rw [upd_ne (fun q => by rw [q, hp] at g; cases g)]
  exact g, x.v, x.s.mut hp us', x.t⟩
def spWalkM : Sp := fun vs H Q _ => ∃ (b h st : Addr) (m : Int) (rooms : List Str) (rows : List (List Str)) (faces : List Str) (places : List (List Str)), vs = [.ref b, .ref h, .ref st, .int m] ∧ Box H b ∧ HSy H h st rooms rows faces places ∧ 0 ≤ m ∧ m ≤ 40 ∧
  ∀ p rp sp l s' H', H' p = some (.tup [.ref rp, .ref sp]) → RowL H' rp l → HSy H' h sp rooms rows s'.1 s'.2 → goM rows (faces, places) l = some s' → Box H' b → Ch b H H' → Q (.ref p) H'
section
variable {P : Program} {w : World} {K : PySem.W.Frag} {mg : Str → Option Value} {base : Heap} {f : Addr} {fd : FuncData}
abbrev s_law_walk : Stmt := top 51
abbrev n_law_walk : List Str := ["box", "hall", "state", "many", "row", "k", "ways"]
theorem sc_law_walk : FnScope n_law_walk ["box", "hall", "state", "many"] (defScope s_law_walk) := ⟨rfl, rfl, rfl, by decide +kernel, rfl, by decide +kernel, by decide +kernel⟩
theorem ok_law_walk (F : FnP K "_law_walk" s_law_walk f fd) (hm : mg "_law_walk" = some (.ref f)) (c_law_deeds : Cal P w K mg base 1 "_law_deeds" spDeedsZ) (c_law_passed : Cal P w K mg base 1 "_law_passed" spLPZ) (c_law_take : Cal P w K mg base 1 "_law_take" spTake) (m_len : mg "len" = none) (m_range : mg "range" = none) :
    Cal P w K mg base 2 "_law_walk" spWalkM := by
  refine cal_of (F.ok sc_law_walk (fun vs H Q E h => ?_) (fun cdv A outer s H vs Q E hr h => ?_)) hm F.kp (F.bindsN (ps := ["box", "hall", "state", "many"]) fun _ _ _ _ _ _ us hl => match us, hl with | [_, _, _, _], _ => rfl)
  · obtain ⟨b, h, st, m, rooms, rows, faces, places, rfl, hB, hs, m0, m40, q⟩ := h
    rfl
  obtain ⟨b, h, st, m, rooms, rows, faces, places, rfl, hB, hs, m0, m40, q⟩ := h
  have nd := sc_law_walk.nd
  refine ⟨_, PSs.nox (pss_cons (ps_set (i := 4) nd rfl (Or.inl rfl) (pe_lst pa_nil))
    (pss_cons (ps_for PassesOwn.never rfl (pi_range1 (by rfl) m_range (pa_cons (pv 3) pa_nil)) (pg_name (i := 5) nd rfl (Or.inl rfl)) (pss_cons (ps_set (i := 6) nd rfl (Or.inl rfl) (C8.pe_c c_law_deeds hr (by omega) (by rfl) (pa_cons (pv 1) (pa_cons (pv 2) pa_nil))))
    (pss_one (ps_if (pt_cmpR (r := rNeE K) (op_neE hr.units) (pv 6) (pe_lst pa_nil) (nomark _)) (pss_cons (ps_expr (show PE _ _ (tBM K _ _ _ _) from pe_bm PySem.F.plainAttrs_list PySem.F.slot_list_append PySem.F.type_list_append mt_append (pv 4) (pa_cons (pe_ix (r := rIxL K) ix_list (pv 6) (C8.pe_c c_law_take hr (by omega) (by rfl) (pa_cons (pv 0) (pa_cons (pe_callB (r := rLn K) call_len_seq (by rfl) m_len PySem.boot_len (pa_cons (pv 6) pa_nil)) pa_nil))) (fun _ _ => rfl)) pa_nil)))
    (pss_one (ps_set (i := 2) nd rfl (Or.inl rfl) (C8.pe_c c_law_passed hr (by omega) (by rfl) (pa_cons (pv 1) (pa_cons (pv 2) (pa_cons (pe_ix (r := rIxT K) ix_tup (pe_ix (r := rIxL K) ix_list (pv 4) (pe_un un_neg pe_int) (fun _ _ => rfl)) pe_int (fun _ _ => rfl)) (pa_cons (pe_ix (r := rIxT K) ix_tup (pe_ix (r := rIxL K) ix_list (pv 4) (pe_un un_neg pe_int) (fun _ _ => rfl)) pe_int (fun _ _ => rfl)) pa_nil)))))))) pss_nil))))
    (pss_one (ps_ret (pe_tup (pa_cons (pv 4) (pa_cons (pv 2) pa_nil))))))), ?_⟩
  refine ⟨(by show 0 ≤ sizeLine; decide), fun R hR => ?_⟩
  have nRb : R ≠ b := hB.ne hR
  refine ⟨_, rfl, _, rfl, by omega, by omega, ?_⟩
  refine for_range (lo := 0) (n := m.toNat) (fun i σ' H' => ∃ (sp : Addr) (s' : Sta) (v5 v6 : Option V) (cs : List Addr) (l : List Deed), σ' = [some (.ref b), some (.ref h), some (.ref sp), some (.int m), some (.ref R), v5, v6] ∧ H' R = some (.lst (cs.map V.ref)) ∧ RowsAt H' cs (l.map pr) ∧ HSy H' h sp rooms rows s'.1 s'.2 ∧ goM rows (faces, places) l = some s' ∧ l.length ≤ i ∧ Box H' b ∧ Ch b H H')
    ⟨st, (faces, places), none, none, [], [], rfl, upd_same, RowsAt.nil, hs.same (same_new hR _), rfl, Nat.zero_le _, hB.new hR _, (Ch.refl b H).new hR _⟩ (fun i σ' H' hi hP => ?_) (fun σ' H' hP => ?_)
  · obtain ⟨sp, s', v5, v6, cs, l, rfl, hRx, hC, X, hgo, hll, B, c⟩ := hP
    have cl : cs.length = l.length := by rw [hC.1, List.length_map]
    refine ⟨_, rfl, _, rfl, h, sp, rooms, rows, s'.1, s'.2, rfl, X.h, X.v, X.s, X.t, fun p2 as2 ws H2 hp2 s2 hl2 hA2 hw60 hdo => ?_⟩
    have B2 := bxs B s2
    have np2b : p2 ≠ b := B.ne hp2
    have npR : p2 ≠ R := fun e => by
      rw [e, hRx] at hp2
      cases hp2
    have al2 : as2.length = ws.length := hA2.1
    have aml : (as2.map V.ref).length = ws.length := by rw [List.length_map, al2]
    refine ⟨_, rfl, (by show 0 ≤ sizeLine; decide), fun e0 he0 => ⟨p2, e0, _, rfl, rfl, SqL.of (same_new he0 _ _ _ hl2), SqL.of upd_same, _, rfl, ?_⟩⟩
    have s23 := s2.trans (same_new he0 (.lst []))
    have B3 := B2.new he0 (.lst [])
    have hl3 := same_new he0 (.lst []) _ _ hl2
    have hA3 := hA2.tu (Tu.same (same_new he0 (.lst [])))
    have X3 := X.same s23
    have hR3 := s23 _ _ hRx
    have hC3 := hC.tu (Tu.same s23)
    have c3 : Ch b H (upd H2 e0 (.lst [])) := c.trans (Ch.of s23)
    generalize upd H2 e0 (.lst []) = H3 at B3 hl3 hA3 X3 hR3 hC3 c3 ⊢
    cases ws with
    | nil =>
      have ez : as2 = [] := List.length_eq_zero_iff.mp al2
      subst ez
      exact iteF ⟨sp, s', _, _, cs, l, rfl, hR3, hC3, X3, hgo, by omega, B3, c3⟩
    | cons d0 l2' =>
      have hpos : 0 < as2.length := by rw [al2]; exact Nat.succ_pos _
      have en : (as2.map V.ref).isEmpty = false := by
        cases as2 with
        | nil => exact absurd hpos (by decide)
        | cons a as => rfl
      rw [en]
      refine iteT ?_
      refine ⟨_, rfl, .inl ⟨rfl, _, SqL.of hR3⟩, _, rfl, _, rfl, _, rfl, p2, _, rfl, .inl (SqL.of hl3), b, _, rfl, B3, (by rw [aml]; show (0 : Int) < _; omega), (by rw [aml]; omega), fun r1 H4 r10 r11 B4 c4 => ?_⟩
      rw [aml] at r11
      have hl4 := c4 _ _ np2b hl3
      have hR4 := c4 _ _ nRb hR3
      have X4 := X3.ch c4 B3
      have hA4 := hA3.tu (Tu.of c4 B3)
      have hC4 := hC3.tu (Tu.of c4 B3)
      obtain ⟨k, rfl⟩ : ∃ k : Nat, r1 = (k : Int) := ⟨r1.toNat, by omega⟩
      have hk' : k < (d0 :: l2').length := by omega
      have hdk : (d0 :: l2')[k]? = some (d0 :: l2')[k] := List.getElem?_eq_getElem hk'
      have hda := hdo _ (List.getElem_mem hk')
      generalize (d0 :: l2')[k] = dd at hdk hda
      obtain ⟨wn, dn, rfl, hway⟩ := hda
      have hak : as2[k]? = some (as2[k]'(by omega)) := List.getElem?_eq_getElem (by omega)
      generalize as2[k]'(by omega) = ad at hak
      have had := hA4.2 k ad _ hak hdk
      refine ⟨p2, _, _, _, rfl, rfl, SqL.of hl4, atI_nat (j := k) (by rw [List.getElem?_map, hak]; rfl), R, _, _, rfl, rfl, hR4, ?_, ?_⟩
      · rw [List.length_map]
        exact sz100 (by omega)
      have tum : Tu H4 (upd H4 R (.lst (cs.map V.ref ++ [.ref ad]))) := fun a xs h => by
        rw [upd_ne (fun e => by rw [e, hR4] at h; cases h)]
        exact h
      have hR5 : upd H4 R (.lst (cs.map V.ref ++ [.ref ad])) R = some (.lst (cs.map V.ref ++ [.ref ad])) := upd_same
      have X5 := X4.mut hR4 (cs.map V.ref ++ [.ref ad])
      have had5 := tum _ _ had
      have hC5 := (hC4.tu tum).snoc had5
      have B5 := B4.upd nRb (.lst (cs.map V.ref ++ [.ref ad]))
      have c5 : Ch b H (upd H4 R (.lst (cs.map V.ref ++ [.ref ad]))) := (c3.trans c4).mut hR _
      generalize upd H4 R (.lst (cs.map V.ref ++ [.ref ad])) = H5 at hR5 X5 had5 hC5 B5 c5 ⊢
      obtain ⟨s2', hstp⟩ : ∃ s2', stp rows s' (wn, dn) = some s2' := by
        obtain ⟨i', f', a', b', w1, w2, w3⟩ := hway
        obtain ⟨j', hj'⟩ := List.mem_iff_getElem?.mp w3
        have e := stp_at (faces := s'.1) X5.t.pnd hs.v.dn w1 w2 hj'
        rw [if_pos rfl] at e
        exact ⟨_, e⟩
      refine ⟨_, rfl, _, rfl, _, rfl, _, rfl, R, _, _, _, rfl, rfl, SqL.of hR5, atI_last _ _, ad, _, _, _, rfl, rfl, SqT.of had5, atI_nat (j := 0) rfl, _, rfl, _, rfl, R, _, _, _, rfl, rfl, SqL.of hR5, atI_last _ _, ad, _, _, _, rfl, rfl, SqT.of had5, atI_nat (j := 1) rfl, h, sp, wn, dn, rooms, rows, s'.1, s'.2, s2', rfl, ⟨X5.h, hs.v, X5.s, X5.t⟩, hstp, fun pp H6 s6 hz hsv => ?_⟩
      refine ⟨pp, s2', _, _, cs ++ [ad], l ++ [(wn, dn)], rfl, ?_, ?_, ⟨(X5.same s6).h, hs.v, hz, hsv⟩, ?_, ?_, bxs B5 s6, c5.trans (Ch.of s6)⟩
      · rw [s6 _ _ hR5, List.map_append]
        rfl
      · rw [List.map_append]
        exact hC5.tu (Tu.same s6)
      · rw [goM_snoc hgo]
        exact hstp
      · rw [List.length_append]
        show l.length + 1 ≤ i + 1
        omega
  · obtain ⟨sp, s', v5, v6, cs, l, rfl, hRx, hC, X, hgo, hll, B, c⟩ := hP
    refine ⟨_, rfl, _, rfl, (by show 2 ≤ sizeLine; decide), fun p hp => ?_⟩
    have sp_ := same_new hp (.tup [.ref R, .ref sp])
    exact q p R sp l s' _ upd_same ⟨cs, sp_ _ _ hRx, hC.tu (Tu.same sp_)⟩ (X.same sp_) hgo (B.new hp _) (c.new hp _)
end
end Td
set_option maxHeartbeats 4000000
namespace Td
open PySem PySem.Spec PyProof.Rows L2 LamX NdefX
/-! ### bands, by walkers -/
section
variable {rooms : List Str} {rows : List (List Str)} {faces : List Str} {ns : List Str} {ρ : Str → Str}
theorem cmgr_go (hv : HallV rooms rows) {u : Str} : ∀ {l : List Deed} {s s' : Sta}, StV rooms rows s.1 s.2 → goM rows s l = some s' → u ∈ s.2.map hd0 → cm (rsOf rooms rows s'.1 s'.2) u = cm (rsOf rooms rows s.1 s.2) u ∧ gr rooms (rsOf rooms rows s'.1 s'.2) u = gr rooms (rsOf rooms rows s.1 s.2) u
  | [], s, s', _, h, _ => by
    cases h
    exact ⟨rfl, rfl⟩
  | p :: l, s, s', ht, h, hu => by
    unfold goM at h
    rw [List.foldlM_cons] at h
    cases e : stp rows s p with
    | none => rw [e] at h; cases h
    | some t =>
      rw [e] at h
      have A := alt_stp hv ht e
      have ku : u ∈ ks (rsOf rooms rows s.1 s.2) := by rw [rsOf_ks]; exact hu
      have hn := names_goM hv ht (l := [p]) (s' := t) (by show List.foldlM (stp rows) s [p] = some t; rw [List.foldlM_cons, e]; rfl)
      obtain ⟨i1, i2⟩ := cmgr_go hv (stp_st hv ht e) h (by rw [hn]; exact hu)
      exact ⟨i1.trans (A.cm ku).symm, i2.trans (A.gr ku rooms).symm⟩
theorem cm_in (ht : StV rooms rows faces (plc ns ρ)) {u v : Str} : v ∈ cm (rsOf rooms rows faces (plc ns ρ)) u ↔ v ∈ ns ∧ Cn (rsOf rooms rows faces (plc ns ρ)) u v := by
  rw [cm_mem, ks_plc]
theorem can_gr (ht : StV rooms rows faces (plc ns ρ)) {u x : Str} (hu : u ∈ ns) (hx : x ∈ rooms) : CanCome rooms rows faces ns ρ u x ↔ x ∈ gr rooms (rsOf rooms rows faces (plc ns ρ)) u := by
  rw [gr_mem]
  constructor
  · rintro ⟨g, hc, hr⟩
    have hg := Cn.mem (by rw [ks_plc]; exact hu) hc
    have hgn : g ∈ ns := by rw [ks_plc] at hg; exact hg
    exact ⟨hx, g, (cm_in ht).mpr ⟨hgn, hc⟩, by rw [lk_plc ht hgn]; exact hr⟩
  · rintro ⟨_, m, hm, hl⟩
    obtain ⟨hmn, hc⟩ := (cm_in ht).mp hm
    rw [lk_plc ht hmn] at hl
    exact ⟨m, hc, hl⟩
theorem own_rch (ht : StV rooms rows faces (plc ns ρ)) {v : Str} (hw : v ∈ ns) : ρ v ∈ lk (rsOf rooms rows faces (plc ns ρ)) v := by
  rw [lk_plc ht hw]
  exact rch_mem.mpr ⟨plc_room ht hw, Rch.refl _ _⟩
theorem gr_own (ht : StV rooms rows faces (plc ns ρ)) {u v : Str} (hu : u ∈ ns) (hw : v ∈ ns) : ρ v ∈ gr rooms (rsOf rooms rows faces (plc ns ρ)) u ↔ v ∈ cm (rsOf rooms rows faces (plc ns ρ)) u := by
  rw [gr_mem]
  constructor
  · rintro ⟨_, m, hm, hl⟩
    obtain ⟨hmn, hc⟩ := (cm_in ht).mp hm
    exact (cm_in ht).mpr ⟨hw, hc.trans (Cn.share (rsOf_nd ht) (by rw [ks_plc]; exact hmn) (by rw [ks_plc]; exact hw) hl (own_rch ht hw))⟩
  · intro h
    exact ⟨plc_room ht hw, v, h, own_rch ht hw⟩
theorem cm_same (ht : StV rooms rows faces (plc ns ρ)) {u v : Str} (hu : u ∈ ns) (h : v ∈ cm (rsOf rooms rows faces (plc ns ρ)) u) : cm (rsOf rooms rows faces (plc ns ρ)) v = cm (rsOf rooms rows faces (plc ns ρ)) u ∧ gr rooms (rsOf rooms rows faces (plc ns ρ)) v = gr rooms (rsOf rooms rows faces (plc ns ρ)) u := by
  have e := cm_eq (rsOf_nd ht) (by rw [ks_plc]; exact hu) ((cm_in ht).mp h).2
  refine ⟨e.symm, ?_⟩
  unfold gr
  rw [e]
theorem gr_apart (ht : StV rooms rows faces (plc ns ρ)) {u v x : Str} (hu : u ∈ ns) (hw : v ∈ ns) (h : v ∉ cm (rsOf rooms rows faces (plc ns ρ)) u) (h1 : x ∈ gr rooms (rsOf rooms rows faces (plc ns ρ)) v) (h2 : x ∈ gr rooms (rsOf rooms rows faces (plc ns ρ)) u) : False := by
  obtain ⟨_, m, hm, hl⟩ := gr_mem.mp h1
  obtain ⟨_, n, hn, hl2⟩ := gr_mem.mp h2
  obtain ⟨m1, m2⟩ := (cm_in ht).mp hm
  obtain ⟨n1, n2⟩ := (cm_in ht).mp hn
  have nd := rsOf_nd ht
  have c1 : Cn (rsOf rooms rows faces (plc ns ρ)) n m := Cn.share nd (by rw [ks_plc]; exact n1) (by rw [ks_plc]; exact m1) hl2 hl
  exact h ((cm_in ht).mpr ⟨hw, (n2.trans c1).trans (m2.symm nd (by rw [ks_plc]; exact hw))⟩)
end
/-! ### what is known of a walker -/
def FrAt (H : Hp) (p : Addr) (c g : List Str) : Prop := ∃ l1 l2 : Addr, H p = some (.tup [.ref l1, .ref l2]) ∧ H l1 = some (.lst (c.map V.str)) ∧ H l2 = some (.lst (g.map V.str))
theorem FrAt.nx {T : List (Addr × Str)} {H H' : Hp} {p : Addr} {c g : List Str} (n : Nx T H H') (h : FrAt H p c g) : FrAt H' p c g := by
  obtain ⟨l1, l2, a, b, d⟩ := h
  exact ⟨l1, l2, n.tu _ _ a, n.lst b, n.lst d⟩
def frD (c g : List Str) : PyData := .tuple [.list (c.map PyData.str), .list (g.map PyData.str)]
theorem FrAt.dp {K : PySem.W.Frag} {H : Hp} {p : Addr} {c g : List Str} (h : FrAt H p c g) : Dp K H (.ref p) (frD c g) := by
  obtain ⟨l1, l2, a, b, d⟩ := h
  exact .tup (SqT.of a) (.cons (.lst (SqL.of b) (dp_strs _)) (.cons (.lst (SqL.of d) (dp_strs _)) .nil))
theorem frD_sh {c g : List Str} (hc : ∀ x ∈ c, Nm x) (hg : ∀ x ∈ g, Nm x) : SeqAt.shaped (frD c g) = true := by
  have a1 := lay_sD hc
  have a2 := lay_sD hg
  unfold sD at a1 a2
  rw [PyData.canLay0] at a1 a2
  have e1 := depth_map PyData.str 1 (fun a => by simp [PyData.depth]) c
  have e2 := depth_map PyData.str 1 (fun a => by simp [PyData.depth]) g
  unfold SeqAt.shaped frD
  have : (PyData.tuple [.list (c.map PyData.str), .list (g.map PyData.str)]).depth ≤ 64 := by
    simp only [PyData.depth, PyData.depthAll]
    omega
  rw [decide_eq_true this]
  simp only [PyData.canLay0, PyData.canLayAll0, a1, a2, Bool.and_self, Bool.and_true]
theorem frD_eq (c g : List Str) : PyData.eqv (frD c g) (frD c g) = true := by
  unfold frD
  simp only [PyData.eqv, PyData.eqvAll]
  have h1 := eqv_sD c c
  have h2 := eqv_sD g g
  unfold sD at h1 h2
  simp only [PyData.eqv] at h1 h2
  rw [h1, h2]
  simp
def spFr (T : List (Addr × Str)) : Sp := fun vs H Q _ => ∃ (h st : Addr) (u : Str) (rooms : List Str) (rows : List (List Str)) (faces ns : List Str) (ρ : Str → Str), vs = [.ref h, .ref st, .str u] ∧ HSy H h st rooms rows faces (plc ns ρ) ∧ u ∈ ns ∧ Tabs T H ∧
  ∀ p H', Nx T H H' → FrAt H' p (cm (rsOf rooms rows faces (plc ns ρ)) u) (gr rooms (rsOf rooms rows faces (plc ns ρ)) u) → Q (.ref p) H'
section
variable {P : Program} {w : World} {K : PySem.W.Frag} {mg : Str → Option Value} {base : Heap} {f : Addr} {fd : FuncData} {T : List (Addr × Str)}
abbrev s_law_friends : Stmt := top 53
abbrev n_law_friends : List Str := ["hall", "state", "one", "fellows", "other", "room"]
theorem sc_law_friends : FnScope n_law_friends ["hall", "state", "one"] (defScope s_law_friends) := ⟨rfl, rfl, rfl, by decide +kernel, rfl, by decide +kernel, by decide +kernel⟩
theorem ok_law_friends (F : FnP K "_law_friends" s_law_friends f fd) (hm : mg "_law_friends" = some (.ref f)) (c_bring : CalX P w K mg base 11 "bring" (spBr K T)) (c_meet : CalX P w K mg base 11 "meet" (spMt K T)) :
    Cal P w K mg base 12 "_law_friends" (spFr T) := by
  refine cal_of (F.ok sc_law_friends (fun vs H Q E h => ?_) (fun cdv A outer s H vs Q E hr h => ?_)) hm F.kp (F.bindsN (ps := ["hall", "state", "one"]) fun _ _ _ _ _ _ us hl => match us, hl with | [_, _, _], _ => rfl)
  · obtain ⟨h, st, u, rooms, rows, faces, ns, ρ, rfl, hs, hu, hT, q⟩ := h
    rfl
  obtain ⟨h, st, u, rooms, rows, faces, ns, ρ, rfl, hs, hu, hT, q⟩ := h
  have nd := sc_law_friends.nd
  refine ⟨_, PSs.nox (pss_cons (ps_setLc (i := 3) (own := [("other", 4), ("room", 5)]) (g := (gTup K 2 (gCons (gName 4) (gCons (gName 5) gNil)))) (by rfl) nd rfl rfl (sw_true rfl rfl rfl (by decide +kernel)) (pi_tup (pe_ix (r := rIxT K) ix_tup (pv 1) pe_int (fun _ _ => rfl))) (blkOk_by (own := [("other", 4), ("room", 5)]) (N := n_law_friends) (sc := defScope s_law_friends) (by decide +kernel)) (fun _ _ _ _ _ => (pg_tup (by rfl) (pgs_cons (pg_name (i := 4) nd rfl (Or.inl rfl)) (pgs_cons (pg_name (i := 5) nd rfl (Or.inl rfl)) pgs_nil)))) (fun _ _ _ _ _ => (pts_one (pt_cmpR op_eq (pe_ix (r := rIxT K) ix_tup (pe_cX c_meet hr (by omega) (fun σ => passF) (by rfl) (pa_cons (pv 0) (pa_cons (pv 1) (pa_cons (pv 2) (pa_cons (pv 4) pa_nil))))) pe_int (fun _ _ => rfl)) pe_str (nomark _)))) (fun _ _ _ _ _ => (pv 4)))
    (pss_one (ps_ret (pe_tup (pa_cons (pv 3) (pa_cons (pe_lc (own := [("room", 5)]) (g := (gName 5)) (by rfl) nd (pi_tup (pe_ix (r := rIxT K) ix_tup (pv 0) pe_int (fun _ _ => rfl))) (blkOk_by (own := [("room", 5)]) (N := n_law_friends) (sc := defScope s_law_friends) (by decide +kernel)) (fun _ _ _ _ _ => (pg_name (i := 5) nd rfl (Or.inl rfl))) (fun _ _ _ _ _ => (pts_one (pt_cmpR op_eq (pe_ix (r := rIxT K) ix_tup (pe_cX c_bring hr (by omega) (fun σ => passF) (by rfl) (pa_cons (pv 0) (pa_cons (pv 1) (pa_cons (pv 2) (pa_cons (pv 5) pa_nil))))) pe_int (fun _ _ => rfl)) pe_str (nomark _)))) (fun _ _ _ _ _ => (pv 5))) pa_nil)))))), ?_⟩
  obtain ⟨fa, pl, g1, g2, bs, g3, hRB⟩ := id hs.s
  obtain ⟨ra, da, h1, h2, as, h3, hRA⟩ := id hs.h
  have hbl : (bs.map V.ref).length = ns.length := by rw [List.length_map, hRB.1]; exact List.length_map _
  have l5 := ns5 hs.t
  have r8 := hs.v.r8
  refine ⟨_, rfl, st, _, _, _, rfl, rfl, SqT.of g1, atI_nat (j := 1) rfl, pl, rfl, ⟨_, SqT.of g3⟩, fun B hB => ?_⟩
  refine lc_tup (K := K) (a := pl) (xs := bs.map V.ref) (fun k Hx => Nx T H Hx ∧ Hx B = some (.lst (((ns.take k).filter fun v => cnb (rsOf rooms rows faces (plc ns ρ)) u v).map V.str))) ⟨(Nx.refl hT).same (same_new hB _), upd_same⟩ (fun k Hx _ ⟨nx, _⟩ => SqT.of (nx.tu _ _ g3)) (fun k y Hx hy ⟨nx, hBx⟩ => ?_) (fun Hx ⟨nx, hBx⟩ => ?_)
  · obtain ⟨a, p, rfl, hpi, hpa⟩ := hRB.row hy
    unfold plc at hpi
    rw [List.getElem?_map] at hpi
    cases hn : ns[k]? with
    | none => rw [hn] at hpi; cases hpi
    | some n =>
    rw [hn] at hpi
    cases hpi
    have hnm := List.mem_of_getElem? hn
    refine ⟨a, _, rfl, SqT.of (nx.tu _ _ hpa), rfl, _, _, rfl, _, _, rfl, rfl, rfl, ?_⟩
    rw [take_snoc hn, List.filter_append, List.map_append]
    refine ⟨_, rfl, _, rfl, _, rfl, _, rfl, h, st, u, n, rooms, rows, faces, ns, ρ, rfl, hs.nx nx, nx.t, fun z => absurd hu z, fun _ z => absurd hnm z, fun _ _ c => ?_, fun _ _ c => ?_⟩
    · intro p2 rp row s' H2 n2 hp2 _ _ _ _
      have hB2 := n2.lst hBx
      refine ⟨p2, _, _, _, rfl, rfl, SqT.of hp2, atI_nat (j := 0) rfl, rfl, _, rfl, iteT ⟨_, rfl, _, hB2, ?_, (nx.trans n2).mut hB2 (Fr.of hB) _, ?_⟩⟩
      · rw [List.length_map]
        exact sz100 (Nat.le_trans (List.length_filter_le _ _) (by rw [List.length_take]; omega))
      · rw [upd_same, List.filter_cons_of_pos (p := fun v => cnb (rsOf rooms rows faces (plc ns ρ)) u v) (cnb_iff.mpr c)]
        rfl
    · intro p2 ep H2 n2 hp2 _
      refine ⟨p2, _, _, _, rfl, rfl, SqT.of hp2, atI_nat (j := 0) rfl, rfl, _, rfl, iteF ⟨nx.trans n2, ?_⟩⟩
      rw [List.filter_cons_of_neg (p := fun v => cnb (rsOf rooms rows faces (plc ns ρ)) u v) (fun z => c (cnb_iff.mp z)), List.filter_nil, List.map_nil, List.append_nil]
      exact n2.lst hBx
  rw [hbl, List.take_length] at hBx
  have hcm : (ns.filter fun v => cnb (rsOf rooms rows faces (plc ns ρ)) u v) = cm (rsOf rooms rows faces (plc ns ρ)) u := by
    unfold cm
    rw [ks_plc]
  rw [hcm] at hBx
  have hml : (rooms.map V.str).length = rooms.length := List.length_map _
  refine ⟨_, rfl, _, rfl, h, _, _, _, rfl, rfl, SqT.of (nx.tu _ _ h1), atI_nat (j := 0) rfl, ra, rfl, ⟨_, SqT.of (nx.tu _ _ h2)⟩, fun C hC => ?_⟩
  have nBC : B ≠ C := ne_of_none hBx hC
  refine lc_tup (K := K) (a := ra) (xs := rooms.map V.str) (fun k Hy => Nx T Hx Hy ∧ Hy C = some (.lst (((rooms.take k).filter fun x => (cm (rsOf rooms rows faces (plc ns ρ)) u).any fun m => decide (x ∈ lk (rsOf rooms rows faces (plc ns ρ)) m)).map V.str))) ⟨(Nx.refl nx.t).same (same_new hC _), upd_same⟩ (fun k Hy _ ⟨ny, _⟩ => SqT.of (ny.tu _ _ (nx.tu _ _ h2))) (fun k y Hy hy ⟨ny, hCy⟩ => ?_) (fun Hy ⟨ny, hCy⟩ => ?_)
  · obtain ⟨x, hxk, rfl⟩ := str_at hy
    have hxr := List.mem_of_getElem? hxk
    have n0y := nx.trans ny
    have key : (((cm (rsOf rooms rows faces (plc ns ρ)) u).any fun m => decide (x ∈ lk (rsOf rooms rows faces (plc ns ρ)) m)) = true) ↔ CanCome rooms rows faces ns ρ u x := by
      rw [can_gr hs.t hu hxr]
      unfold gr
      rw [List.mem_filter]
      exact ⟨fun z => ⟨hxr, z⟩, fun z => z.2⟩
    refine ⟨rfl, ?_⟩
    rw [take_snoc hxk, List.filter_append, List.map_append]
    refine ⟨_, rfl, _, rfl, _, rfl, _, rfl, h, st, u, x, rooms, rows, faces, ns, ρ, rfl, hs.nx n0y, n0y.t, fun z => absurd hu z, fun _ z => absurd hxr z, fun _ _ c => ?_, fun _ _ c => ?_⟩
    · intro p2 rp row s' H2 n2 hp2 _ _ _ _
      have hC2 := n2.lst hCy
      refine ⟨p2, _, _, _, rfl, rfl, SqT.of hp2, atI_nat (j := 0) rfl, rfl, _, rfl, iteT ⟨_, rfl, _, hC2, ?_, (ny.trans n2).mut hC2 (Fr.of hC) _, ?_⟩⟩
      · rw [List.length_map]
        exact sz100 (Nat.le_trans (List.length_filter_le _ _) (by rw [List.length_take]; omega))
      · rw [upd_same, List.filter_cons_of_pos (p := fun x => (cm (rsOf rooms rows faces (plc ns ρ)) u).any fun m => decide (x ∈ lk (rsOf rooms rows faces (plc ns ρ)) m)) (key.mpr c)]
        rfl
    · intro p2 ep H2 n2 hp2 _
      refine ⟨p2, _, _, _, rfl, rfl, SqT.of hp2, atI_nat (j := 0) rfl, rfl, _, rfl, iteF ⟨ny.trans n2, ?_⟩⟩
      rw [List.filter_cons_of_neg (p := fun x => (cm (rsOf rooms rows faces (plc ns ρ)) u).any fun m => decide (x ∈ lk (rsOf rooms rows faces (plc ns ρ)) m)) (fun z => c (key.mp z)), List.filter_nil, List.map_nil, List.append_nil]
      exact n2.lst hCy
  rw [hml, List.take_length] at hCy
  refine ⟨(by show 2 ≤ sizeLine; decide), fun t ht => ?_⟩
  have st_ := same_new ht (.tup [.ref B, .ref C])
  exact q t _ ((nx.trans ny).same st_) ⟨B, C, upd_same, st_ _ _ (ny.lst hBx), st_ _ _ hCy⟩
end
end Td
set_option maxHeartbeats 4000000
namespace Td
open PySem PySem.Spec PyProof.Rows L2 LamX NdefX
def KnAt (H : Hp) (D : Addr) (ns : List Str) (c g : Str → List Str) : Prop := ∃ kvs : List (Key × V), H D = some (.dK kvs) ∧ ∀ w ∈ ns, ∃ p, valV kvs (Sum.inr w) = some (.ref p) ∧ FrAt H p (c w) (g w)
theorem KnAt.nx {T : List (Addr × Str)} {H H' : Hp} {D : Addr} {ns : List Str} {c g : Str → List Str} (n : Nx T H H') (h : KnAt H D ns c g) : KnAt H' D ns c g := by
  obtain ⟨kvs, h1, h2⟩ := h
  refine ⟨kvs, n.dk h1, fun w hw => ?_⟩
  obtain ⟨p, e, f⟩ := h2 w hw
  exact ⟨p, e, f.nx n⟩
theorem KnAt.get {H : Hp} {D : Addr} {ns : List Str} {c g : Str → List Str} (h : KnAt H D ns c g) {w : Str} (hw : w ∈ ns) : ∃ p, DGet H D (.str w) (some (.ref p)) ∧ FrAt H p (c w) (g w) := by
  obtain ⟨kvs, h1, h2⟩ := h
  obtain ⟨p, e, f⟩ := h2 w hw
  exact ⟨p, by rw [← e]; exact DGet.k (k := Sum.inr w) h1, f⟩
def spStR (T : List (Addr × Str)) : Sp := fun vs H Q _ => ∃ (h st D : Addr) (rooms : List Str) (rows : List (List Str)) (faces ns : List Str) (ρ : Str → Str), vs = [.ref h, .ref st, .ref D] ∧ HSy H h st rooms rows faces (plc ns ρ) ∧ Tabs T H ∧
  KnAt H D ns (cm (rsOf rooms rows faces (plc ns ρ))) (gr rooms (rsOf rooms rows faces (plc ns ρ))) ∧ ∀ H', Nx T H H' → Q (.bl true) H'
section
variable {P : Program} {w : World} {K : PySem.W.Frag} {mg : Str → Option Value} {base : Heap} {f : Addr} {fd : FuncData} {T : List (Addr × Str)}
abbrev s_law_state_right : Stmt := top 54
abbrev n_law_state_right : List Str := ["hall", "state", "known", "one", "place", "fellows", "open_rooms", "other", "room", "is_fellow", "common", "spot"]
theorem sc_law_state_right : FnScope n_law_state_right ["hall", "state", "known"] (defScope s_law_state_right) := ⟨rfl, rfl, rfl, by decide +kernel, rfl, by decide +kernel, by decide +kernel⟩
theorem ok_law_state_right (F : FnP K "_law_state_right" s_law_state_right f fd) (hm : mg "_law_state_right" = some (.ref f)) (c_law_friends : Cal P w K mg base 12 "_law_friends" (spFr T)) (c_swap : CalX P w K mg base 11 "swap" (spSwp K T)) :
    Cal P w K mg base 13 "_law_state_right" (spStR T) := by
  refine cal_of (F.ok sc_law_state_right (fun vs H Q E h => ?_) (fun cdv A outer s H vs Q E hr h => ?_)) hm F.kp (F.bindsN (ps := ["hall", "state", "known"]) fun _ _ _ _ _ _ us hl => match us, hl with | [_, _, _], _ => rfl)
  · obtain ⟨h, st, D, rooms, rows, faces, ns, ρ, rfl, hs, hT, hK, q⟩ := h
    rfl
  obtain ⟨h, st, D, rooms, rows, faces, ns, ρ, rfl, hs, hT, hK, q⟩ := h
  have nd := sc_law_state_right.nd
  refine ⟨_, PSs.nox (pss_cons (ps_for PassesOwn.never rfl (pi_tup (pe_ix (r := rIxT K) ix_tup (pv 1) pe_int (fun _ _ => rfl))) (pg_tup (by rfl) (pgs_cons (pg_name (i := 3) nd rfl (Or.inl rfl)) (pgs_cons (pg_name (i := 4) nd rfl (Or.inl rfl)) pgs_nil))) (pss_cons (ps_asg (pe_dget (hu_of hr) (pv 2) (pv 3) (fun _ _ => rfl)) (pg_tup (by rfl) (pgs_cons (pg_name (i := 5) nd rfl (Or.inl rfl)) (pgs_cons (pg_name (i := 6) nd rfl (Or.inr rfl)) pgs_nil))))
    (pss_cons (ps_if (PW.pt (pw_or (pt_cmpR (r := rNeD K) (op_neD hr.units) (C8.pe_c c_law_friends hr (by omega) (by rfl) (pa_cons (pv 0) (pa_cons (pv 1) (pa_cons (pv 3) pa_nil)))) (pe_dget (hu_of hr) (pv 2) (pv 3) (fun _ _ => rfl)) (nomark _)) (pw_or (pt_cmpR (r := rIn K true) op_notIn_seq (pv 3) (pv 5) (by rfl)) (pw_or1 (pt_cmpR (r := rIn K true) op_notIn_seq (pv 4) (pv 6) (by rfl)))))) (pss_one (ps_ret pe_bl)) pss_nil)
    (pss_one (ps_for PassesOwn.never rfl (pi_tup (pe_ix (r := rIxT K) ix_tup (pv 1) pe_int (fun _ _ => rfl))) (pg_tup (by rfl) (pgs_cons (pg_name (i := 7) nd rfl (Or.inl rfl)) (pgs_cons (pg_name (i := 8) nd rfl (Or.inl rfl)) pgs_nil))) (pss_cons (ps_set (i := 9) nd rfl (Or.inl rfl) (pe_cmpR (r := rIn K false) op_in_seq (pv 7) (pv 5) (by rfl)))
    (pss_cons (ps_if (PW.pt (pw_or (pt_cmpR op_ne (pe_cmpR op_eq (pe_ix (r := rIxT K) ix_tup (pe_cX c_swap hr (by omega) (fun σ => passF) (by rfl) (pa_cons (pv 0) (pa_cons (pv 1) (pa_cons (pv 3) (pa_cons (pv 7) pa_nil))))) pe_int (fun _ _ => rfl)) pe_str (nomark _)) (pv 9) (nomark _)) (pw_or1 (pt_cmpR op_ne (pe_cmpR (r := rIn K false) op_in_seq (pv 8) (pv 6) (by rfl)) (pv 9) (nomark _))))) (pss_one (ps_ret pe_bl)) pss_nil)
    (pss_cons (ps_if (PW.pt (pw_and (pt_val (pv 9)) (pw_and1 (pt_cmpR (r := rNeD K) (op_neD hr.units) (pe_dget (hu_of hr) (pv 2) (pv 7) (fun _ _ => rfl)) (pe_dget (hu_of hr) (pv 2) (pv 3) (fun _ _ => rfl)) (nomark _))))) (pss_one (ps_ret pe_bl)) pss_nil)
    (pss_cons (ps_setLc (i := 10) (own := [("spot", 11)]) (g := (gName 11)) (by rfl) nd rfl rfl (sw_true rfl rfl rfl (by decide +kernel)) (pi_list (pe_ix (r := rIxT K) ix_tup (pe_dget (hu_of hr) (pv 2) (pv 7) (fun _ _ => rfl)) pe_int (fun _ _ => rfl))) (blkOk_by (own := [("spot", 11)]) (N := n_law_state_right) (sc := defScope s_law_state_right) (by decide +kernel)) (fun _ _ _ _ _ => (pg_name (i := 11) nd rfl (Or.inl rfl))) (fun _ _ _ _ _ => (pts_one (pt_cmpR (r := rIn K false) op_in_seq (pv 11) (pv 6) (by rfl)))) (fun _ _ _ _ _ => (pv 11)))
    (pss_one (ps_if (PW.pt (pw_and (pt_not (pt_val (pv 9))) (pw_and1 (pt_cmpR (r := rNeE K) (op_neE hr.units) (pv 10) (pe_lst pa_nil) (nomark _))))) (pss_one (ps_ret pe_bl)) pss_nil)))))))))))
    (pss_one (ps_ret pe_bl))), ?_⟩
  obtain ⟨fa, pl, g1, g2, bs, g3, hRB⟩ := id hs.s
  have hbl : (bs.map V.ref).length = ns.length := by rw [List.length_map, hRB.1]; exact List.length_map _
  have l5 := ns5 hs.t
  have r8 := hs.v.r8
  have hnm : ∀ n ∈ ns, Nm n := fun n hn => by
    obtain ⟨w', r', e, h, _⟩ := hs.t.pl [n, ρ n] (List.mem_map.mpr ⟨n, hn, rfl⟩)
    cases e
    exact h
  have cmN : ∀ u, ∀ x ∈ cm (rsOf rooms rows faces (plc ns ρ)) u, Nm x := fun u x hx => hnm x ((cm_in hs.t).mp hx).1
  have grN : ∀ u, ∀ x ∈ gr rooms (rsOf rooms rows faces (plc ns ρ)) u, Nm x := fun u x hx => hs.v.nm x (gr_mem.mp hx).1
  have cmL : ∀ u, (cm (rsOf rooms rows faces (plc ns ρ)) u).length ≤ 5 := fun u => by
    unfold cm
    rw [ks_plc]
    exact Nat.le_trans (List.length_filter_le _ _) l5
  have grL : ∀ u, (gr rooms (rsOf rooms rows faces (plc ns ρ)) u).length ≤ 8 := fun u => Nat.le_trans (List.length_filter_le _ _) r8
  have rowAt : ∀ {k : Nat} {y : V}, (bs.map V.ref)[k]? = some y → ∃ (a : Addr) (n : Str), y = .ref a ∧ ns[k]? = some n ∧ H a = some (.tup [.str n, .str (ρ n)]) := fun {k y} hy => by
    obtain ⟨a, p, rfl, hpi, hpa⟩ := hRB.row hy
    unfold plc at hpi
    rw [List.getElem?_map] at hpi
    cases hn : ns[k]? with
    | none => rw [hn] at hpi; cases hpi
    | some n =>
      rw [hn] at hpi
      cases hpi
      exact ⟨a, n, rfl, rfl, hpa⟩
  refine ⟨_, rfl, st, _, _, _, rfl, rfl, SqT.of g1, atI_nat (j := 1) rfl, pl, rfl, ⟨_, SqT.of g3⟩, ?_⟩
  refine for_tup (K := K) (a := pl) (xs := bs.map V.ref) (fun i σ' Hx => (∃ v3 v4 v5 v6 v7 v8 v9 v10 : Option V, σ' = [some (.ref h), some (.ref st), some (.ref D), v3, v4, v5, v6, v7, v8, v9, v10, none]) ∧ Nx T H Hx) ⟨⟨_, _, _, _, _, _, _, _, rfl⟩, Nx.refl hT⟩ (fun i σ' Hx _ ⟨_, nx⟩ => SqT.of (nx.tu _ _ g3)) (fun i y σ' Hx hy hI => ?_) (fun σ' Hx hI => ?_)
  rotate_left
  · obtain ⟨⟨v3, v4, v5, v6, v7, v8, v9, v10, rfl⟩, nx⟩ := hI
    exact q Hx nx
  obtain ⟨⟨v3, v4, v5, v6, v7, v8, v9, v10, rfl⟩, nx⟩ := hI
  obtain ⟨a, u, rfl, huk, hau⟩ := rowAt hy
  have hu := List.mem_of_getElem? huk
  refine ⟨a, _, rfl, SqT.of (nx.tu _ _ hau), rfl, _, _, rfl, _, _, rfl, rfl, ?_⟩
  obtain ⟨pu, gu, fu⟩ := (hK.nx nx).get hu
  obtain ⟨l1, l2, k0, k1, k2⟩ := id fu
  refine ⟨_, rfl, _, rfl, D, _, rfl, gu, pu, _, rfl, SqT.of k0, rfl, _, _, rfl, _, _, rfl, rfl, ?_⟩
  -- the first test
  refine ⟨_, rfl, _, rfl, _, rfl, h, st, u, rooms, rows, faces, ns, ρ, rfl, hs.nx nx, hu, nx.t, fun p2 H2 n2 f2 => ?_⟩
  have nx2 := nx.trans n2
  obtain ⟨pu2, gu2, fu2⟩ := (hK.nx nx2).get hu
  have k1 := n2.lst k1
  have k2 := n2.lst k2
  refine ⟨_, rfl, _, rfl, D, _, rfl, gu2, frD _ _, frD _ _, f2.dp, fu2.dp, frD_sh (cmN u) (grN u), frD_sh (cmN u) (grN u), _, rfl, ?_⟩
  rw [frD_eq]
  have mu : u ∈ cm (rsOf rooms rows faces (plc ns ρ)) u := (cm_in hs.t).mpr ⟨hu, Cn.refl _ _⟩
  have mr : ρ u ∈ gr rooms (rsOf rooms rows faces (plc ns ρ)) u := (gr_own hs.t hu hu).mpr mu
  refine iteF ⟨_, rfl, _, rfl, l1, _, rfl, .inl (SqL.of k1), rfl, flat_strs _, _, rfl, ?_⟩
  rw [show (if true = true then !inV (.str u) ((cm (rsOf rooms rows faces (plc ns ρ)) u).map V.str) else inV (.str u) ((cm (rsOf rooms rows faces (plc ns ρ)) u).map V.str)) = false from by rw [ng_in, decide_eq_true mu]; rfl]
  refine iteF ⟨_, rfl, _, rfl, l2, _, rfl, .inl (SqL.of k2), rfl, flat_strs _, _, rfl, ?_⟩
  rw [show (if true = true then !inV (.str (ρ u)) ((gr rooms (rsOf rooms rows faces (plc ns ρ)) u).map V.str) else inV (.str (ρ u)) ((gr rooms (rsOf rooms rows faces (plc ns ρ)) u).map V.str)) = false from by rw [ng_in, decide_eq_true mr]; rfl]
  refine iteF ?_
  -- the others
  refine ⟨_, rfl, st, _, _, _, rfl, rfl, SqT.of (nx2.tu _ _ g1), atI_nat (j := 1) rfl, pl, rfl, ⟨_, SqT.of (nx2.tu _ _ g3)⟩, ?_⟩
  refine for_tup (K := K) (a := pl) (xs := bs.map V.ref) (fun i σ' Hx => (∃ v7 v8 v9 v10 : Option V, σ' = [some (.ref h), some (.ref st), some (.ref D), some (.str u), some (.str (ρ u)), some (.ref l1), some (.ref l2), v7, v8, v9, v10, none]) ∧ Nx T H2 Hx) ⟨⟨_, _, _, _, rfl⟩, Nx.refl nx2.t⟩ (fun i σ' Hx _ ⟨_, ny⟩ => SqT.of (ny.tu _ _ (nx2.tu _ _ g3))) (fun i y σ' Hy hy hI => ?_) (fun σ' Hy hI => ?_)
  rotate_left
  · obtain ⟨⟨v7, v8, v9, v10, rfl⟩, ny⟩ := hI
    exact ⟨⟨_, _, _, _, _, _, _, _, rfl⟩, nx2.trans ny⟩
  obtain ⟨⟨v7, v8, v9, v10, rfl⟩, ny⟩ := hI
  obtain ⟨b, v, rfl, hvk, hbv⟩ := rowAt hy
  have hw := List.mem_of_getElem? hvk
  have n0y := nx2.trans ny
  refine ⟨b, _, rfl, SqT.of (n0y.tu _ _ hbv), rfl, _, _, rfl, _, _, rfl, rfl, ?_⟩
  refine ⟨_, rfl, _, rfl, l1, _, rfl, .inl (SqL.of (ny.lst k1)), rfl, flat_strs _, ?_⟩
  rw [pg_in]
  show gName 9 (.bl (decide (v ∈ cm (rsOf rooms rows faces (plc ns ρ)) u))) _ _ _
  have cnv : v ∈ cm (rsOf rooms rows faces (plc ns ρ)) u ↔ Cn (rsOf rooms rows faces (plc ns ρ)) u v := by
    rw [cm_in hs.t]
    exact ⟨fun z => z.2, fun z => ⟨hw, z⟩⟩
  have gv := gr_own hs.t hu hw
  -- swap
  refine ⟨_, rfl, _, rfl, _, rfl, _, rfl, h, st, u, v, rooms, rows, faces, ns, ρ, rfl, hs.nx n0y, n0y.t, fun z => absurd hu z, fun _ z => absurd hw z, fun _ _ c => ?_, fun _ _ c => ?_⟩
  · have cv := cnv.mpr c
    intro p3 rp row s' H3 n3 hp3 _ _ _ _
    have n03 := n0y.trans n3
    have ny3 := ny.trans n3
    rw [decide_eq_true cv]
    refine ⟨p3, _, _, _, rfl, rfl, SqT.of hp3, atI_nat (j := 0) rfl, rfl, _, rfl, rfl, _, rfl, iteF ?_⟩
    refine ⟨_, rfl, _, rfl, l2, _, rfl, .inl (SqL.of (ny3.lst k2)), rfl, flat_strs _, ?_⟩
    rw [pg_in, decide_eq_true (gv.mpr cv)]
    refine ⟨_, rfl, rfl, _, rfl, iteF ?_⟩
    obtain ⟨pv, gvv, fv⟩ := (hK.nx n03).get hw
    obtain ⟨pu3, gu3, fu3⟩ := (hK.nx n03).get hu
    obtain ⟨ec, eg⟩ := cm_same hs.t hu cv
    rw [ec, eg] at fv
    refine ⟨_, rfl, _, rfl, iteT ⟨_, rfl, _, rfl, D, _, rfl, gvv, _, rfl, _, rfl, D, _, rfl, gu3, frD _ _, frD _ _, fv.dp, fu3.dp, frD_sh (cmN u) (grN u), frD_sh (cmN u) (grN u), _, rfl, ?_⟩⟩
    rw [frD_eq]
    refine iteF ?_
    obtain ⟨m1, m2, j0, j1, j2⟩ := id fv
    refine ⟨_, rfl, _, rfl, D, _, rfl, gvv, pv, _, _, _, rfl, rfl, SqT.of j0, atI_nat (j := 1) rfl, m2, rfl, ⟨_, SqL.of j2⟩, fun B hB => ?_⟩
    refine lc_list (K := K) (a := m2) (xs := (gr rooms (rsOf rooms rows faces (plc ns ρ)) u).map V.str) (fun k Hz => Same H3 Hz ∧ Hz B = some (.lst (((gr rooms (rsOf rooms rows faces (plc ns ρ)) u).take k).map V.str))) ⟨same_new hB _, upd_same⟩ (fun k Hz _ ⟨sz, _⟩ => SqL.of (sz _ _ j2)) (fun k y Hz hy ⟨sz, hBz⟩ => ?_) (fun Hz ⟨sz, hBz⟩ => ?_)
    · obtain ⟨x, hxk, rfl⟩ := str_at hy
      refine ⟨rfl, _, rfl, _, rfl, l2, _, rfl, .inl (SqL.of (sz _ _ (ny3.lst k2))), rfl, flat_strs _, _, rfl, ?_⟩
      rw [pg_in, decide_eq_true (List.mem_of_getElem? hxk)]
      refine iteT ⟨_, rfl, _, hBz, ?_, same_mut sz hB _, ?_⟩
      · rw [List.length_map, List.length_take]
        have := grL u
        exact sz100 (by omega)
      · rw [upd_same, take_snoc hxk, List.map_append]
        rfl
    refine ⟨_, rfl, _, rfl, iteF ?_⟩
    exact ⟨⟨_, _, _, _, rfl⟩, ny3.same sz⟩
  · have cv : v ∉ cm (rsOf rooms rows faces (plc ns ρ)) u := fun z => c (cnv.mp z)
    intro p3 ep H3 n3 hp3 _
    have n03 := n0y.trans n3
    have ny3 := ny.trans n3
    rw [decide_eq_false cv]
    refine ⟨p3, _, _, _, rfl, rfl, SqT.of hp3, atI_nat (j := 0) rfl, rfl, _, rfl, rfl, _, rfl, iteF ?_⟩
    refine ⟨_, rfl, _, rfl, l2, _, rfl, .inl (SqL.of (ny3.lst k2)), rfl, flat_strs _, ?_⟩
    rw [pg_in, decide_eq_false (fun z => cv (gv.mp z))]
    refine ⟨_, rfl, rfl, _, rfl, iteF ?_⟩
    obtain ⟨pv, gvv, fv⟩ := (hK.nx n03).get hw
    refine ⟨_, rfl, _, rfl, iteF (iteF ?_)⟩
    obtain ⟨m1, m2, j0, j1, j2⟩ := id fv
    refine ⟨_, rfl, _, rfl, D, _, rfl, gvv, pv, _, _, _, rfl, rfl, SqT.of j0, atI_nat (j := 1) rfl, m2, rfl, ⟨_, SqL.of j2⟩, fun B hB => ?_⟩
    refine lc_list (K := K) (a := m2) (xs := (gr rooms (rsOf rooms rows faces (plc ns ρ)) v).map V.str) (fun k Hz => Same H3 Hz ∧ Hz B = some (.lst [])) ⟨same_new hB _, upd_same⟩ (fun k Hz _ ⟨sz, _⟩ => SqL.of (sz _ _ j2)) (fun k y Hz hy ⟨sz, hBz⟩ => ?_) (fun Hz ⟨sz, hBz⟩ => ?_)
    · obtain ⟨x, hxk, rfl⟩ := str_at hy
      refine ⟨rfl, _, rfl, _, rfl, l2, _, rfl, .inl (SqL.of (sz _ _ (ny3.lst k2))), rfl, flat_strs _, _, rfl, ?_⟩
      rw [pg_in, decide_eq_false (fun z => gr_apart hs.t hu hw cv (List.mem_of_getElem? hxk) z)]
      exact iteF ⟨sz, hBz⟩
    refine ⟨_, rfl, _, rfl, iteT ⟨_, rfl, (by show 0 ≤ sizeLine; decide), fun e0 he0 => ⟨B, e0, _, rfl, rfl, SqL.of (same_new he0 _ _ _ hBz), SqL.of upd_same, _, rfl, iteF ?_⟩⟩⟩
    exact ⟨⟨_, _, _, _, rfl⟩, (ny3.same sz).same (same_new he0 _)⟩
end
end Td
set_option maxHeartbeats 4000000
namespace Td
open PySem PySem.Spec PyProof.Rows L2 LamX
/-! ### the law's own call, with tables of code objects -/
theorem law_callH {P : Program} {w : World} {K : PySem.W.Frag} {mg mb : Str → Option Value} {CX : CXT} {k : Nat} {fa a : Addr} {ts : List (Addr × Addr)} {fd : FuncData} {x : Str} {sp : Sp} {s1 : Shared} {vs : List Value} {ns : List Int}
    (kx : K.In s1.heap) (hns : s1.heap.Ns mainGlobals mg) (hb : s1.heap.Ns builtinsNs mb) (hbb : ∀ x : Str, x ≠ "__name__" → mb x = bootBuiltins x) (lim : s1.heap.NoLimit) (hg : s1.gens = #[])
    (tE : ∀ t ∈ ts, s1.heap.get? t.2 = some (PySem.W.tabObj #[])) (tK : ∀ t ∈ ts, K.lookup t.2 = none) (tC : ∀ t ∈ ts, PySem.W.codeHdIn K t.1 t.2 = true)
    (bmn : ∃ (bm : Addr) (ob : Obj), mg "__builtins__" = some (.ref bm) ∧ bm ≠ builtinsNs ∧ s1.heap.get? bm = some ob ∧ ob.cls = .type "module" ∧ ob.dict = some builtinsNs ∧ ob.data = .plain)
    (ha : s1.heap.get? a = some { cls := .type "list", data := .seq vs.toArray }) (hi : IntsAre vs ns) (hl : ns.length ≤ sizeLine) (hr : Room k callerA)
    (F : ∀ base : Heap, K.In base → base.Ns mainGlobals mg → (∀ t ∈ ts, TabB base mg t.1 t.2) → FnG P w K mg base CX k fa fd [x] sp) (bind : ∀ (s : Shared) (u : Value), BindsTo s fd ⟨[u], []⟩ [(x, u)])
    (hsp : ∀ H : Hp, (∀ t ∈ ts, H t.2 = some (.tbl #[])) → SqL K H a (ns.map V.int) → sp [.ref a] H (fun v _ => v = .bl true) fun _ _ _ => False) (hCX : ∀ H e s', CX [] H s1 (fun _ _ _ => False) e s' → False) :
    codeAny (model P w) callerA (.call (.ref fa) ⟨[.ref a], []⟩) (fun r s' => r = .ok (.ret (.bool true)) ∧ OldK s1.heap s'.heap ∧ s'.os = s1.os ∧ AllBare s'.gens) s1 := by
  have rv := vals_ints hi
  have isT : ∀ d : Addr, d ∈ ts.map (·.2) → s1.heap.get? d = some (PySem.W.tabObj #[]) := fun d hd => by
    obtain ⟨t, ht, e⟩ := List.mem_map.mp hd
    rw [← e]
    exact tE t ht
  have inT : ∀ t ∈ ts, t.2 ∈ ts.map (·.2) := fun t ht => List.mem_map.mpr ⟨t, ht, rfl⟩
  have aT : a ∉ ts.map (·.2) := fun z => by
    have q := (isT a z).symm.trans ha
    cases q
  have core : ∀ H : Hp, (∀ t ∈ ts, H t.2 = some (.tbl #[])) → (∀ d, H d = none ∨ d ∈ ts.map (·.2) ∨ ∃ o xs, H d = some (.frz o (.lst xs))) → SqL K H a (ns.map V.int) → HOk P w H s1.heap → (∀ d, H d ≠ none → d = a ∨ d ∈ ts.map (·.2)) → (H a ≠ none → K.lookup a = none) →
      codeAny (model P w) callerA (.call (.ref fa) ⟨[.ref a], []⟩) (fun r s' => r = .ok (.ret (.bool true)) ∧ OldK s1.heap s'.heap ∧ s'.os = s1.os ∧ AllBare s'.gens) s1 := by
    intro H hT only hS hok alone hK
    have up : ∀ {d : Addr} {o : Obj}, s1.heap.get? d = some o → H d = none → (hidT s1.heap H).get? d = some o := fun e n => hidT_get e n
    have free : ∀ {d : Addr} {o : Obj}, s1.heap.get? d = some o → (∀ us n, o.data ≠ .seq us n) → (∀ us, o.data ≠ .fields us) → H d = none := fun {d o} e n1 n2 => Classical.byContradiction fun z => by
      rcases alone d z with rfl | q
      · rw [ha] at e; cases e; exact n1 _ _ rfl
      · rw [isT d q] at e; cases e; exact n2 _ rfl
    have ns' : ∀ {d : Addr} {m : Str → Option Value}, s1.heap.Ns d m → (hidT s1.heap H).Ns d m := fun {d m} ⟨o, es, ep, e, dd, r⟩ => ⟨o, es, ep, up e (free e (fun us n z => by rw [dd] at z; cases z) fun us z => by rw [dd] at z; cases z), dd, r⟩
    have kb : K.In (hidT s1.heap H) := fun d o e => up (kx d o e) (Classical.byContradiction fun z => by
      rcases alone d z with rfl | q
      · rw [hK z] at e; cases e
      · obtain ⟨t, ht, et⟩ := List.mem_map.mp q
        rw [← et, tK t ht] at e; cases e)
    have hM : Mod K mg (hidT s1.heap H) := ⟨kb, ns' hns, ⟨mb, ns' hb, hbb⟩, lim.elim fun mc h => ⟨mc, ns' h.1, h.2⟩⟩
    have TB : ∀ t ∈ ts, TabB (hidT s1.heap H) mg t.1 t.2 := fun t ht => by
      obtain ⟨bm, ob, b1, b2, b3, b4, b5, b6⟩ := bmn
      have g0 := hns
      obtain ⟨og, es, ep, eg, dg, _⟩ := g0
      refine ⟨PySem.W.codeHd_of_K kb (tC t ht), ⟨bm, ob, b1, b2, fun q => ?_, fun q => ?_, up b3 (free b3 (fun us n z => by rw [b6] at z; cases z) fun us z => by rw [b6] at z; cases z), b4, b5, b6⟩, fun q => ?_⟩
      · rw [q, eg] at b3; cases b3; rw [dg] at b6; cases b6
      · rw [q, tE t ht] at b3; cases b3; cases b6
      · rw [q, tE t ht] at eg; cases eg; cases dg
    have e0 : Env0 P w K mg (hidT s1.heap H) callerA [] s1 H := ⟨rfl, hM, fun d o e => of_hidT e, Nat.le_of_eq (hidT_size _ _), trivial, fun d hd => absurd hd List.not_mem_nil, hok, .of_eq hg⟩
    refine codeAny_mono ((F _ kb (ns' hns) TB).run callerA [] s1 H ⟨[.ref a], []⟩ [.ref a] [.ref a] _ _ rfl hr e0 (bind s1 (.ref a)) (.cons rfl .nil) (hsp H hT hS)) fun r s' h => ?_
    cases r with
    | error e => exact (hCX H e s' h).elim
    | ok fl => cases fl with
      | next => exact h.elim
      | brk => exact h.elim
      | cont => exact h.elim
      | ret u =>
        obtain ⟨v, H2, os, bare, un, hok2, r2, q⟩ := h
        obtain rfl : v = .bl true := q
        obtain rfl : u = Value.bool true := r2
        have same : ∀ d o, d ∉ ts.map (·.2) → s1.heap.get? d = some o → s'.heap.get? d = some o := fun d o nd e => by
          cases q : H d with
          | none => exact un.keep d o e q List.not_mem_nil List.not_mem_nil
          | some u =>
            rcases only d with z | z | ⟨ob, xs, z⟩
            · rw [q] at z; cases z
            · exact absurd z nd
            · obtain ⟨e1, _⟩ := hok d _ z
              obtain ⟨e2, _⟩ := hok2 d _ (un.frzs d ob _ z)
              rw [e] at e1; cases e1
              exact e2
        have more : ∀ t ∈ ts, ∃ us : Array Value, s'.heap.get? t.2 = some (PySem.W.tabObj us) := fun t ht => (un.tbls t.2 #[] (hT t ht)).elim fun us z => ⟨_, hok2 t.2 _ z⟩
        refine ⟨rfl, ⟨fun d o e => ?_, fun d o e => ?_⟩, os, bare⟩ <;> by_cases hd : d ∈ ts.map (·.2)
        · obtain ⟨t, ht, rfl⟩ := List.mem_map.mp hd
          obtain ⟨us, hu⟩ := more t ht
          cases e.symm.trans (tE t ht)
          refine .inr (.inl ⟨((PySem.W.codeHd_of_K kx (tC t ht)).tab (tE t ht)).isCodeTable, rfl, #[], us, rfl, ?_⟩)
          rw [Array.empty_append]
          exact hu
        · exact .inl (same d o hd e)
        · obtain ⟨t, ht, rfl⟩ := List.mem_map.mp hd
          obtain ⟨us, hu⟩ := more t ht
          exact ⟨_, hu⟩
        · exact ⟨o, same d o hd e⟩
  let HT : Hp := fun d => if d ∈ ts.map (·.2) then some (.tbl #[]) else none
  have tY : ∀ {d}, d ∈ ts.map (·.2) → HT d = some (.tbl #[]) := fun h => if_pos h
  have tN : ∀ {d}, d ∉ ts.map (·.2) → HT d = none := fun h => if_neg h
  have tD : ∀ {d u}, HT d = some u → d ∈ ts.map (·.2) ∧ u = .tbl #[] := fun {d u} z => by
    by_cases h : d ∈ ts.map (·.2)
    · rw [tY h] at z; cases z; exact ⟨h, rfl⟩
    · rw [tN h] at z; cases z
  cases hk : K.lookup a with
  | some o =>
    cases (kx a o hk).symm.trans ha
    refine core HT (fun t ht => tY (inT t ht)) (fun d => ?_) (.inr ⟨_, vs.toArray, _, hk, rfl, rfl, rfl, by rw [List.size_toArray, hi.length]; exact hl, by simpa using rv⟩) (fun d u z => ?_) (fun d z => ?_) fun z => absurd (tN aT) z
    · by_cases h : d ∈ ts.map (·.2)
      · exact .inr (.inl h)
      · exact .inl (tN h)
    · obtain ⟨h, rfl⟩ := tD z
      exact isT d h
    · exact .inr (Classical.byContradiction fun h => z (tN h))
  | none =>
    let HA : Hp := upd HT a (.frz { cls := .type "list", data := .seq vs.toArray } (.lst (ns.map V.int)))
    have nA : ∀ {d}, d ≠ a → HA d = HT d := fun h => upd_ne h
    refine core HA (fun t ht => (nA fun z => aT (z ▸ inT t ht)).trans (tY (inT t ht))) (fun d => ?_) (.inl (.inr ⟨_, upd_same⟩)) (fun d u z => ?_) (fun d z => ?_) fun _ => hk
    · by_cases h : d = a
      · subst h
        exact .inr (.inr ⟨_, _, upd_same⟩)
      · rw [nA h]
        by_cases h2 : d ∈ ts.map (·.2)
        · exact .inr (.inl h2)
        · exact .inl (tN h2)
    · by_cases h : d = a
      · subst h
        cases (show HA d = some _ from upd_same).symm.trans z
        exact ⟨ha, by rw [List.length_map]; exact hl, vs, _, rv, ha⟩
      · rw [nA h] at z
        obtain ⟨h2, rfl⟩ := tD z
        exact isT d h2
    · by_cases h : d = a
      · exact .inl h
      · rw [nA h] at z
        exact .inr (Classical.byContradiction fun h2 => z (tN h2))
theorem walk_ofH {l : PySem.W.OpenLaw} {n k : Nat} {q : Program} {loose : List Str} {XP : (Str → Option Value) → Heap → Prop} {YP : World → Heap → Prop} {d : DefRec} {CX : CXT} {x : Str} (hn : l.most = some n) (hn2 : n ≤ sizeLine) (hdf : d.params.defaults = []) (hr : Room k callerA)
    (F : ∀ (w : World) (mg : Str → Option Value) (fa : Addr) (h : Heap), YP w h → h.Ns mainGlobals mg → mg d.name = some (.ref fa) → ∃ (K : PySem.W.Frag) (fd : FuncData) (ts : List (Addr × Addr)) (sp : Sp), K.In h ∧ (∀ t ∈ ts, h.get? t.2 = some (PySem.W.tabObj #[])) ∧ (∀ t ∈ ts, K.lookup t.2 = none) ∧ (∀ t ∈ ts, PySem.W.codeHdIn K t.1 t.2 = true) ∧
      (∀ (s : Shared) (u : Value), BindsTo s fd ⟨[u], []⟩ [(x, u)]) ∧ (∀ (H : Hp) (a : Addr) (ns : List Int), ns.length ≤ n → (∀ t ∈ ts, H t.2 = some (.tbl #[])) → SqL K H a (ns.map V.int) → sp [.ref a] H (fun v _ => v = .bl true) fun _ _ _ => False) ∧
      ∀ base : Heap, K.In base → base.Ns mainGlobals mg → (∀ t ∈ ts, TabB base mg t.1 t.2) → FnG l.prog w K mg base CX k fa fd [x] sp)
    (hCX : ∀ (H : Hp) (s : Shared) (e : Value) (s' : Shared), CX [] H s (fun _ _ _ => False) e s' → False) : PySem.W.WalkO q loose XP YP l.row.toRowW d [] (fun f vs => PySem.call f vs) := by
  refine Att.attach_call hn hdf fun w s0 s1 mg mb fa o pm cd doc a vs ns G Y ho hd hcd hmg hobj hints hlen hg => ?_
  obtain ⟨K, fd, ts, sp, kx, tE, tK, tC, hb, hsp, hF⟩ := F w mg fa _ Y G.T.g hmg
  exact law_callH kx G.T.g G.T.b G.T.builtins G.T.nolimit hg tE tK tC G.T.bmain hobj hints (Nat.le_trans hlen hn2) hr hF hb (fun H hT hS => hsp H a ns hlen hT hS) fun H e s' => hCX H s1 e s'
/-- the tables of some defs -/
def tabsOf (K : PySem.W.Frag) (tf : List He.Defn) : List (Addr × Str) := tf.map fun p => ((He.cT K p).2, p.1 ++ ".<locals>." ++ "<lambda>")
theorem tabs_start {K : PySem.W.Frag} {tf : List He.Defn} {H : Hp} (h : ∀ t ∈ tf.map (He.cT K), H t.2 = some (.tbl #[])) : Tabs (tabsOf K tf) H := fun p hp => by
  obtain ⟨d, hd, rfl⟩ := List.mem_map.mp hp
  exact TabS.nil (h _ (List.mem_map.mpr ⟨d, hd, rfl⟩))
end Td
set_option maxHeartbeats 4000000
namespace Td
open PySem PySem.Spec PyProof.Rows L2 LamX NdefX
theorem _root_.L2.Room.units65 {k : Nat} {A : Around} (r : Room k A) : A.units + 65 < cLine := by have := r.un; omega
theorem box_nx {T : List (Addr × Str)} {H H' : Hp} {b : Addr} (n : Nx T H H') (B : Box H b) : Box H' b := by
  obtain ⟨c, s, m, e, z⟩ := B
  exact ⟨c, s, m, n.lst e, z⟩
theorem FrAt.updD {H : Hp} {p D : Addr} {c g : List Str} {kvs : List (Key × V)} {o : HO} (h : FrAt H p c g) (hd : H D = some (.dK kvs)) : FrAt (upd H D o) p c g := by
  obtain ⟨l1, l2, a, b, d⟩ := h
  have ne : ∀ {x : Addr} {u : HO}, H x = some u → (∀ ks, u ≠ .dK ks) → upd H D o x = some u := fun e n => by
    rw [upd_ne (fun z => by rw [z, hd] at e; exact n _ (Option.some.inj e).symm)]
    exact e
  exact ⟨l1, l2, ne a (fun _ z => by cases z), ne b (fun _ z => by cases z), ne d (fun _ z => by cases z)⟩
theorem FrAt.ch {H H' : Hp} {b p : Addr} {c g : List Str} (x : Ch b H H') (B : Box H b) (h : FrAt H p c g) : FrAt H' p c g := by
  obtain ⟨l1, l2, a, d, e⟩ := h
  obtain ⟨u, s, m, hb, _⟩ := B
  have nl : ∀ {l : Addr} {xs : List Str}, H l = some (.lst (xs.map V.str)) → l ≠ b := fun {l xs} e z => by
    rw [z, hb] at e
    cases xs with
    | nil => cases e
    | cons y ys => cases e
  exact ⟨l1, l2, x _ _ (fun z => by rw [z, hb] at a; cases a) a, x _ _ (nl d) d, x _ _ (nl e) e⟩
theorem KnAt.ch {H H' : Hp} {b D : Addr} {ns : List Str} {c g : Str → List Str} (x : Ch b H H') (B : Box H b) (h : KnAt H D ns c g) : KnAt H' D ns c g := by
  obtain ⟨kvs, h1, h2⟩ := h
  refine ⟨kvs, x _ _ (fun z => ?_) h1, fun w hw => ?_⟩
  · obtain ⟨u, s, m, hb, _⟩ := B
    rw [z, hb] at h1
    cases h1
  · obtain ⟨p, e, f⟩ := h2 w hw
    exact ⟨p, e, f.ch x B⟩
theorem KnAt.congr {H : Hp} {D : Addr} {ns : List Str} {c g c' g' : Str → List Str} (h : KnAt H D ns c g) (e1 : ∀ u ∈ ns, c' u = c u) (e2 : ∀ u ∈ ns, g' u = g u) : KnAt H D ns c' g' := by
  obtain ⟨kvs, h1, h2⟩ := h
  refine ⟨kvs, h1, fun w hw => ?_⟩
  obtain ⟨p, e, f⟩ := h2 w hw
  exact ⟨p, e, by rw [e1 w hw, e2 w hw]; exact f⟩
section
variable {P : Program} {w : World} {K : PySem.W.Frag} {mg : Str → Option Value} {base : Heap} {f : Addr} {fd : FuncData} {T : List (Addr × Str)}
abbrev s_law : Stmt := top 55
abbrev n_law : List Str := ["script", "k", "box", "hall", "state", "known", "later", "one", "walker", "room"]
theorem sc_law : FnScope n_law ["script"] (defScope s_law) := ⟨rfl, rfl, rfl, by decide +kernel, rfl, by decide +kernel, by decide +kernel⟩
theorem ok_law (F : FnP K "law" s_law f fd) (c_law_box : Cal P w K mg base 1 "_law_box" (spBox K)) (c_law_friends : Cal P w K mg base 12 "_law_friends" (spFr T)) (c_law_hall : Cal P w K mg base 3 "_law_hall" spHall) (c_law_some_state : Cal P w K mg base 3 "_law_some_state" spSomeSt) (c_law_state_right : Cal P w K mg base 13 "_law_state_right" (spStR T)) (c_law_take : Cal P w K mg base 1 "_law_take" spTake) (c_law_walk : Cal P w K mg base 2 "_law_walk" spWalkM) (m_len : mg "len" = none) (m_max : mg "max" = none) (m_min : mg "min" = none) (m_range : mg "range" = none) :
    FnG P w K mg base C8.CX0 14 f fd ["script"] (spLawT K T) := by
  refine okG F sc_law (fun vs H Q E h => ?_) (fun cdv A outer s H vs Q E gd hr h => ?_)
  · obtain ⟨a, ns, rfl, hS, h63, hT, q⟩ := h
    rfl
  obtain ⟨a, ns, rfl, hS, h63, hT, q⟩ := h
  have nd := sc_law.nd
  refine ⟨_, PSs.nox (pss_cons (ps_for PassesOwn.never rfl (pi_range1 (by rfl) m_range (pa_cons (pe_callB (call_max2 rfl) (by rfl) m_max (by decide +kernel) (pa_cons pe_int (pa_cons (pe_callB (call_min2 rfl) (by rfl) m_min (by decide +kernel) (pa_cons pe_int (pa_cons (pe_callB (r := rLn K) call_len_seq (by rfl) m_len PySem.boot_len (pa_cons (pv 0) pa_nil)) pa_nil))) pa_nil))) pa_nil)) (pg_name (i := 1) nd rfl (Or.inl rfl)) (pss_cons (ps_set (i := 2) nd rfl (Or.inl rfl) (C8.pe_c c_law_box hr (by omega) (by rfl) (pa_cons (pv 0) (pa_cons (pv 1) pa_nil))))
    (pss_cons (ps_set (i := 3) nd rfl (Or.inl rfl) (C8.pe_c c_law_hall hr (by omega) (by rfl) (pa_cons (pv 2) (pa_cons pe_int (pa_cons pe_int pa_nil)))))
    (pss_cons (ps_set (i := 4) nd rfl (Or.inl rfl) (C8.pe_c c_law_some_state hr (by omega) (by rfl) (pa_cons (pv 2) (pa_cons (pv 3) pa_nil))))
    (pss_cons (ps_set (i := 5) nd rfl (Or.inl rfl) pe_dnewK)
    (pss_cons (ps_for PassesOwn.never rfl (pi_tup (pe_ix (r := rIxT K) ix_tup (pv 4) pe_int (fun _ _ => rfl))) (pg_tup (by rfl) (pgs_cons (pg_name (i := 8) nd rfl (Or.inl rfl)) (pgs_cons (pg_name (i := 9) nd rfl (Or.inl rfl)) pgs_nil))) (pss_one (ps_dput (hu_of hr) (pv 5) (pv 8) (C8.pe_c c_law_friends hr (by omega) (by rfl) (pa_cons (pv 3) (pa_cons (pv 4) (pa_cons (pv 8) pa_nil)))) rfl)))
    (pss_cons (ps_set (i := 6) nd rfl (Or.inl rfl) (pe_ix (r := rIxT K) ix_tup (C8.pe_c c_law_walk hr (by omega) (by rfl) (pa_cons (pv 2) (pa_cons (pv 3) (pa_cons (pv 4) (pa_cons (C8.pe_c c_law_take hr (by omega) (by rfl) (pa_cons (pv 2) (pa_cons pe_int pa_nil))) pa_nil))))) pe_int (fun _ _ => rfl)))
    (pss_one (ps_for PassesOwn.never rfl (pi_tup (pe_tup (pa_cons (pv 4) (pa_cons (pv 6) pa_nil)))) (pg_name (i := 7) nd rfl (Or.inl rfl)) (pss_one (ps_if (pt_not (pt_val (C8.pe_c c_law_state_right hr (by omega) (by rfl) (pa_cons (pv 3) (pa_cons (pv 7) (pa_cons (pv 5) pa_nil)))))) (pss_one (ps_ret pe_bl)) pss_nil)))))))))))
    (pss_one (ps_ret pe_bl))), ?_⟩
  have hlen : (ns.map V.int).length = ns.length := List.length_map _
  refine ⟨_, rfl, a, _, rfl, .inl hS, _, _, rfl, _, _, rfl, _, rfl, ?_, ?_, ?_⟩
  · rw [hlen]
    split <;> split <;> omega
  · rw [hlen]
    split <;> split <;> omega
  refine for_range (lo := 0) (fun i σ' H' => SqL K H' a (ns.map V.int) ∧ Tabs T H' ∧ ∃ v1 v2 v3 v4 v5 v6 v7 v8 v9 : Option V, σ' = [some (.ref a), v1, v2, v3, v4, v5, v6, v7, v8, v9]) ⟨hS, hT, _, _, _, _, _, _, _, _, _, rfl⟩ (fun i σ' H0 hi ⟨hS0, hT0, v1, v2, v3, v4, v5, v6, v7, v8, v9, e⟩ => ?_) (fun σ' H' ⟨hS0, hT0, v1, v2, v3, v4, v5, v6, v7, v8, v9, e⟩ => ?_)
  case refine_2 =>
    subst e
    exact q H'
  subst e
  refine ⟨_, rfl, _, rfl, a, ns, _, rfl, hS0, h63, by omega, fun bp H1 s1 hbn B1 => ?_⟩
  refine ⟨_, rfl, bp, 8, 12, rfl, B1, by decide, by decide, by decide, by decide, fun hp rooms rows H2 hs hv _ _ B2 c2 => ?_⟩
  refine ⟨_, rfl, _, rfl, bp, hp, rooms, rows, rfl, B2, hs, hv, fun sp fs ps H3 hst sv B3 c3 => ?_⟩
  have Y : HSy H3 hp sp rooms rows fs ps := ⟨hs.tu (Tu.of c3 B2), hv, hst, sv⟩
  have n03 : Nx T H0 H3 := Nx.ch (Nx.ch (Nx.same (Nx.refl hT0) s1) c2 B1 (Fr.of hbn)) c3 B2 (Fr.of hbn)
  clear c2 c3 B1 B2 hs hst s1
  obtain ⟨ρ, hρ⟩ := plc_of sv
  generalize hnn : ps.map hd0 = nn at hρ
  subst hρ
  intro D hD
  have sD := same_new hD (.dK [])
  have hDk : upd H3 D (.dK []) D = some (.dK []) := upd_same
  show gName 5 (.ref D) _ (upd H3 D (.dK [])) _
  generalize upd H3 D (.dK []) = H4 at sD hDk ⊢
  have Y4 := Y.same sD
  have n34 : Nx T H3 H4 := (Nx.refl n03.t).same sD
  obtain ⟨fa, pl, g1, g2, bs, g3, hRB⟩ := id Y.s
  have l5 := ns5 Y.t
  have hbl : (bs.map V.ref).length = nn.length := by rw [List.length_map, hRB.1]; exact List.length_map _
  refine ⟨_, rfl, sp, _, _, _, rfl, rfl, SqT.of (n34.tu _ _ g1), atI_nat (j := 1) rfl, pl, rfl, ⟨_, SqT.of (n34.tu _ _ g3)⟩, ?_⟩
  refine for_tup (K := K) (a := pl) (xs := bs.map V.ref) (fun i' σ' Hx => (∃ v8 v9 : Option V, σ' = [some (.ref a), some (.int (0 + (i : Int))), some (.ref bp), some (.ref hp), some (.ref sp), some (.ref D), v6, v7, v8, v9]) ∧ Nx T H3 Hx ∧ ∃ kvs : List (Key × V), Hx D = some (.dK kvs) ∧ kvs.length ≤ i' ∧ ∀ w ∈ nn.take i', ∃ p, valV kvs (Sum.inr w) = some (.ref p) ∧ FrAt Hx p (cm (rsOf rooms rows fs (plc nn ρ)) w) (gr rooms (rsOf rooms rows fs (plc nn ρ)) w)) ⟨⟨_, _, rfl⟩, n34, [], hDk, Nat.le_refl _, fun w hw => (nomatch hw)⟩ (fun i' σ' Hx _ ⟨_, nx, _⟩ => SqT.of (nx.tu _ _ g3)) (fun i' y σ' Hx hy hI => ?_) (fun σ' Hx hI => ?_)
  · obtain ⟨⟨v8, v9, rfl⟩, nx, kvs, k1, k2, k3⟩ := hI
    obtain ⟨ra, r, rfl, hpi, hpa⟩ := hRB.row hy
    unfold plc at hpi
    rw [List.getElem?_map] at hpi
    cases hn : nn[i']? with
    | none => rw [hn] at hpi; cases hpi
    | some n =>
    rw [hn] at hpi
    cases hpi
    have hnm := List.mem_of_getElem? hn
    have il : i' < nn.length := (List.getElem?_eq_some_iff.mp hn).1
    refine ⟨ra, _, rfl, SqT.of (nx.tu _ _ hpa), rfl, _, _, rfl, _, _, rfl, rfl, ?_⟩
    refine ⟨_, rfl, _, rfl, _, rfl, hp, sp, n, rooms, rows, fs, nn, ρ, rfl, Y.nx nx, hnm, nx.t, fun p H' n1 f1 => ⟨_, rfl, _, rfl, D, _, rfl, DPut.k (k := Sum.inr n) (n1.dk k1) (sz100 (by omega)), ⟨_, _, rfl⟩, (nx.trans n1).mutD (n1.dk k1) (Fr.of hD) _, _, upd_same, ?_, fun w hw => ?_⟩⟩
    · have := DSub.putK_len kvs (Sum.inr n) (V.ref p)
      omega
    · rw [valV_put]
      by_cases e : w = n
      · subst e
        exact ⟨p, if_pos rfl, f1.updD (n1.dk k1)⟩
      · rw [if_neg (fun z => e (Sum.inr.inj z))]
        rw [take_snoc hn] at hw
        rcases List.mem_append.mp hw with hw | hw
        · obtain ⟨q', e1, e2⟩ := k3 w hw
          exact ⟨q', e1, (e2.nx n1).updD (n1.dk k1)⟩
        · exact absurd (List.mem_singleton.mp hw) e
  obtain ⟨⟨v8, v9, rfl⟩, nx, kvs, k1, k2, k3⟩ := hI
  rw [hbl, List.take_length] at k3
  have kn : KnAt Hx D nn (cm (rsOf rooms rows fs (plc nn ρ))) (gr rooms (rsOf rooms rows fs (plc nn ρ))) := ⟨kvs, k1, k3⟩
  have Yx := Y.nx nx
  have Bx := box_nx nx B3
  have n0x := n03.trans nx
  clear k1 k2 k3 n34 Y4 hDk sD
  refine ⟨_, rfl, _, rfl, _, rfl, _, rfl, bp, 16, rfl, Bx, by decide, by decide, fun r H5 r0 r1 B5 c5 => ?_⟩
  refine ⟨bp, hp, sp, r, rooms, rows, fs, plc nn ρ, rfl, B5, Yx.ch c5 Bx, r0, by omega, fun p rp sp2 l s' H6 hp6 hrow Y6 hgo B6 c6 => ?_⟩
  have Yx6 := (Yx.ch c5 Bx).ch c6 B5
  have kn6 := (kn.ch c5 Bx).ch c6 B5
  have n06 := (n0x.ch c5 Bx (Fr.of hbn)).ch c6 B5 (Fr.of hbn)
  refine ⟨p, _, _, _, rfl, rfl, SqT.of hp6, atI_nat (j := 1) rfl, ?_⟩
  clear kn Yx nx n0x c5 c6
  obtain ⟨τ, hτ⟩ := plc_of Y6.t
  have hn6 : s'.2.map hd0 = nn := (names_goM hv Yx6.t hgo).trans hnn
  rw [hn6] at hτ
  have kn2 : KnAt H6 D nn (cm (rsOf rooms rows s'.1 (plc nn τ))) (gr rooms (rsOf rooms rows s'.1 (plc nn τ))) := by
    rw [← hτ]
    exact kn6.congr (fun u hu => (cmgr_go hv (s := (fs, plc nn ρ)) Yx6.t hgo (by rw [hnn]; exact hu)).1) (fun u hu => (cmgr_go hv (s := (fs, plc nn ρ)) Yx6.t hgo (by rw [hnn]; exact hu)).2)
  rw [hτ] at Y6
  refine ⟨_, rfl, _, rfl, (by show 2 ≤ sizeLine; decide), fun t ht => ⟨t, rfl, ⟨_, SqT.of upd_same⟩, ?_⟩⟩
  have st_ := same_new ht (.tup [.ref sp, .ref sp2])
  have ht' : upd H6 t (.tup [.ref sp, .ref sp2]) t = some (.tup [.ref sp, .ref sp2]) := upd_same
  refine for_tup (K := K) (a := t) (xs := [.ref sp, .ref sp2]) (fun i' σ' Hx => (∃ v7 v8 v9 : Option V, σ' = [some (.ref a), some (.int (0 + (i : Int))), some (.ref bp), some (.ref hp), some (.ref sp), some (.ref D), some (.ref sp2), v7, v8, v9]) ∧ Nx T H6 Hx ∧ Hx t = some (.tup [.ref sp, .ref sp2])) ⟨⟨_, _, _, rfl⟩, (Nx.refl n06.t).same st_, ht'⟩ (fun i' σ' Hx _ ⟨_, nx, h⟩ => SqT.of h) (fun i' y σ' Hx hy hI => ?_) (fun σ' Hx hI => ?_)
  rotate_left
  · obtain ⟨⟨v7, v8, v9, rfl⟩, nx, _⟩ := hI
    exact ⟨SqL.nx (n06.trans nx) hS0, nx.t, _, _, _, _, _, _, _, _, _, rfl⟩
  obtain ⟨⟨v7, v8, v9, rfl⟩, nx, hx⟩ := hI
  have both : ∃ (st : Addr) (faces : List Str) (σ : Str → Str), y = .ref st ∧ HSy Hx hp st rooms rows faces (plc nn σ) ∧ KnAt Hx D nn (cm (rsOf rooms rows faces (plc nn σ))) (gr rooms (rsOf rooms rows faces (plc nn σ))) := by
    match i', hy with
    | 0, hy => cases hy; exact ⟨sp, fs, ρ, rfl, Yx6.nx nx, kn6.nx nx⟩
    | 1, hy => cases hy; exact ⟨sp2, s'.1, τ, rfl, Y6.nx nx, kn2.nx nx⟩
  obtain ⟨st, faces, σ, rfl, y1, y2⟩ := both
  refine ⟨_, rfl, _, rfl, _, rfl, hp, st, D, rooms, rows, faces, nn, σ, rfl, y1, nx.t, y2, fun H8 n8 => ?_⟩
  exact ⟨_, rfl, iteF ⟨⟨_, _, _, rfl⟩, nx.trans n8, n8.tu _ _ hx⟩⟩
end
end Td
set_option maxHeartbeats 0
namespace Td
open PySem PySem.Spec PyProof.Rows L2
def dd (x : Str) (i : Nat) : He.DefD := ⟨(x, none), x, x, defArgs (top i), defBody (top i), defScope (top i), [], []⟩
def di (x q : Str) (i : Nat) : He.DefD := ⟨(x, some "__init__"), "__init__", q, defArgs (mth i), defBody (mth i), defScope (mth i), [], []⟩
def fn : List He.DefD := [dd "ends_of" 7, dd "check_room" 8, dd "room_of" 10, dd "check_walker" 11, dd "spread" 13, dd "ways_of" 16, dd "_neighbours" 25, dd "reverse" 31, dd "face_of" 33, dd "_law_box" 44, dd "_law_take" 45, dd "_law_names" 46, dd "_law_hall" 47, dd "_law_passed" 49, dd "_law_deeds" 50, dd "_law_walk" 51, dd "_law_some_state" 52, dd "ways_out" 15, dd "_chains" 24, dd "can_pass" 27, dd "_can_be_done" 30, dd "turn_door" 32, dd "ways_from" 14, dd "reach" 18, dd "path" 19, dd "_reaches" 23, dd "pass_door" 28, dd "run" 29, dd "meeting_row" 35, dd "_swap_row" 37, dd "bands" 20, dd "grounds" 21, dd "chains_from" 22, dd "exchange_row" 36, dd "_apart" 42, dd "bring" 39, dd "swap" 40, dd "meet" 41, dd "_law_friends" 53, dd "_law_state_right" 54, dd "law" 55, di "UnknownWalker" "UnknownWalker.__init__" 5, di "UnknownDoor" "UnknownDoor.__init__" 4, di "UnknownRoom" "UnknownRoom.__init__" 3, di "Blocked" "Blocked.__init__" 2]
def fa : List He.Fa := [.glo "ends_of", .glo "check_room", .glo "room_of", .glo "check_walker", .glo "spread", .glo "ways_of", .glo "_neighbours", .glo "reverse", .glo "face_of", .glo "_law_box", .glo "_law_take", .glo "_law_names", .glo "_law_hall", .glo "_law_passed", .glo "_law_deeds", .glo "_law_walk", .glo "_law_some_state", .glo "ways_out", .glo "_chains", .glo "can_pass", .glo "_can_be_done", .glo "turn_door", .glo "ways_from", .glo "reach", .glo "path", .glo "_reaches", .glo "pass_door", .glo "run", .glo "meeting_row", .glo "_swap_row", .glo "bands", .glo "grounds", .glo "chains_from", .glo "exchange_row", .glo "_apart", .glo "bring", .glo "swap", .glo "meet", .glo "_law_friends", .glo "_law_state_right", .glo "law", .free "any", .free "enumerate", .free "int", .free "len", .free "list", .free "max", .free "min", .free "range", .free "reversed", .free "sorted", .free "tuple", .free "zip", .glo "UnknownWalker", .glo "UnknownDoor", .glo "UnknownRoom", .glo "Blocked"]
abbrev tf : List He.Defn := [("ways_from", none), ("_chains", none)]
def ex (K : PySem.W.Frag) : Bool := (errB K "UnknownWalker" && (errB K "UnknownDoor" && (errB K "UnknownRoom" && (errVB K "Blocked" "index" && (decide (PySem.W.exmAny K (.ref (He.ga K "UnknownWalker")) [.ref (He.ga K "UnknownWalker"), .ref (He.ga K "UnknownDoor")] = some true) && (decide (PySem.W.exmAny K (.ref (He.ga K "UnknownDoor")) [.ref (He.ga K "UnknownWalker"), .ref (He.ga K "UnknownDoor")] = some true) && decide ((He.cT K ("ways_from", none)).2 ≠ (He.cT K ("_chains", none)).2)))))))
theorem ex_ok {K : PySem.W.Frag} (h : ex K = true) : ErrT K "UnknownWalker" ∧ ErrT K "UnknownDoor" ∧ ErrT K "UnknownRoom" ∧ ErrV K "Blocked" "index" ∧ EKc K ∧ (He.cT K ("ways_from", none)).2 ≠ (He.cT K ("_chains", none)).2 := by
  unfold ex at h
  simp only [Bool.and_eq_true, decide_eq_true_eq] at h
  obtain ⟨h1, h2, h3, h4, h6, h7, h8⟩ := h
  exact ⟨errB_ok h1, errB_ok h2, errB_ok h3, errVB_ok h4, ⟨h6, h7⟩, h8⟩
abbrev R : PySem.W.OpenRow := PySem.W.OpenLaw.row PySem.Challenge.rw_turndoors_k40_whole_who_can_meet
abbrev hk : PySem.W.Hook := He.hookX 4 fa fn [] tf ex
def ob (s : PySem.W.SharedT) : He.AlX := He.obsX 4 fa fn [] tf ex (HandSHeadRun.getT s)
theorem ob_eq (s : PySem.W.SharedT) : ob s = hk.obs s.abs := He.obsX_eq (HandSHeadRun.getT_eq s)
def names : List PySem.Str := [("HallError" : PySem.Str), ("Blocked" : PySem.Str), ("UnknownRoom" : PySem.Str), ("UnknownDoor" : PySem.Str), ("UnknownWalker" : PySem.Str), ("ends_of" : PySem.Str), ("check_room" : PySem.Str), ("room_of" : PySem.Str), ("check_walker" : PySem.Str), ("spread" : PySem.Str), ("ways_from" : PySem.Str), ("ways_out" : PySem.Str), ("ways_of" : PySem.Str), ("reach" : PySem.Str), ("path" : PySem.Str), ("bands" : PySem.Str), ("grounds" : PySem.Str), ("chains_from" : PySem.Str), ("_reaches" : PySem.Str), ("_chains" : PySem.Str), ("_neighbours" : PySem.Str), ("can_pass" : PySem.Str), ("pass_door" : PySem.Str), ("run" : PySem.Str), ("_can_be_done" : PySem.Str), ("reverse" : PySem.Str), ("turn_door" : PySem.Str), ("face_of" : PySem.Str), ("meeting_row" : PySem.Str), ("exchange_row" : PySem.Str), ("_swap_row" : PySem.Str), ("bring" : PySem.Str), ("swap" : PySem.Str), ("meet" : PySem.Str), ("_apart" : PySem.Str), ("_law_box" : PySem.Str), ("_law_take" : PySem.Str), ("_law_names" : PySem.Str), ("_law_hall" : PySem.Str), ("_law_state" : PySem.Str), ("_law_passed" : PySem.Str), ("_law_deeds" : PySem.Str), ("_law_walk" : PySem.Str), ("_law_some_state" : PySem.Str), ("_law_friends" : PySem.Str), ("_law_state_right" : PySem.Str)]
theorem run (w : World) : HandSHeadRun.RunEq R (PySem.W.view R.prog [55]) hk ob 3000 names w := by
  intro os
  kernel_rfl
theorem sc_UnknownWalker : FnScope ["self", "name"] ["self", "name"] (defScope (mth 5)) := ⟨rfl, rfl, rfl, by decide +kernel, rfl, by decide +kernel, by decide +kernel⟩
theorem sc_UnknownDoor : FnScope ["self", "name"] ["self", "name"] (defScope (mth 4)) := ⟨rfl, rfl, rfl, by decide +kernel, rfl, by decide +kernel, by decide +kernel⟩
theorem sc_UnknownRoom : FnScope ["self", "name"] ["self", "name"] (defScope (mth 3)) := ⟨rfl, rfl, rfl, by decide +kernel, rfl, by decide +kernel, by decide +kernel⟩
theorem sc_Blocked : FnScope ["self", "index"] ["self", "index"] (defScope (mth 2)) := ⟨rfl, rfl, rfl, by decide +kernel, rfl, by decide +kernel, by decide +kernel⟩
theorem facts {P : Program} {w : World} {K : PySem.W.Frag} {h : Heap} {mg : Str → Option Value} {f : Addr} (X : K.In h) (G : h.Ns mainGlobals mg) (hfa : mg ("law" : Str) = some (.ref f)) (c0 : He.SaysX fa fn [] tf ex w h K) :
    ∃ fd : FuncData, (∀ (s : Shared) (v : Value), BindsTo s fd ⟨[v], []⟩ [("script", v)]) ∧ ∀ base : Heap, K.In base → base.Ns mainGlobals mg → (∀ t ∈ tf.map (He.cT K), LamX.TabB base mg t.1 t.2) → FnG P w K mg base C8.CX0 14 f fd ["script"] (spLawT K (tabsOf K tf)) := by
  have c : He.SaysD fa fn K := c0.t.d
  obtain ⟨T_UnknownWalker, T_UnknownDoor, T_UnknownRoom, T_Blocked, EKC, TNE⟩ := ex_ok c0.more
  obtain ⟨fd_ends_of, F_ends_of⟩ := c.def_ 0 (d := dd "ends_of" 7) rfl
  have g_ends_of := He.glo_ok X G (c.fact 0 (f := .glo "ends_of") rfl)
  obtain ⟨fd_check_room, F_check_room⟩ := c.def_ 1 (d := dd "check_room" 8) rfl
  have g_check_room := He.glo_ok X G (c.fact 1 (f := .glo "check_room") rfl)
  obtain ⟨fd_room_of, F_room_of⟩ := c.def_ 2 (d := dd "room_of" 10) rfl
  have g_room_of := He.glo_ok X G (c.fact 2 (f := .glo "room_of") rfl)
  obtain ⟨fd_check_walker, F_check_walker⟩ := c.def_ 3 (d := dd "check_walker" 11) rfl
  have g_check_walker := He.glo_ok X G (c.fact 3 (f := .glo "check_walker") rfl)
  obtain ⟨fd_spread, F_spread⟩ := c.def_ 4 (d := dd "spread" 13) rfl
  have g_spread := He.glo_ok X G (c.fact 4 (f := .glo "spread") rfl)
  obtain ⟨fd_ways_of, F_ways_of⟩ := c.def_ 5 (d := dd "ways_of" 16) rfl
  have g_ways_of := He.glo_ok X G (c.fact 5 (f := .glo "ways_of") rfl)
  obtain ⟨fd_neighbours, F_neighbours⟩ := c.def_ 6 (d := dd "_neighbours" 25) rfl
  have g_neighbours := He.glo_ok X G (c.fact 6 (f := .glo "_neighbours") rfl)
  obtain ⟨fd_reverse, F_reverse⟩ := c.def_ 7 (d := dd "reverse" 31) rfl
  have g_reverse := He.glo_ok X G (c.fact 7 (f := .glo "reverse") rfl)
  obtain ⟨fd_face_of, F_face_of⟩ := c.def_ 8 (d := dd "face_of" 33) rfl
  have g_face_of := He.glo_ok X G (c.fact 8 (f := .glo "face_of") rfl)
  obtain ⟨fd_law_box, F_law_box⟩ := c.def_ 9 (d := dd "_law_box" 44) rfl
  have g_law_box := He.glo_ok X G (c.fact 9 (f := .glo "_law_box") rfl)
  obtain ⟨fd_law_take, F_law_take⟩ := c.def_ 10 (d := dd "_law_take" 45) rfl
  have g_law_take := He.glo_ok X G (c.fact 10 (f := .glo "_law_take") rfl)
  obtain ⟨fd_law_names, F_law_names⟩ := c.def_ 11 (d := dd "_law_names" 46) rfl
  have g_law_names := He.glo_ok X G (c.fact 11 (f := .glo "_law_names") rfl)
  obtain ⟨fd_law_hall, F_law_hall⟩ := c.def_ 12 (d := dd "_law_hall" 47) rfl
  have g_law_hall := He.glo_ok X G (c.fact 12 (f := .glo "_law_hall") rfl)
  obtain ⟨fd_law_passed, F_law_passed⟩ := c.def_ 13 (d := dd "_law_passed" 49) rfl
  have g_law_passed := He.glo_ok X G (c.fact 13 (f := .glo "_law_passed") rfl)
  obtain ⟨fd_law_deeds, F_law_deeds⟩ := c.def_ 14 (d := dd "_law_deeds" 50) rfl
  have g_law_deeds := He.glo_ok X G (c.fact 14 (f := .glo "_law_deeds") rfl)
  obtain ⟨fd_law_walk, F_law_walk⟩ := c.def_ 15 (d := dd "_law_walk" 51) rfl
  have g_law_walk := He.glo_ok X G (c.fact 15 (f := .glo "_law_walk") rfl)
  obtain ⟨fd_law_some_state, F_law_some_state⟩ := c.def_ 16 (d := dd "_law_some_state" 52) rfl
  have g_law_some_state := He.glo_ok X G (c.fact 16 (f := .glo "_law_some_state") rfl)
  obtain ⟨fd_ways_out, F_ways_out⟩ := c.def_ 17 (d := dd "ways_out" 15) rfl
  have g_ways_out := He.glo_ok X G (c.fact 17 (f := .glo "ways_out") rfl)
  obtain ⟨fd_chains, F_chains⟩ := c.def_ 18 (d := dd "_chains" 24) rfl
  have g_chains := He.glo_ok X G (c.fact 18 (f := .glo "_chains") rfl)
  obtain ⟨fd_can_pass, F_can_pass⟩ := c.def_ 19 (d := dd "can_pass" 27) rfl
  have g_can_pass := He.glo_ok X G (c.fact 19 (f := .glo "can_pass") rfl)
  obtain ⟨fd_can_be_done, F_can_be_done⟩ := c.def_ 20 (d := dd "_can_be_done" 30) rfl
  have g_can_be_done := He.glo_ok X G (c.fact 20 (f := .glo "_can_be_done") rfl)
  obtain ⟨fd_turn_door, F_turn_door⟩ := c.def_ 21 (d := dd "turn_door" 32) rfl
  have g_turn_door := He.glo_ok X G (c.fact 21 (f := .glo "turn_door") rfl)
  obtain ⟨fd_ways_from, F_ways_from⟩ := c.def_ 22 (d := dd "ways_from" 14) rfl
  have g_ways_from := He.glo_ok X G (c.fact 22 (f := .glo "ways_from") rfl)
  obtain ⟨fd_reach, F_reach⟩ := c.def_ 23 (d := dd "reach" 18) rfl
  have g_reach := He.glo_ok X G (c.fact 23 (f := .glo "reach") rfl)
  obtain ⟨fd_path, F_path⟩ := c.def_ 24 (d := dd "path" 19) rfl
  have g_path := He.glo_ok X G (c.fact 24 (f := .glo "path") rfl)
  obtain ⟨fd_reaches, F_reaches⟩ := c.def_ 25 (d := dd "_reaches" 23) rfl
  have g_reaches := He.glo_ok X G (c.fact 25 (f := .glo "_reaches") rfl)
  obtain ⟨fd_pass_door, F_pass_door⟩ := c.def_ 26 (d := dd "pass_door" 28) rfl
  have g_pass_door := He.glo_ok X G (c.fact 26 (f := .glo "pass_door") rfl)
  obtain ⟨fd_run, F_run⟩ := c.def_ 27 (d := dd "run" 29) rfl
  have g_run := He.glo_ok X G (c.fact 27 (f := .glo "run") rfl)
  obtain ⟨fd_meeting_row, F_meeting_row⟩ := c.def_ 28 (d := dd "meeting_row" 35) rfl
  have g_meeting_row := He.glo_ok X G (c.fact 28 (f := .glo "meeting_row") rfl)
  obtain ⟨fd_swap_row, F_swap_row⟩ := c.def_ 29 (d := dd "_swap_row" 37) rfl
  have g_swap_row := He.glo_ok X G (c.fact 29 (f := .glo "_swap_row") rfl)
  obtain ⟨fd_bands, F_bands⟩ := c.def_ 30 (d := dd "bands" 20) rfl
  have g_bands := He.glo_ok X G (c.fact 30 (f := .glo "bands") rfl)
  obtain ⟨fd_grounds, F_grounds⟩ := c.def_ 31 (d := dd "grounds" 21) rfl
  have g_grounds := He.glo_ok X G (c.fact 31 (f := .glo "grounds") rfl)
  obtain ⟨fd_chains_from, F_chains_from⟩ := c.def_ 32 (d := dd "chains_from" 22) rfl
  have g_chains_from := He.glo_ok X G (c.fact 32 (f := .glo "chains_from") rfl)
  obtain ⟨fd_exchange_row, F_exchange_row⟩ := c.def_ 33 (d := dd "exchange_row" 36) rfl
  have g_exchange_row := He.glo_ok X G (c.fact 33 (f := .glo "exchange_row") rfl)
  obtain ⟨fd_apart, F_apart⟩ := c.def_ 34 (d := dd "_apart" 42) rfl
  have g_apart := He.glo_ok X G (c.fact 34 (f := .glo "_apart") rfl)
  obtain ⟨fd_bring, F_bring⟩ := c.def_ 35 (d := dd "bring" 39) rfl
  have g_bring := He.glo_ok X G (c.fact 35 (f := .glo "bring") rfl)
  obtain ⟨fd_swap, F_swap⟩ := c.def_ 36 (d := dd "swap" 40) rfl
  have g_swap := He.glo_ok X G (c.fact 36 (f := .glo "swap") rfl)
  obtain ⟨fd_meet, F_meet⟩ := c.def_ 37 (d := dd "meet" 41) rfl
  have g_meet := He.glo_ok X G (c.fact 37 (f := .glo "meet") rfl)
  obtain ⟨fd_law_friends, F_law_friends⟩ := c.def_ 38 (d := dd "_law_friends" 53) rfl
  have g_law_friends := He.glo_ok X G (c.fact 38 (f := .glo "_law_friends") rfl)
  obtain ⟨fd_law_state_right, F_law_state_right⟩ := c.def_ 39 (d := dd "_law_state_right" 54) rfl
  have g_law_state_right := He.glo_ok X G (c.fact 39 (f := .glo "_law_state_right") rfl)
  obtain ⟨fd_law, F_law⟩ := c.def_ 40 (d := dd "law" 55) rfl
  have g_law := He.glo_ok X G (c.fact 40 (f := .glo "law") rfl)
  obtain ⟨fd_UnknownWalker, F_UnknownWalker⟩ := c.def_ 41 (d := di "UnknownWalker" "UnknownWalker.__init__" 5) rfl
  obtain ⟨fd_UnknownDoor, F_UnknownDoor⟩ := c.def_ 42 (d := di "UnknownDoor" "UnknownDoor.__init__" 4) rfl
  obtain ⟨fd_UnknownRoom, F_UnknownRoom⟩ := c.def_ 43 (d := di "UnknownRoom" "UnknownRoom.__init__" 3) rfl
  obtain ⟨fd_Blocked, F_Blocked⟩ := c.def_ 44 (d := di "Blocked" "Blocked.__init__" 2) rfl
  have m_any := He.free_ok X G (c.fact 41 (f := .free "any") rfl)
  have m_enumerate := He.free_ok X G (c.fact 42 (f := .free "enumerate") rfl)
  have m_int := He.free_ok X G (c.fact 43 (f := .free "int") rfl)
  have m_len := He.free_ok X G (c.fact 44 (f := .free "len") rfl)
  have m_list := He.free_ok X G (c.fact 45 (f := .free "list") rfl)
  have m_max := He.free_ok X G (c.fact 46 (f := .free "max") rfl)
  have m_min := He.free_ok X G (c.fact 47 (f := .free "min") rfl)
  have m_range := He.free_ok X G (c.fact 48 (f := .free "range") rfl)
  have m_reversed := He.free_ok X G (c.fact 49 (f := .free "reversed") rfl)
  have m_sorted := He.free_ok X G (c.fact 50 (f := .free "sorted") rfl)
  have m_tuple := He.free_ok X G (c.fact 51 (f := .free "tuple") rfl)
  have m_zip := He.free_ok X G (c.fact 52 (f := .free "zip") rfl)
  have gc_UnknownWalker := He.glo_ok X G (c.fact 53 (f := .glo "UnknownWalker") rfl)
  have gc_UnknownDoor := He.glo_ok X G (c.fact 54 (f := .glo "UnknownDoor") rfl)
  have gc_UnknownRoom := He.glo_ok X G (c.fact 55 (f := .glo "UnknownRoom") rfl)
  have gc_Blocked := He.glo_ok X G (c.fact 56 (f := .glo "Blocked") rfl)
  have e := hfa.symm.trans g_law
  cases e
  have b := FunD.bindsA (ps := ["script"]) F_law fun _ _ _ _ _ _ us hl => match us, hl with | [_], _ => rfl
  refine ⟨fd_law, fun s v => b s [v] rfl, fun base _ _ hTB => ?_⟩
  have TB_ways_from := hTB (He.cT K ("ways_from", none)) (List.mem_map.mpr ⟨("ways_from", none), by decide, rfl⟩)
  have hT1_ways_from : ((He.cT K ("ways_from", none)).2, ("ways_from.<locals>.<lambda>" : Str)) ∈ tabsOf K tf := List.mem_map.mpr ⟨("ways_from", none), by decide, Prod.ext rfl (show (("ways_from" : Str) ++ ".<locals>." ++ "<lambda>") = "ways_from.<locals>.<lambda>" from by decide +kernel)⟩
  have hT2_ways_from : ∀ p ∈ tabsOf K tf, p.1 = (He.cT K ("ways_from", none)).2 → p.2 = ("ways_from.<locals>.<lambda>" : Str) := fun p hp hq => by
    obtain ⟨d, hd, rfl⟩ := List.mem_map.mp hp
    rcases List.mem_cons.mp hd with rfl | hd
    · exact (show (("ways_from" : Str) ++ ".<locals>." ++ "<lambda>") = "ways_from.<locals>.<lambda>" from by decide +kernel)
    · rw [List.mem_singleton.mp hd] at hq ⊢
      exact absurd hq.symm TNE
  have TB_chains := hTB (He.cT K ("_chains", none)) (List.mem_map.mpr ⟨("_chains", none), by decide, rfl⟩)
  have hT1_chains : ((He.cT K ("_chains", none)).2, ("_chains.<locals>.<lambda>" : Str)) ∈ tabsOf K tf := List.mem_map.mpr ⟨("_chains", none), by decide, Prod.ext rfl (show (("_chains" : Str) ++ ".<locals>." ++ "<lambda>") = "_chains.<locals>.<lambda>" from by decide +kernel)⟩
  have hT2_chains : ∀ p ∈ tabsOf K tf, p.1 = (He.cT K ("_chains", none)).2 → p.2 = ("_chains.<locals>.<lambda>" : Str) := fun p hp hq => by
    obtain ⟨d, hd, rfl⟩ := List.mem_map.mp hp
    rcases List.mem_cons.mp hd with rfl | hd
    · exact absurd hq TNE
    · rw [List.mem_singleton.mp hd] at hq ⊢
      exact (show (("_chains" : Str) ++ ".<locals>." ++ "<lambda>") = "_chains.<locals>.<lambda>" from by decide +kernel)
  have M_UnknownWalker : ErrM P w K mg base "UnknownWalker" := ⟨T_UnknownWalker, gc_UnknownWalker, fd_UnknownWalker, ["self", "name"], ok_er T_UnknownWalker sc_UnknownWalker (fun cdv A outer s H E => PSs.nox (pss_one (ps_kst (pv 0) (pv 1)))) F_UnknownWalker, F_UnknownWalker.bindsN (ps := ["self", "name"]) fun _ _ _ _ _ _ us hl => match us, hl with | [_, _], _ => rfl⟩
  have M_UnknownDoor : ErrM P w K mg base "UnknownDoor" := ⟨T_UnknownDoor, gc_UnknownDoor, fd_UnknownDoor, ["self", "name"], ok_er T_UnknownDoor sc_UnknownDoor (fun cdv A outer s H E => PSs.nox (pss_one (ps_kst (pv 0) (pv 1)))) F_UnknownDoor, F_UnknownDoor.bindsN (ps := ["self", "name"]) fun _ _ _ _ _ _ us hl => match us, hl with | [_, _], _ => rfl⟩
  have M_UnknownRoom : ErrM P w K mg base "UnknownRoom" := ⟨T_UnknownRoom, gc_UnknownRoom, fd_UnknownRoom, ["self", "name"], ok_er T_UnknownRoom sc_UnknownRoom (fun cdv A outer s H E => PSs.nox (pss_one (ps_kst (pv 0) (pv 1)))) F_UnknownRoom, F_UnknownRoom.bindsN (ps := ["self", "name"]) fun _ _ _ _ _ _ us hl => match us, hl with | [_, _], _ => rfl⟩
  have M_Blocked : ErrMV P w K mg base "Blocked" "index" := ⟨T_Blocked, gc_Blocked, fd_Blocked, ["self", "index"], ok_ev T_Blocked sc_Blocked (fun cdv A outer s H E => PSs.nox (pss_one (ps_ost (pv 0) (pv 1)))) F_Blocked, F_Blocked.bindsN (ps := ["self", "index"]) fun _ _ _ _ _ _ us hl => match us, hl with | [_, _], _ => rfl⟩
  have c_ends_of : CalX P w K mg base 3 "ends_of" (spEndsM K) := ok_ends_of F_ends_of g_ends_of M_UnknownDoor 
  have c_check_room : CalX P w K mg base 3 "check_room" (spChkRI K) := ok_check_room F_check_room g_check_room M_UnknownRoom 
  have c_room_of : CalX P w K mg base 3 "room_of" (spRoomIZ K) := ok_room_of F_room_of g_room_of M_UnknownWalker 
  have c_check_walker : CalX P w K mg base 3 "check_walker" (spChkWI K) := ok_check_walker F_check_walker g_check_walker M_UnknownWalker 
  have c_spread : Giv P w K mg base 2 "spread" spSpread := ok_spread F_spread g_spread 
  have c_ways_of : Cal P w K mg base 1 "ways_of" spWays := ok_ways_of F_ways_of g_ways_of m_zip
  have c_neighbours : Cal P w K mg base 1 "_neighbours" spNbr := ok_neighbours F_neighbours g_neighbours m_any
  have c_reverse : Cal P w K mg base 1 "reverse" (spRev K) := ok_reverse F_reverse g_reverse m_reversed m_tuple
  have c_face_of : CalX P w K mg base 3 "face_of" (spFaceM K) := ok_face_of F_face_of g_face_of M_UnknownDoor m_zip
  have c_law_box : Cal P w K mg base 1 "_law_box" (spBox K) := ok_law_box F_law_box g_law_box m_int m_len
  have c_law_take : Cal P w K mg base 1 "_law_take" spTake := ok_law_take F_law_take g_law_take 
  have c_law_names : Cal P w K mg base 2 "_law_names" spNames := ok_law_names F_law_names g_law_names c_law_take m_int m_len m_range
  have c_law_hall : Cal P w K mg base 3 "_law_hall" spHall := ok_law_hall F_law_hall g_law_hall c_law_names c_law_take m_int m_len m_max m_range m_tuple
  have c_law_passed : Cal P w K mg base 1 "_law_passed" spLPZ := ok_law_passed F_law_passed g_law_passed m_enumerate m_list m_tuple
  have c_law_deeds : Cal P w K mg base 1 "_law_deeds" spDeedsZ := ok_law_deeds F_law_deeds g_law_deeds m_zip
  have c_law_walk : Cal P w K mg base 2 "_law_walk" spWalkM := ok_law_walk F_law_walk g_law_walk c_law_deeds c_law_passed c_law_take m_len m_range
  have c_law_some_state : Cal P w K mg base 3 "_law_some_state" spSomeSt := ok_law_some_state F_law_some_state g_law_some_state c_law_names c_law_take m_len m_list m_sorted m_tuple
  have c_ways_out : Cal P w K mg base 2 "ways_out" spOuts := ok_ways_out F_ways_out g_ways_out c_ways_of
  have c_chains : Cal P w K mg base 4 "_chains" (spChains (tabsOf K tf)) := ok_chains F_chains rfl g_chains TB_chains hT1_chains hT2_chains c_neighbours c_spread
  have c_can_pass : CalX P w K mg base 4 "can_pass" (spCanPM K) := ok_can_pass F_can_pass g_can_pass  c_face_of c_room_of
  have c_can_be_done : Cal P w K mg base 5 "_can_be_done" spCanDM := ok_can_be_done F_can_be_done g_can_be_done c_can_pass gc_UnknownWalker gc_UnknownDoor EKC
  have c_turn_door : CalX P w K mg base 4 "turn_door" (spTurnM K) := ok_turn_door F_turn_door g_turn_door  c_ends_of c_face_of m_tuple m_zip
  have c_ways_from : Cal P w K mg base 5 "ways_from" (spFrom (tabsOf K tf)) := ok_ways_from F_ways_from rfl g_ways_from TB_ways_from hT1_ways_from hT2_ways_from c_spread c_ways_out
  have c_reach : CalX P w K mg base 6 "reach" (spReach K (tabsOf K tf)) := ok_reach F_reach g_reach  c_room_of c_ways_from m_tuple
  have c_path : CalX P w K mg base 6 "path" (spPath K (tabsOf K tf)) := ok_path F_path g_path  c_check_room c_room_of c_ways_from
  have c_reaches : Cal P w K mg base 7 "_reaches" (spReaches (tabsOf K tf)) := ok_reaches F_reaches g_reaches c_reach
  have c_pass_door : CalX P w K mg base 5 "pass_door" (spPassM K) := ok_pass_door F_pass_door g_pass_door M_Blocked c_can_pass c_face_of c_turn_door m_tuple
  have c_run : CalX P w K mg base 6 "run" (spRunM K) := ok_run F_run g_run M_Blocked c_can_be_done c_pass_door m_enumerate
  have c_meeting_row : Cal P w K mg base 6 "meeting_row" (spMeet (tabsOf K tf)) := ok_meeting_row F_meeting_row g_meeting_row c_room_of c_ways_from m_len m_min m_tuple
  have c_swap_row : Cal P w K mg base 7 "_swap_row" (spSwapR (tabsOf K tf)) := ok_swap_row F_swap_row g_swap_row c_meeting_row c_reverse m_tuple
  have c_bands : Cal P w K mg base 8 "bands" (spBands (tabsOf K tf)) := ok_bands F_bands g_bands c_chains c_reaches m_any m_sorted m_tuple
  have c_grounds : Cal P w K mg base 9 "grounds" (spGrounds (tabsOf K tf)) := ok_grounds F_grounds g_grounds c_bands m_tuple
  have c_chains_from : Cal P w K mg base 8 "chains_from" (spChF (tabsOf K tf)) := ok_chains_from F_chains_from g_chains_from c_chains c_reaches
  have c_exchange_row : Cal P w K mg base 9 "exchange_row" (spExA (tabsOf K tf)) := ok_exchange_row F_exchange_row g_exchange_row c_swap_row c_chains_from c_run m_reversed
  have c_apart : Cal P w K mg base 10 "_apart" (spApart (tabsOf K tf)) := ok_apart F_apart g_apart c_grounds
  have c_bring : CalX P w K mg base 11 "bring" (spBr K (tabsOf K tf)) := ok_bring F_bring g_bring  c_apart c_chains_from c_check_room c_check_walker c_exchange_row c_path c_run m_tuple
  have c_swap : CalX P w K mg base 11 "swap" (spSwp K (tabsOf K tf)) := ok_swap F_swap g_swap  c_apart c_chains_from c_check_walker c_exchange_row
  have c_meet : CalX P w K mg base 11 "meet" (spMt K (tabsOf K tf)) := ok_meet F_meet g_meet  c_apart c_chains_from c_check_walker c_exchange_row c_meeting_row c_run
  have c_law_friends : Cal P w K mg base 12 "_law_friends" (spFr (tabsOf K tf)) := ok_law_friends F_law_friends g_law_friends c_bring c_meet
  have c_law_state_right : Cal P w K mg base 13 "_law_state_right" (spStR (tabsOf K tf)) := ok_law_state_right F_law_state_right g_law_state_right c_law_friends c_swap
  exact ok_law F_law  c_law_box c_law_friends c_law_hall c_law_some_state c_law_state_right c_law_take c_law_walk m_len m_max m_min m_range
end Td
open PySem PySem.W PySem.Calls PyProof.Rows
set_option maxRecDepth 100000 in
set_option maxHeartbeats 0 in
theorem PySem.Challenge.cw_turndoors_k40_whole_who_can_meet_holds : PySem.Challenge.rw_turndoors_k40_whole_who_can_meet.Holds := by
  w_on; o_law
  refine HandSHeadRun.head_any (r := OpenLaw.row PySem.Challenge.rw_turndoors_k40_whole_who_can_meet) (q := view (OpenLaw.row PySem.Challenge.rw_turndoors_k40_whole_who_can_meet).prog [55]) (H := Td.hk) (ob := Td.ob) (M := 3000) (loose := Td.names) (d := HandSHeadRun.topDef (OpenLaw.row PySem.Challenge.rw_turndoors_k40_whole_who_can_meet).prog 55) (kwd := []) Td.ob_eq
    (by kernel_rfl) (fun s => by kernel_rfl) Td.run (by kernel_rfl) (by kernel_rfl) (by kernel_rfl) (by rfl) (by first | assumption | decide +kernel) (by decide +kernel) ⟨rfl, rfl, rfl, rfl, rfl, by decide +kernel⟩ ?hw ?hc
  case hw => w_witness2
  case hc =>
    refine Td.walk_ofH (l := PySem.Challenge.rw_turndoors_k40_whole_who_can_meet) (n := 63) (k := 14) (x := "script") (CX := C8.CX0) rfl (by decide) (by kernel_rfl) ⟨rfl, by decide, by decide⟩ ?F (fun _ _ _ _ z => z)
    intro w mg fa h Y G hmg0
    obtain ⟨K, KX, c⟩ := Y
    have hmg : mg ("law" : PySem.Str) = some (.ref fa) := by
      have e : (HandSHeadRun.topDef (OpenLaw.row PySem.Challenge.rw_turndoors_k40_whole_who_can_meet).prog 55).name = ("law" : PySem.Str) := by kernel_rfl
      rw [← e]
      exact hmg0
    obtain ⟨fd, hb, hF⟩ := Td.facts (P := (PySem.Challenge.rw_turndoors_k40_whole_who_can_meet).prog) (w := w) KX G hmg c
    exact ⟨K, fd, Td.tf.map (He.cT K), Td.spLawT K (Td.tabsOf K Td.tf), KX, fun t ht => (List.mem_map.mp ht).elim fun p z => by rw [← z.2]; exact c.empty p z.1, fun t ht => (List.mem_map.mp ht).elim fun p z => by rw [← z.2]; exact c.out p z.1, fun t ht => (List.mem_map.mp ht).elim fun p z => by rw [← z.2]; exact c.hd p z.1, hb, fun H a ns hl hT hS => ⟨a, ns, rfl, hS, hl, Td.tabs_start hT, fun _ => rfl⟩, hF⟩
