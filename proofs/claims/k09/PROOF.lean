import PyProof.Rows.All
import Wide.All
import OpenK.AllK
import Wide.FinOn
import KE.KStateDown
import Lean
import HandS.ForMost
import HandS.Defaults
import HandS.Codes
import HandS.Wide
import HandS.Flow
import HandS.Style
import HandS.Conv
import HandS.Zip
import HandS.Strs
import HandS.TupAny
import HandS.NoneIn
import HandS.IsInst
import HandS.Small
import HandS.Star
import HandS.Head0
import HandS.Head1
import HandS.Head2
import HandS.HeadEnd
import HandS.HeadHook1
import HandS.HeadHook2
import HandS.HeadHook4
import HandS.ExcInit
import HandS.ExcField
import HandS.ExcIs
import HandS.SetFor
import HandS.ExcOwn
import KE.GoesEnumKw
import HandS.Ends
import PyProof.NeKinds
import HandS.More
import PyProof.ListStr
import HandS.HeadHook3
import PySem.Challenge.RW_turndoors_k09_texts_of_no_hall
set_option Elab.async false
set_option linter.all false
set_option maxRecDepth 100000
set_option maxHeartbeats 4000000
namespace Td
open PySem PySem.Spec PyProof.Rows L2
/-! ### a def of the text, its call -/
abbrev FnP (K : PySem.W.Frag) (x : Str) (st : Stmt) (f : Addr) (fd : FuncData) : Prop := FunD K x x (defArgs st) (defBody st) (defScope st) [] [] f fd
abbrev Cal (P : Program) (w : World) (K : PySem.W.Frag) (mg : Str → Option Value) (base : Heap) (k : Nat) (x : Str) (sp : Sp) : Prop := C8.Cal P w K mg base k x sp []
theorem cal_of {P : Program} {w : World} {K : PySem.W.Frag} {mg : Str → Option Value} {base : Heap} {k : Nat} {x : Str} {sp : Sp} {f : Addr} {fd : FuncData} {ps : List Str}
    (F : FnOk P w K mg base C8.CX0 k f fd ps sp) (hm : mg x = some (.ref f)) (kp : PySem.W.keepIn K (.ref f) = true) (b : Binds K fd ps []) : Cal P w K mg base k x sp := ⟨f, fd, ps, [], F, hm, kp, b, .nil⟩
/-! ### heaps: all but b stays -/
def Ch (b : Addr) (H H' : Hp) : Prop := ∀ a o, a ≠ b → H a = some o → H' a = some o
theorem Ch.refl (b : Addr) (H : Hp) : Ch b H H := fun _ _ _ h => h
theorem Ch.trans {b : Addr} {H H1 H2 : Hp} (x : Ch b H H1) (y : Ch b H1 H2) : Ch b H H2 := fun a o n h => y a o n (x a o n h)
theorem Ch.of {b : Addr} {H H1 : Hp} (x : Same H H1) : Ch b H H1 := fun a o _ h => x a o h
theorem same_new {H : Hp} {p : Addr} (h : H p = none) (o : HO) : Same H (upd H p o) := fun b u q => by rw [upd_ne (ne_of_none q h)]; exact q
theorem Ch.new {b p : Addr} {H H1 : Hp} (x : Ch b H H1) (h : H1 p = none) (o : HO) : Ch b H (upd H1 p o) := x.trans (Ch.of (same_new h o))
theorem Ch.upd {b : Addr} {H H1 : Hp} (x : Ch b H H1) (o : HO) : Ch b H (upd H1 b o) := fun a u n h => by rw [upd_ne n]; exact x a u n h
theorem Ch.none {b p : Addr} {H H1 : Hp} (x : Ch b H H1) (hb : p ≠ b) (h : H1 p = none) : H p = none := by
  cases q : H p with
  | none => rfl
  | some o => rw [x p o hb q] at h; cases h
/-- the box of the law's drawing -/
def Box (H : Hp) (b : Addr) : Prop := ∃ c s n : Int, H b = some (.lst [.int c, .int s, .int n]) ∧ 0 ≤ c
theorem Box.new {H : Hp} {b p : Addr} (B : Box H b) (h : H p = none) (o : HO) : Box (upd H p o) b := by
  obtain ⟨c, s, n, e, z⟩ := B
  exact ⟨c, s, n, by rw [upd_ne (ne_of_none e h)]; exact e, z⟩
theorem Box.ne {H : Hp} {b p : Addr} (B : Box H b) (h : H p = none) : p ≠ b := by
  obtain ⟨c, s, n, e, z⟩ := B
  exact fun q => by rw [q, e] at h; cases h
theorem Box.neT {H : Hp} {b p : Addr} {xs : List V} (B : Box H b) (h : H p = some (.tup xs)) : p ≠ b := by
  obtain ⟨c, s, n, e, z⟩ := B
  exact fun q => by rw [q, e] at h; cases h
/-! ### promises of the law's drawing -/
def spBox (K : PySem.W.Frag) : Sp := fun vs H Q _ => ∃ (a : Addr) (ns : List Int) (k : Int), vs = [.ref a, .int k] ∧ SqL K H a (ns.map V.int) ∧ ns.length ≤ 63 ∧ 0 ≤ k ∧ ∀ p H', Same H H' → H p = none → Box H' p → Q (.ref p) H'
def spTake : Sp := fun vs H Q _ => ∃ (b : Addr) (m : Int), vs = [.ref b, .int m] ∧ Box H b ∧ 0 < m ∧ m < 1073741824 ∧ ∀ r H', 0 ≤ r → r < m → Box H' b → Ch b H H' → Q (.int r) H'
/-- a name: one to six small letters -/
def Nm (x : Str) : Prop := 1 ≤ x.length ∧ x.length ≤ 6 ∧ ∀ c ∈ x.cps.toList, 97 ≤ c ∧ c ≤ 122
def spNames : Sp := fun vs H Q _ => ∃ (b : Addr) (m : Int), vs = [.ref b, .int m] ∧ Box H b ∧ 1 ≤ m ∧ m ≤ 26 ∧
  ∀ (p : Addr) (ss : List Str) H', H p = none → H' p = some (.lst (ss.map V.str)) → ss.length = m.toNat → ss.Nodup → (∀ x ∈ ss, Nm x) → Box H' b → Ch b H H' → Q (.ref p) H'
/-! ### the drawn names -/
abbrev letters : Str := "abcdefghijklmnopqrstuvwxyz"
theorem letter_nat : ∀ n : Fin 26, letters.cps.toList[n.val]? = some (97 + n.val) := by decide +kernel
theorem letter {i : Int} (h0 : 0 ≤ i) (h1 : i < 26) : atI letters.cps.toList i = some (97 + i.toNat) := by
  obtain ⟨n, rfl⟩ : ∃ n : Nat, i = (n : Int) := ⟨i.toNat, by omega⟩
  have e := letter_nat ⟨n, by omega⟩
  rw [atI_nat e]
  rfl
def low (l : List Nat) : Prop := ∀ c ∈ l, 97 ≤ c ∧ c ≤ 122
def nk (st : List Nat) (a : Nat) (fi se : Int) (k : Nat) : List Nat := st.take a ++ ([97 + ((fi + se * (k : Int)) % 26).toNat] ++ st.drop a)
theorem nk_low {st : List Nat} {a : Nat} {fi se : Int} {k : Nat} (h : low st) : low (nk st a fi se k) := fun c hc => by
  unfold nk at hc
  rcases List.mem_append.mp hc with hc | hc
  · exact h c (List.mem_of_mem_take hc)
  · rcases List.mem_append.mp hc with hc | hc
    · have e := List.mem_singleton.mp hc
      have z := Int.emod_lt_of_pos (fi + se * (k : Int)) (show (0 : Int) < 26 by decide)
      have y := Int.emod_nonneg (fi + se * (k : Int)) (show (26 : Int) ≠ 0 by decide)
      omega
    · exact h c (List.mem_of_mem_drop hc)
theorem nk_len {st : List Nat} {a : Nat} {fi se : Int} {k : Nat} : (nk st a fi se k).length = st.length + 1 := by
  unfold nk
  rw [List.length_append, List.length_append, List.length_take, List.length_drop, List.length_singleton]
  omega
def okStep (se : Int) : Prop := se = 7 ∨ se = 1 ∨ se = 11 ∨ se = 25
theorem nk_inj {st : List Nat} {a : Nat} {fi se : Int} {i j : Nat} (hs : okStep se) (hi : i < 26) (hj : j < 26) (e : nk st a fi se i = nk st a fi se j) : i = j := by
  unfold nk at e
  have e1 := List.append_cancel_left e
  have e2 := List.append_cancel_right e1
  have e3 : 97 + ((fi + se * (i : Int)) % 26).toNat = 97 + ((fi + se * (j : Int)) % 26).toNat := by
    injection e2
  have z := Int.emod_nonneg (fi + se * (i : Int)) (show (26 : Int) ≠ 0 by decide)
  have y := Int.emod_nonneg (fi + se * (j : Int)) (show (26 : Int) ≠ 0 by decide)
  have e4 : (fi + se * (i : Int)) % 26 = (fi + se * (j : Int)) % 26 := by omega
  rcases hs with rfl | rfl | rfl | rfl <;> omega
theorem nm_S {l : List Nat} (h : low l) (h1 : 1 ≤ l.length) (h2 : l.length ≤ 6) : Nm (SX.S l) := ⟨by rw [SX.S_len]; exact h1, by rw [SX.S_len]; exact h2, h⟩
def nks (st : List Nat) (a : Nat) (fi se : Int) (n : Nat) : List Str := (List.range n).map fun k => SX.S (nk st a fi se k)
theorem nks_succ {st : List Nat} {a : Nat} {fi se : Int} {n : Nat} : nks st a fi se (n + 1) = nks st a fi se n ++ [SX.S (nk st a fi se n)] := by
  unfold nks
  rw [List.range_succ, List.map_append]
  rfl
theorem nks_len {st : List Nat} {a : Nat} {fi se : Int} {n : Nat} : (nks st a fi se n).length = n := by
  unfold nks
  rw [List.length_map, List.length_range]
theorem nks_nm {st : List Nat} {a : Nat} {fi se : Int} {n : Nat} (h : low st) (h5 : st.length ≤ 5) : ∀ x ∈ nks st a fi se n, Nm x := fun x hx => by
  unfold nks at hx
  obtain ⟨k, _, rfl⟩ := List.mem_map.mp hx
  exact nm_S (nk_low h) (by rw [nk_len]; omega) (by rw [nk_len]; omega)
theorem nks_nd {st : List Nat} {a : Nat} {fi se : Int} (hs : okStep se) : ∀ {n : Nat}, n ≤ 26 → (nks st a fi se n).Nodup
  | 0, _ => List.nodup_nil
  | n + 1, h => by
    rw [nks_succ]
    refine List.nodup_append.mpr ⟨nks_nd hs (by omega), List.nodup_cons.mpr ⟨by simp, List.nodup_nil⟩, fun x hx y hy e => ?_⟩
    rw [List.mem_singleton.mp hy] at e
    unfold nks at hx
    obtain ⟨k, hk, rfl⟩ := List.mem_map.mp hx
    have hk2 : k < n := List.mem_range.mp hk
    have e2 := nk_inj hs (by omega) (by omega) (SX.S_inj e)
    omega
theorem set_nd {l : List Str} {i : Nat} {x : Str} (h : l.Nodup) (hx : x ∉ l) : (l.set i x).Nodup := by
  induction l generalizing i with
  | nil => exact List.nodup_nil
  | cons y l ih =>
    obtain ⟨h1, h2⟩ := List.nodup_cons.mp h
    cases i with
    | zero => exact List.nodup_cons.mpr ⟨fun z => hx (List.mem_cons_of_mem _ z), h2⟩
    | succ i =>
      refine List.nodup_cons.mpr ⟨fun z => ?_, ih h2 fun z => hx (List.mem_cons_of_mem _ z)⟩
      rcases List.mem_or_eq_of_mem_set z with z | z
      · exact h1 z
      · exact hx (by rw [← z]; exact List.mem_cons_self ..)
theorem join_nil : ∀ cs : List Nat, TL.joinL [] (cs.map fun c => [c]) = cs
  | [] => rfl
  | [c] => rfl
  | c :: d :: r => by
    have e := join_nil (d :: r)
    show [c] ++ ([] ++ TL.joinL [] ([d] :: r.map fun c => [c])) = c :: d :: r
    have e2 : TL.joinL [] ([d] :: r.map fun c => [c]) = d :: r := e
    rw [e2]
    rfl
theorem inV_str {x : Str} {xs : List Str} : inV (.str x) (xs.map V.str) = decide (x ∈ xs) := by
  induction xs with
  | nil => rfl
  | cons y ys ih =>
    show (eqV (.str y) (.str x) || inV (.str x) (ys.map V.str)) = decide (x ∈ y :: ys)
    have e : eqV (.str y) (.str x) = (y == x) := rfl
    rw [ih, e]
    by_cases h : y = x
    · subst h
      simp
    · have h2 : ¬ x = y := fun z => h z.symm
      simp [h, h2]
theorem flat_strs (xs : List Str) : (xs.map V.str).all flatV = true := by
  induction xs with
  | nil => rfl
  | cons y ys ih => exact ih
theorem yes_ {σ : L2.St} {H : Hp} {Q : Bool → Hp → Prop} (h : Q true H) : tYes σ H Q := h
theorem lcY {σ : L2.St} {H : Hp} {A B : Hp → Prop} (h : A H) : tYes σ H (fun b H3 => if b = true then A H3 else B H3) := by
  show (if true = true then A H else B H)
  rw [if_pos rfl]
  exact h
/-! ### halls, states: a tuple of texts, a tuple of tuples of texts -/
def RowsAt (H : Hp) (as : List Addr) (rows : List (List Str)) : Prop := as.length = rows.length ∧ ∀ (i : Nat) (a : Addr) (r : List Str), as[i]? = some a → rows[i]? = some r → H a = some (.tup (r.map V.str))
def Rows (H : Hp) (d : Addr) (rows : List (List Str)) : Prop := ∃ as : List Addr, H d = some (.tup (as.map V.ref)) ∧ RowsAt H as rows
def HS (H : Hp) (h : Addr) (ss : List Str) (rows : List (List Str)) : Prop := ∃ r d : Addr, H h = some (.tup [.ref r, .ref d]) ∧ H r = some (.tup (ss.map V.str)) ∧ Rows H d rows
/-- tuples stay -/
def Tu (H H' : Hp) : Prop := ∀ a xs, H a = some (.tup xs) → H' a = some (.tup xs)
theorem Tu.refl (H : Hp) : Tu H H := fun _ _ h => h
theorem Tu.trans {H H1 H2 : Hp} (x : Tu H H1) (y : Tu H1 H2) : Tu H H2 := fun a xs h => y a xs (x a xs h)
theorem Tu.of {b : Addr} {H H' : Hp} (x : Ch b H H') (B : Box H b) : Tu H H' := fun a _ h => x a _ (B.neT h) h
theorem Tu.same {H H' : Hp} (x : Same H H') : Tu H H' := fun a _ h => x a _ h
theorem Tu.new {H : Hp} {p : Addr} (h : H p = none) (o : HO) : Tu H (upd H p o) := Tu.same (same_new h o)
theorem RowsAt.tu {H H' : Hp} {as : List Addr} {rows : List (List Str)} (x : Tu H H') (h : RowsAt H as rows) : RowsAt H' as rows := ⟨h.1, fun i a r e1 e2 => x _ _ (h.2 i a r e1 e2)⟩
theorem Rows.tu {H H' : Hp} {d : Addr} {rows : List (List Str)} (x : Tu H H') (h : Rows H d rows) : Rows H' d rows := by
  obtain ⟨as, h1, h2⟩ := h
  exact ⟨as, x _ _ h1, h2.tu x⟩
theorem HS.tu {H H' : Hp} {h : Addr} {ss : List Str} {rows : List (List Str)} (x : Tu H H') (y : HS H h ss rows) : HS H' h ss rows := by
  obtain ⟨r, d, h1, h2, h3⟩ := y
  exact ⟨r, d, x _ _ h1, x _ _ h2, h3.tu x⟩
theorem RowsAt.nil {H : Hp} : RowsAt H [] [] := ⟨rfl, fun i a r e => by cases e⟩
theorem RowsAt.snoc {H : Hp} {as : List Addr} {rows : List (List Str)} {a : Addr} {r : List Str} (h : RowsAt H as rows) (ha : H a = some (.tup (r.map V.str))) : RowsAt H (as ++ [a]) (rows ++ [r]) := by
  refine ⟨by rw [List.length_append, List.length_append, h.1]; rfl, fun i b s e1 e2 => ?_⟩
  by_cases hi : i < as.length
  · rw [List.getElem?_append_left hi] at e1
    rw [List.getElem?_append_left (by rw [← h.1]; exact hi)] at e2
    exact h.2 i b s e1 e2
  · have hl := h.1
    rw [List.getElem?_append_right (by omega)] at e1 e2
    have hi2 : i = as.length := by
      have z := (List.getElem?_eq_some_iff.mp e1).1
      rw [List.length_singleton] at z
      omega
    subst hi2
    rw [Nat.sub_self] at e1
    rw [hl, Nat.sub_self] at e2
    cases e1
    cases e2
    exact ha
structure HallV (rooms : List Str) (rows : List (List Str)) : Prop where
  r1 : 1 ≤ rooms.length
  r8 : rooms.length ≤ 8
  nd : rooms.Nodup
  nm : ∀ x ∈ rooms, Nm x
  d12 : rows.length ≤ 12
  row : ∀ r ∈ rows, ∃ n a b : Str, r = [n, a, b] ∧ Nm n ∧ a ∈ rooms ∧ b ∈ rooms ∧ a ≠ b
  dn : (rows.map fun r => r.headD "").Nodup
def spHall : Sp := fun vs H Q _ => ∃ (b : Addr) (m1 m2 : Int), vs = [.ref b, .int m1, .int m2] ∧ Box H b ∧ 1 ≤ m1 ∧ m1 ≤ 8 ∧ 0 ≤ m2 ∧ m2 ≤ 12 ∧
  ∀ p rooms rows H', HS H' p rooms rows → HallV rooms rows → (rooms.length : Int) ≤ m1 → (rows.length : Int) ≤ m2 → Box H' b → Ch b H H' → Q (.ref p) H'
theorem nodup_sub : ∀ {l m : List Str}, l.Nodup → (∀ x ∈ l, x ∈ m) → l.length ≤ m.length
  | [], _, _, _ => Nat.zero_le _
  | x :: l, m, h, s => by
    obtain ⟨h1, h2⟩ := List.nodup_cons.mp h
    have hx := s x (List.mem_cons_self ..)
    have e := nodup_sub (m := m.erase x) h2 fun y hy => (List.mem_erase_of_ne (fun z => h1 (by rw [← z]; exact hy))).mpr (s y (List.mem_cons_of_mem _ hy))
    have e2 := List.length_erase_of_mem hx
    have e3 : 0 < m.length := List.length_pos_of_mem hx
    rw [List.length_cons]
    omega
theorem titles_nd {ns ts : List Str} (hn : ns.Nodup) (ht : ts.Nodup) : (ns ++ ts.filter fun t => !decide (t ∈ ns)).Nodup := by
  refine List.nodup_append.mpr ⟨hn, ht.filter _, fun x hx y hy e => ?_⟩
  have z := (List.mem_filter.mp hy).2
  rw [← e, decide_eq_true hx] at z
  cases z
theorem filter_two (p : Str → Bool) : ∀ l : List Str, (l.filter p).length + (l.filter fun t => !p t).length = l.length
  | [] => rfl
  | x :: l => by
    have e := filter_two p l
    rw [List.filter_cons, List.filter_cons]
    cases h : p x
    · simp only [Bool.not_false, if_true, Bool.false_eq_true, if_false, List.length_cons]
      omega
    · simp only [Bool.not_true, if_true, Bool.false_eq_true, if_false, List.length_cons]
      omega
theorem titles_len {ns ts : List Str} (ht : ts.Nodup) : ts.length ≤ (ns ++ ts.filter fun t => !decide (t ∈ ns)).length := by
  have e := filter_two (fun t => decide (t ∈ ns)) ts
  have e2 : (ts.filter fun t => decide (t ∈ ns)).length ≤ ns.length := nodup_sub (ht.filter _) fun x hx => of_decide_eq_true (List.mem_filter.mp hx).2
  rw [List.length_append]
  omega
theorem titles_nm {ns ts : List Str} (hn : ∀ x ∈ ns, Nm x) (ht : ∀ x ∈ ts, Nm x) : ∀ x ∈ (ns ++ ts.filter fun t => !decide (t ∈ ns)), Nm x := fun x hx => by
  rcases List.mem_append.mp hx with h | h
  · exact hn x h
  · exact ht x (List.mem_filter.mp h).1
theorem atS {ss : List Str} {j : Int} (h0 : 0 ≤ j) (h1 : j < (ss.length : Int)) : ∃ x, ss[j.toNat]? = some x ∧ atI (ss.map V.str) j = some (.str x) := by
  obtain ⟨m, rfl⟩ : ∃ m : Nat, j = (m : Int) := ⟨j.toNat, by omega⟩
  have hj : m < ss.length := by omega
  exact ⟨ss[m], List.getElem?_eq_getElem hj, atI_nat (by rw [List.getElem?_map, List.getElem?_eq_getElem hj]; rfl)⟩
theorem Box.upd {H : Hp} {b p : Addr} (B : Box H b) (h : p ≠ b) (o : HO) : Box (upd H p o) b := by
  obtain ⟨c, s, n, e, z⟩ := B
  exact ⟨c, s, n, by rw [upd_ne h.symm]; exact e, z⟩
/-- a store to what H0 does not know -/
theorem Ch.mut {b p : Addr} {H0 H : Hp} (x : Ch b H0 H) (h : H0 p = Option.none) (o : HO) : Ch b H0 (L2.upd H p o) := fun a u na ha => by
  rw [upd_ne (ne_of_none ha h)]
  exact x a u na ha
/-! ### names in ascending order -/
def Up : Str → List Str → Prop
  | _, [] => True
  | p, x :: r => p.cps.toList < x.cps.toList ∧ Up x r
theorem lt_of_not {a b : Str} (h : PySem.Spec.ltCps b.cps.toList a.cps.toList = false) (hn : a ≠ b) : a.cps.toList < b.cps.toList := by
  rw [PyProof.Rows.ltCps_eq] at h
  have h1 : ¬ b.cps.toList < a.cps.toList := of_decide_eq_false h
  by_cases h2 : a.cps.toList < b.cps.toList
  · exact h2
  · exact absurd (TL.ext_tl (List.le_antisymm (show a.cps.toList ≤ b.cps.toList from h1) (show b.cps.toList ≤ a.cps.toList from h2))) hn
theorem up_rising : ∀ {r : List Str} {p : Str}, risingS p r = true → (p :: r).Nodup → Up p r
  | [], _, _, _ => True.intro
  | x :: r, p, h, hn => by
    have h1 : (!PySem.Spec.ltCps x.cps.toList p.cps.toList && risingS x r) = true := h
    rw [Bool.and_eq_true, Bool.not_eq_true'] at h1
    obtain ⟨n1, n2⟩ := List.nodup_cons.mp hn
    exact ⟨lt_of_not h1.1 fun e => n1 (by rw [e]; exact List.mem_cons_self ..), up_rising h1.2 n2⟩
theorem nil_lt {x : Str} (h : 1 ≤ x.length) : ("" : Str).cps.toList < x.cps.toList := by
  have e : ("" : Str).cps.toList = [] := by decide
  rw [e]
  have h2 : 1 ≤ x.cps.toList.length := by
    rw [Array.length_toList]
    exact h
  generalize x.cps.toList = l at h2
  cases l with
  | nil => cases h2
  | cons c l => exact List.Lex.nil
theorem up_sorted {ys : List Str} (h : sortedS ys = true) (hn : ys.Nodup) (h1 : ∀ y ∈ ys, Nm y) : Up "" ys := by
  cases ys with
  | nil => exact True.intro
  | cons x r => exact ⟨nil_lt (h1 x (List.mem_cons_self ..)).1, up_rising h hn⟩
structure StV (rooms : List Str) (rows : List (List Str)) (faces : List Str) (places : List (List Str)) : Prop where
  fl : faces.length = rows.length
  fc : ∀ (i : Nat) (f : Str) (r : List Str), faces[i]? = some f → rows[i]? = some r → ∃ n a b : Str, r = [n, a, b] ∧ (f = a ∨ f = b)
  p5 : places.length ≤ 5
  pl : ∀ p ∈ places, ∃ w r : Str, p = [w, r] ∧ Nm w ∧ r ∈ rooms
  up : Up "" (places.map fun p => p.headD "")
def spState : Sp := fun vs H Q _ => ∃ (b h : Addr) (m : Int) (rooms : List Str) (rows : List (List Str)), vs = [.ref b, .ref h, .int m] ∧ Box H b ∧ HS H h rooms rows ∧ HallV rooms rows ∧ 0 ≤ m ∧ m ≤ 5 ∧
  ∀ p faces places H', HS H' p faces places → StV rooms rows faces places → (places.length : Int) ≤ m → Box H' b → Ch b H H' → Q (.ref p) H'
theorem cut_to {xs : List V} {m : Int} (h : 0 ≤ m) : cutV xs none (some m) = xs.take m.toNat := by
  obtain ⟨k, rfl⟩ : ∃ k : Nat, m = (k : Int) := ⟨m.toNat, by omega⟩
  unfold cutV
  rw [HT.sIx_none, HT.sIx_nat, List.drop_zero, Nat.sub_zero, Int.toNat_natCast]
  by_cases g : k ≤ xs.length
  · rw [Nat.min_eq_left g]
  · rw [Nat.min_eq_right (by omega), List.take_of_length_le (Nat.le_refl _), List.take_of_length_le (by omega)]
theorem RowsAt.row {H : Hp} {as : List Addr} {rows : List (List Str)} (h : RowsAt H as rows) {i : Nat} {x : V} (hx : (as.map V.ref)[i]? = some x) : ∃ a r, x = .ref a ∧ rows[i]? = some r ∧ H a = some (.tup (r.map V.str)) := by
  rw [List.getElem?_map] at hx
  cases z : as[i]? with
  | none => rw [z] at hx; cases hx
  | some a =>
    rw [z] at hx
    have hi : i < rows.length := by
      rw [← h.1]
      exact (List.getElem?_eq_some_iff.mp z).1
    exact ⟨a, rows[i], (Option.some.inj hx).symm, List.getElem?_eq_getElem hi, h.2 i a _ z (List.getElem?_eq_getElem hi)⟩
theorem str_at {ss : List Str} {i : Nat} {x : V} (hx : (ss.map V.str)[i]? = some x) : ∃ t, ss[i]? = some t ∧ x = .str t := by
  rw [List.getElem?_map] at hx
  cases z : ss[i]? with
  | none => rw [z] at hx; cases hx
  | some t => rw [z] at hx; exact ⟨t, rfl, (Option.some.inj hx).symm⟩
theorem take_snoc {α : Type} {l : List α} {i : Nat} {x : α} (h : l[i]? = some x) : l.take (i + 1) = l.take i ++ [x] := by
  rw [List.take_succ, h]
  rfl
theorem sz100 {n : Nat} (h : n ≤ 1000) : n < sizeLine := small1000 h
/-! ### what some calls ask, by K alone -/
abbrev rLn (K : PySem.W.Frag) : List V → Hp → VK → Prop := fun xs H Q => ∃ p ys, xs = [.ref p] ∧ (SqL K H p ys ∨ SqT K H p ys) ∧ Q (.int ys.length) H
abbrev rTpOf (K : PySem.W.Frag) : List V → Hp → VK → Prop := fun xs H Q => ∃ p ys, xs = [.ref p] ∧ ((SqL K H p ys ∧ ∀ l, H l = none → Q (.ref l) (L2.upd H l (.tup ys))) ∨ (SqT K H p ys ∧ Q (.ref p) H))
abbrev rLsOf (K : PySem.W.Frag) : List V → Hp → VK → Prop := fun xs H Q => ∃ p ys, xs = [.ref p] ∧ (SqL K H p ys ∨ SqT K H p ys) ∧ ∀ l, H l = none → Q (.ref l) (L2.upd H l (.lst ys))
abbrev rJn (K : PySem.W.Frag) : V → List V → Hp → VK → Prop := fun x xs H Q => ∃ a p, ∃ ys : List Str, x = .str a ∧ xs = [.ref p] ∧ (SqL K H p (ys.map V.str) ∨ SqT K H p (ys.map V.str)) ∧ (ys.map (·.length)).sum + ys.length * a.length ≤ 16777216 ∧ Q (.str (Txt.join a ys)) H
/-! ### any walk in a comprehension, in a for -/
theorem lc_gen {J : It} {n : Nat} {g : TG} {tt : TT} {te : TE} {vs : List Nat} {σ : L2.St} {H1 : Hp} {D : Addr} {Qd : Hp → Prop} (Pv : Nat → Hp → Prop) (h0 : Pv 0 (L2.upd H1 D (.lst [])))
    (hs : ∀ i H, i < n → Pv i H → J.go i H ∧ ∀ x H', J.yld i H x H' → g x (wipe σ vs) H' fun σ2 H2 => wipe σ2 vs = wipe σ vs ∧ tt σ2 H2 fun b H3 =>
      if b = true then te σ2 H3 fun y H4 => ∃ acc, H4 D = some (.lst acc) ∧ acc.length < sizeLine ∧ Pv (i + 1) (L2.upd H4 D (.lst (acc ++ [y]))) else Pv (i + 1) H3) (hd : ∀ H, Pv n H → J.stop n H ∧ Qd H) :
    ∃ W : Nat → Nat → Hp → Prop, (∃ m, W 0 m (L2.upd H1 D (.lst []))) ∧ ∀ i m H, W i m H →
      (J.stop i H ∧ Qd H) ∨ (J.go i H ∧ ∃ Nx : Hp → Prop, (∀ H', Nx H' → ∃ m', m' < m ∧ W (i + 1) m' H') ∧ ∀ x H', J.yld i H x H' → g x (wipe σ vs) H' fun σ2 H2 => wipe σ2 vs = wipe σ vs ∧ tt σ2 H2 fun b H3 =>
        if b = true then te σ2 H3 fun y H4 => ∃ acc, H4 D = some (.lst acc) ∧ acc.length < sizeLine ∧ Nx (L2.upd H4 D (.lst (acc ++ [y]))) else Nx H3) := by
  refine ⟨fun i m H => m = n - i ∧ i ≤ n ∧ Pv i H, ⟨n, by simp, Nat.zero_le _, h0⟩, ?_⟩
  rintro i m H ⟨rfl, hi, p⟩
  by_cases hlt : i < n
  · obtain ⟨g1, g2⟩ := hs i H hlt p
    exact .inr ⟨g1, Pv (i + 1), fun H' p' => ⟨n - (i + 1), by omega, rfl, hlt, p'⟩, g2⟩
  · have e : i = n := by omega
    subst e
    exact .inl (hd H p)
theorem for_gen {J : It} {n : Nat} {g : TG} {tb : TS} {D : Ends} {σ : L2.St} {H : Hp} (Pv : Nat → L2.St → Hp → Prop) (h0 : Pv 0 σ H)
    (hs : ∀ i σ H, i < n → Pv i σ H → J.go i H ∧ ∀ x H', J.yld i H x H' → g x σ H' fun σ2 H2 => tb { D with nx := Pv (i + 1), ct := Pv (i + 1), bk := D.nx } σ2 H2) (hd : ∀ σ H, Pv n σ H → J.stop n H ∧ D.nx σ H) :
    ∃ W : Nat → Nat → L2.St → Hp → Prop, (∃ m, W 0 m σ H) ∧ ∀ i m σ H, W i m σ H →
      (J.stop i H ∧ D.nx σ H) ∨ (J.go i H ∧ ∃ N : L2.St → Hp → Prop, (∀ σ' H', N σ' H' → ∃ m', m' < m ∧ W (i + 1) m' σ' H') ∧ ∀ x H', J.yld i H x H' → g x σ H' fun σ2 H2 => tb { D with nx := N, ct := N, bk := D.nx } σ2 H2) := by
  refine ⟨fun i m σ H => m = n - i ∧ i ≤ n ∧ Pv i σ H, ⟨n, by simp, Nat.zero_le _, h0⟩, ?_⟩
  rintro i m σ H ⟨rfl, hi, p⟩
  by_cases hlt : i < n
  · obtain ⟨g1, g2⟩ := hs i σ H hlt p
    exact .inr ⟨g1, Pv (i + 1), fun σ' H' p' => ⟨n - (i + 1), by omega, rfl, hlt, p'⟩, g2⟩
  · have e : i = n := by omega
    subst e
    exact .inl (hd σ H p)
/-! ### data: texts, numbers, truth values, None, tuples of these -/
def Sc (x : V) (d : PyData) : Prop := (∃ s, x = .str s ∧ d = .str s) ∨ (∃ b, x = .bl b ∧ d = .bool b) ∨ (∃ i, x = .int i ∧ d = .int i) ∨ (x = .non ∧ d = .none)
def DR (H : Hp) : Nat → V → PyData → Prop
  | 0, _, _ => False
  | n + 1, x, d => Sc x d ∨ ∃ (a : Addr) (xs : List V) (ds : List PyData), x = .ref a ∧ d = .tuple ds ∧ H a = some (.tup xs) ∧ (xs.length = ds.length ∧ ds.length ≤ 1000) ∧ ∀ (i : Nat) (v : V) (e : PyData), xs[i]? = some v → ds[i]? = some e → DR H n v e
theorem DR.tu {H H' : Hp} (t : Tu H H') : ∀ {n : Nat} {x : V} {d : PyData}, DR H n x d → DR H' n x d
  | 0, _, _, h => h
  | n + 1, x, d, h => by
    rcases h with h | ⟨a, xs, ds, e1, e2, h1, h2, h3⟩
    · exact .inl h
    · exact .inr ⟨a, xs, ds, e1, e2, t _ _ h1, h2, fun i v e a1 a2 => DR.tu t (h3 i v e a1 a2)⟩
theorem Sc.eq {x y : V} {d : PyData} (h1 : Sc x d) (h2 : Sc y d) : x = y := by
  rcases h1 with ⟨s, rfl, rfl⟩ | ⟨s, rfl, rfl⟩ | ⟨s, rfl, rfl⟩ | ⟨rfl, rfl⟩ <;> rcases h2 with ⟨t, rfl, e⟩ | ⟨t, rfl, e⟩ | ⟨t, rfl, e⟩ | ⟨rfl, e⟩ <;> first | rfl | (injection e with e; subst e; rfl) | (cases e)
theorem Sc.not_tup {x : V} {ds : List PyData} (h : Sc x (.tuple ds)) : False := by
  rcases h with ⟨s, _, e⟩ | ⟨s, _, e⟩ | ⟨s, _, e⟩ | ⟨_, e⟩ <;> cases e
theorem Sc.ty {K : PySem.W.Frag} {x : V} {d : PyData} (h : Sc x d) : ∃ t : String, (∀ H : Hp, TyX K H x (.type t)) ∧ scal x x = true ∧ (∃ b, PySem.W.kitOne K (.type t) (.type "bool") = some b) ∧ (∃ b, PySem.W.kitOne K (.type t) (.type "str") = some b) ∧
    PySem.W.kitOne K (.type t) (.type "tuple") = some false ∧ PySem.W.kitOne K (.type t) (.type "list") = some false ∧ PySem.W.kitOne K (.type t) (.type "dict") = some false := by
  rcases h with ⟨s, rfl, rfl⟩ | ⟨s, rfl, rfl⟩ | ⟨s, rfl, rfl⟩ | ⟨rfl, rfl⟩
  · exact ⟨"str", fun _ => .base (.str _), rfl, ⟨false, kit_ty (by decide +kernel)⟩, ⟨true, kit_ty (by decide +kernel)⟩, kit_ty (by decide +kernel), kit_ty (by decide +kernel), kit_ty (by decide +kernel)⟩
  · exact ⟨"bool", fun _ => .base (.bl _), rfl, ⟨true, kit_ty (by decide +kernel)⟩, ⟨false, kit_ty (by decide +kernel)⟩, kit_ty (by decide +kernel), kit_ty (by decide +kernel), kit_ty (by decide +kernel)⟩
  · exact ⟨"int", fun _ => .base (.int _), rfl, ⟨false, kit_ty (by decide +kernel)⟩, ⟨false, kit_ty (by decide +kernel)⟩, kit_ty (by decide +kernel), kit_ty (by decide +kernel), kit_ty (by decide +kernel)⟩
  · exact ⟨"NoneType", fun _ => .base .non, rfl, ⟨false, kit_ty (by decide +kernel)⟩, ⟨false, kit_ty (by decide +kernel)⟩, kit_ty (by decide +kernel), kit_ty (by decide +kernel), kit_ty (by decide +kernel)⟩
theorem kit_tl {K : PySem.W.Frag} : PySem.W.kitOne K (.type "tuple") (.type "tuple") = some true ∧ PySem.W.kitOne K (.type "tuple") (.type "list") = some false := ⟨kit_ty (by decide +kernel), kit_ty (by decide +kernel)⟩
theorem kit_false {K : PySem.W.Frag} {t : Value} : ∀ {cs : List Value}, (∀ c ∈ cs, PySem.W.kitOne K t c = some false) → PySem.W.kitAny K t cs = some false
  | [], _ => rfl
  | c :: cs, h => by
    unfold PySem.W.kitAny
    rw [h c (List.mem_cons_self ..)]
    exact kit_false fun z hz => h z (List.mem_cons_of_mem _ hz)
theorem kit_true {K : PySem.W.Frag} {t c : Value} {cs : List Value} (h : PySem.W.kitOne K t c = some true) : PySem.W.kitAny K t (c :: cs) = some true := by
  unfold PySem.W.kitAny
  rw [h]
/-- the promise of _law_alike for equal data: n - 1 the depth -/
def spAlike (n : Nat) : Sp := fun vs H Q _ => ∃ (x y : V) (d : PyData), vs = [x, y] ∧ DR H n x d ∧ DR H n y d ∧ ∀ H', Same H H' → Q (.bl true) H'
theorem all_rep : ∀ n : Nat, (List.replicate n true).all id = true
  | 0 => rfl
  | n + 1 => by
    rw [List.replicate_succ, List.all_cons, all_rep n]
    rfl
/-- a store to a list that H0 does not know -/
theorem same_mut {H0 H : Hp} {p : Addr} (x : Same H0 H) (h : H0 p = none) (o : HO) : Same H0 (upd H p o) := fun a u e => by
  rw [upd_ne (ne_of_none e h)]
  exact x a u e
end Td
set_option maxHeartbeats 4000000
namespace Td
open PySem PySem.Spec PyProof.Rows L2
def top (i : Nat) : Stmt := PySem.Challenge.pw_turndoors_k09_texts_of_no_hall.main.body.getD i (.Pass ⟨0, 0, 0, 0⟩)
section
variable {P : Program} {w : World} {K : PySem.W.Frag} {mg : Str → Option Value} {base : Heap} {f : Addr} {fd : FuncData}
abbrev s_law_take : Stmt := top 15
abbrev n_law_take : List Str := ["box", "many", "digit", "one"]
theorem sc_law_take : FnScope n_law_take ["box", "many"] (defScope s_law_take) := ⟨rfl, rfl, rfl, by decide +kernel, rfl, by decide +kernel, by decide +kernel⟩
theorem ok_law_take (F : FnP K "_law_take" s_law_take f fd) (hm : mg "_law_take" = some (.ref f)) :
    Cal P w K mg base 1 "_law_take" spTake := by
  refine cal_of (F.ok sc_law_take (fun vs H Q E h => ?_) (fun cdv A outer s H vs Q E hr h => ?_)) hm F.kp (F.bindsN (ps := ["box", "many"]) fun _ _ _ _ _ _ us hl => match us, hl with | [_, _], _ => rfl)
  · obtain ⟨b, m, rfl, ⟨c, sd, n, hb, hc⟩, h0, h1, q⟩ := h
    rfl
  obtain ⟨b, m, rfl, ⟨c, sd, n, hb, hc⟩, h0, h1, q⟩ := h
  have nd := sc_law_take.nd
  refine ⟨_, PSs.nox (pss_cons (ps_if (pt_cmpR op_gt (pe_ix (r := rIxL K) ix_list (pv 0) pe_int (fun _ _ => rfl)) pe_int (nomark _)) (pss_cons (ps_set (i := 2) nd rfl (Or.inl rfl) (pe_op op_mod (pe_ix (r := rIxL K) ix_list (pv 0) pe_int (fun _ _ => rfl)) (pv 1)))
    (pss_cons (ps_asg (pe_op op_fdivW (pe_ix (r := rIxL K) ix_list (pv 0) pe_int (fun _ _ => rfl)) (pv 1)) (pg_sub (pv 0) pe_int set_list))
    (pss_one (ps_ret (pv 2))))) pss_nil)
    (pss_cons (ps_asg (pe_op op_add (pe_ix (r := rIxL K) ix_list (pv 0) pe_int (fun _ _ => rfl)) pe_int) (pg_sub (pv 0) pe_int set_list))
    (pss_cons (ps_set (i := 3) nd rfl (Or.inl rfl) (pe_op op_mod (pe_op op_mul (pe_op op_add (pe_ix (r := rIxL K) ix_list (pv 0) pe_int (fun _ _ => rfl)) (pe_op op_mul pe_int (pe_ix (r := rIxL K) ix_list (pv 0) pe_int (fun _ _ => rfl)))) pe_int) pe_int))
    (pss_cons (ps_asg (pe_op op_add (pe_op op_mod (pe_op op_add (pe_op op_mul (pv 3) pe_int) pe_int) pe_int) pe_int) (pg_sub (pv 0) pe_int set_list))
    (pss_one (ps_ret (pe_op op_mod (pe_op op_fdiv (pe_op op_add (pe_op op_mul (pv 3) pe_int) (pe_ix (r := rIxL K) ix_list (pv 0) pe_int (fun _ _ => rfl))) pe_int) (pv 1)))))))), ?_⟩
  have a0 : ∀ (x y z : Int), atI ([.int x, .int y, .int z] : List V) 0 = some (.int x) := fun _ _ _ => atI_nat (j := 0) rfl
  have a1 : ∀ (x y z : Int), atI ([.int x, .int y, .int z] : List V) 1 = some (.int y) := fun _ _ _ => atI_nat (j := 1) rfl
  have a2 : ∀ (x y z : Int), atI ([.int x, .int y, .int z] : List V) 2 = some (.int z) := fun _ _ _ => atI_nat (j := 2) rfl
  refine ⟨_, rfl, b, _, _, _, rfl, rfl, SqL.of hb, a0 _ _ _, _, _, rfl, rfl, _, rfl, ?_⟩
  refine ite2 (fun g => ?_) (fun g => ?_)
  · have g' : 0 < c := of_decide_eq_true g
    refine ⟨_, rfl, b, _, _, _, rfl, rfl, SqL.of hb, a0 _ _ _, _, rfl, _, _, rfl, rfl, h0, ?_⟩
    refine ⟨_, rfl, b, _, _, _, rfl, rfl, SqL.of hb, a0 _ _ _, _, rfl, _, _, rfl, rfl, wide_div h0 (b := 30) (by omega) (by decide) (by decide), _, rfl, b, _, 0, 0, rfl, rfl, hb, rfl, ?_⟩
    refine ⟨_, rfl, ?_⟩
    exact q _ _ (Int.emod_nonneg _ (by omega)) (Int.emod_lt_of_pos _ h0) ⟨_, _, _, upd_same, Int.ediv_nonneg hc (by omega)⟩ ((Ch.refl b H).upd _)
  · refine ⟨_, rfl, b, _, _, _, rfl, rfl, SqL.of hb, a2 _ _ _, _, _, rfl, rfl, _, rfl, b, _, 2, 2, rfl, rfl, hb, rfl, ?_⟩
    refine ⟨_, rfl, b, _, _, _, rfl, rfl, SqL.of upd_same, a1 _ _ _, _, rfl, b, _, _, _, rfl, rfl, SqL.of upd_same, a2 _ _ _, _, _, rfl, rfl, .inl ⟨by decide, by decide⟩, _, _, rfl, rfl, _, _, rfl, rfl, .inr ⟨by decide, by decide⟩, _, _, rfl, rfl, (by show (0 : Int) < _; decide), ?_⟩
    refine ⟨_, rfl, _, _, rfl, rfl, .inr ⟨by decide, by decide⟩, _, _, rfl, rfl, _, _, rfl, rfl, (by show (0 : Int) < _; decide), _, _, rfl, rfl, _, rfl, b, _, 1, 1, rfl, rfl, upd_same, rfl, ?_⟩
    refine ⟨_, rfl, _, _, rfl, rfl, .inr ⟨by decide, by decide⟩, _, rfl, b, _, _, _, rfl, rfl, SqL.of upd_same, a1 _ _ _, _, _, rfl, rfl, _, _, rfl, rfl, ⟨by decide, by decide⟩, _, rfl, _, _, rfl, rfl, h0, ?_⟩
    exact q _ _ (Int.emod_nonneg _ (by omega)) (Int.emod_lt_of_pos _ h0) ⟨_, _, _, upd_same, hc⟩ (((Ch.refl b H).upd _).upd _)
abbrev s_law_box : Stmt := top 14
abbrev n_law_box : List Str := ["script", "k", "cell", "seed"]
theorem sc_law_box : FnScope n_law_box ["script", "k"] (defScope s_law_box) := ⟨rfl, rfl, rfl, by decide +kernel, rfl, by decide +kernel, by decide +kernel⟩
theorem ok_law_box (F : FnP K "_law_box" s_law_box f fd) (hm : mg "_law_box" = some (.ref f)) (m_int : mg "int" = none) (m_len : mg "len" = none) :
    Cal P w K mg base 1 "_law_box" (spBox K) := by
  refine cal_of (F.ok sc_law_box (fun vs H Q E h => ?_) (fun cdv A outer s H vs Q E hr h => ?_)) hm F.kp (F.bindsN (ps := ["script", "k"]) fun _ _ _ _ _ _ us hl => match us, hl with | [_, _], _ => rfl)
  · obtain ⟨a, ns, k, rfl, hS, h63, hk, q⟩ := h
    rfl
  obtain ⟨a, ns, k, rfl, hS, h63, hk, q⟩ := h
  have nd := sc_law_box.nd
  refine ⟨_, PSs.nox (pss_cons (ps_set (i := 2) nd rfl (Or.inl rfl) (pe_op op_add (pe_op op_mul pe_int (pv 1)) pe_int))
    (C8.pss_cut (ps_if (pt_cmpR op_lt (pv 1) (pe_callB (r := rLn K) call_len_seq (by rfl) m_len PySem.boot_len (pa_cons (pv 0) pa_nil)) (nomark _)) (pss_one (ps_set (i := 2) nd rfl (Or.inl rfl) (pe_ix (r := rIxL K) ix_list (pv 0) (pv 1) (fun _ _ => rfl)))) (pss_one (ps_if (pt_cmpR op_gt (pe_callB (r := rLn K) call_len_seq (by rfl) m_len PySem.boot_len (pa_cons (pv 0) pa_nil)) pe_int (nomark _)) (pss_one (ps_set (i := 2) nd rfl (Or.inl rfl) (pe_op op_add (pv 2) (pe_op op_mul (pe_op op_mod (pe_ix (r := rIxL K) ix_list (pv 0) (pe_op op_mod (pv 1) (pe_callB (r := rLn K) call_len_seq (by rfl) m_len PySem.boot_len (pa_cons (pv 0) pa_nil))) (fun _ _ => rfl)) pe_int) pe_int)))) pss_nil)))
    (pss_cons (ps_set (i := 3) nd rfl (Or.inl rfl) (pe_op op_add (pe_op op_mod (pe_op op_add (pe_op op_mul (pe_op op_mod (pv 2) pe_int) pe_int) (pe_op op_mul pe_int (pv 1))) pe_int) pe_int))
    (pss_one (ps_ret (pe_lst (pa_cons (pe_ix (r := rIxL K) ix_list (pe_lst (pa_cons pe_int (pa_cons (pv 2) pa_nil))) (pe_callTy call_int1 (by rfl) m_int (by decide +kernel) (pa_cons (pe_cmpR op_ge (pv 2) (pe_op op_pow pe_int pe_int) (nomark _)) pa_nil)) (fun _ _ => rfl)) (pa_cons (pv 3) (pa_cons pe_int pa_nil))))))))), ?_⟩
  have hl : (ns.map V.int).length = ns.length := List.length_map _
  have get : ∀ j : Int, 0 ≤ j → j < (ns.length : Int) → ∃ v : Int, atI (ns.map V.int) j = some (.int v) := fun j j0 j1 => by
    obtain ⟨m, rfl⟩ : ∃ m : Nat, j = (m : Int) := ⟨j.toNat, by omega⟩
    have hj : m < ns.length := by omega
    exact ⟨ns[m], atI_nat (by rw [List.getElem?_map, List.getElem?_eq_getElem hj]; rfl)⟩
  refine ⟨_, rfl, _, _, rfl, rfl, .inl ⟨by decide, by decide⟩, _, _, rfl, rfl, ?_⟩
  refine ⟨fun σ' H' => H' = H ∧ ∃ c : Int, σ' = [some (.ref a), some (.int k), some (.int c), none], ?_, ?_⟩
  · refine ⟨_, rfl, _, rfl, a, _, rfl, .inl hS, _, _, rfl, rfl, _, rfl, ?_⟩
    rw [hl]
    refine ite2 (fun g => ?_) (fun g => ?_)
    · have g' : k < (ns.length : Int) := of_decide_eq_true g
      obtain ⟨v, hv⟩ := get k hk g'
      exact ⟨_, rfl, _, rfl, a, _, _, _, rfl, rfl, hS, hv, rfl, v, rfl⟩
    · refine ⟨_, rfl, a, _, rfl, .inl hS, _, _, rfl, rfl, _, rfl, ?_⟩
      rw [hl]
      refine ite2 (fun g2 => ?_) (fun g2 => ?_)
      · have g2' : 0 < (ns.length : Int) := of_decide_eq_true g2
        obtain ⟨v, hv⟩ := get (k % (ns.length : Int)) (Int.emod_nonneg _ (by omega)) (Int.emod_lt_of_pos _ g2')
        refine ⟨_, rfl, _, rfl, _, rfl, _, rfl, a, _, rfl, .inl hS, _, _, rfl, rfl, (by rw [hl]; exact g2'), a, _, _, _, rfl, rfl, hS, (by rw [hl]; exact hv), _, _, rfl, rfl, (by show (0 : Int) < _; decide), _, _, rfl, rfl, .inr ⟨by decide, by decide⟩, _, _, rfl, rfl, rfl, _, rfl⟩
      · exact ⟨rfl, _, rfl⟩
  · rintro σ' H' ⟨rfl, c, rfl⟩
    refine ⟨_, rfl, _, _, rfl, rfl, (by show (0 : Int) < _; decide), _, _, rfl, rfl, .inr ⟨by decide, by decide⟩, _, rfl, _, _, rfl, rfl, .inl ⟨by decide, by decide⟩, _, _, rfl, rfl, _, _, rfl, rfl, (by show (0 : Int) < _; decide), _, _, rfl, rfl, ?_⟩
    refine ⟨_, rfl, (by show 2 ≤ sizeLine; decide), fun p hp => ?_⟩
    refine ⟨_, rfl, _, _, rfl, rfl, (by show (0 : Int) ≤ _ ∧ _ ≤ _ ∧ _ < _; decide), _, _, rfl, rfl, .inr ⟨_, rfl, ?_⟩⟩
    refine ⟨p, _, _, (if c ≥ 10 ^ (18 : Int).toNat then .int c else .int 0), rfl, rfl, SqL.of upd_same, ?_, ?_⟩
    · by_cases g : c ≥ 10 ^ (18 : Int).toNat
      · rw [if_pos g, decide_eq_true g]
        exact atI_nat (j := 1) rfl
      · rw [if_neg g, decide_eq_false g]
        exact atI_nat (j := 0) rfl
    refine ⟨_, rfl, (by show 3 ≤ sizeLine; decide), fun p2 hp2 => ?_⟩
    refine q _ _ ((same_new hp _).trans (same_new hp2 _)) ((same_new hp _).free hp2) ?_
    by_cases g : c ≥ 10 ^ (18 : Int).toNat
    · rw [if_pos g]
      exact ⟨_, _, _, upd_same, Int.le_trans (by decide) g⟩
    · rw [if_neg g]
      exact ⟨_, _, _, upd_same, Int.le_refl 0⟩
end
end Td
set_option maxHeartbeats 4000000
namespace Td
open PySem PySem.Spec PyProof.Rows L2
section
variable {P : Program} {w : World} {K : PySem.W.Frag} {mg : Str → Option Value} {base : Heap} {f : Addr} {fd : FuncData}
abbrev s_law_names : Stmt := top 16
abbrev n_law_names : List Str := ["box", "many", "letters", "words", "k", "stem", "at", "first", "step", "names", "sign", "spot", "word"]
theorem sc_law_names : FnScope n_law_names ["box", "many"] (defScope s_law_names) := ⟨rfl, rfl, rfl, by decide +kernel, rfl, by decide +kernel, by decide +kernel⟩
theorem ok_law_names (F : FnP K "_law_names" s_law_names f fd) (hm : mg "_law_names" = some (.ref f)) (c_law_take : Cal P w K mg base 1 "_law_take" spTake) (m_int : mg "int" = none) (m_len : mg "len" = none) (m_range : mg "range" = none) :
    Cal P w K mg base 2 "_law_names" spNames := by
  refine cal_of (F.ok sc_law_names (fun vs H Q E h => ?_) (fun cdv A outer s H vs Q E hr h => ?_)) hm F.kp (F.bindsN (ps := ["box", "many"]) fun _ _ _ _ _ _ us hl => match us, hl with | [_, _], _ => rfl)
  · obtain ⟨b, m, rfl, hB, hm1, hm2, q⟩ := h
    rfl
  obtain ⟨b, m, rfl, hB, hm1, hm2, q⟩ := h
  have nd := sc_law_names.nd
  refine ⟨_, PSs.nox (pss_cons (ps_asg (pe_tup (pa_cons pe_str (pa_cons (pe_lst (pa_cons pe_str (pa_cons pe_str (pa_cons pe_str (pa_cons pe_str (pa_cons pe_str (pa_cons pe_str (pa_cons pe_str (pa_cons pe_str pa_nil))))))))) pa_nil))) (pg_tup (by rfl) (pgs_cons (pg_name (i := 2) nd rfl (Or.inr rfl)) (pgs_cons (pg_name (i := 3) nd rfl (Or.inl rfl)) pgs_nil))))
    (pss_cons (ps_set (i := 5) nd rfl (Or.inl rfl) (show PE _ _ (tM1 (rJn K) _ _) from pe_join pe_str (pe_lc (own := [("k", 4)]) (g := (gName 4)) (by rfl) nd (pi_range1 (by rfl) m_range (pa_cons (C8.pe_c c_law_take hr (by omega) (by rfl) (pa_cons (pv 0) (pa_cons pe_int pa_nil))) pa_nil)) (blkOk_by (own := [("k", 4)]) (N := n_law_names) (sc := defScope s_law_names) (by decide +kernel)) (fun _ _ _ _ _ => (pg_name (i := 4) nd rfl (Or.inl rfl))) (fun _ _ _ _ _ => pts_nil) (fun _ _ _ _ _ => (pe_ix ix_str (pv 2) (C8.pe_c c_law_take hr (by omega) (by rfl) (pa_cons (pv 0) (pa_cons pe_int pa_nil))) (fun _ _ => rfl))))))
    (pss_cons (ps_set (i := 5) nd rfl (Or.inl rfl) (pe_ix (r := rIxL K) ix_list (pe_lst (pa_cons (pv 5) (pa_cons pe_str pa_nil))) (pe_callTy call_int1 (by rfl) m_int (by decide +kernel) (pa_cons (pe_cmpR op_eq (C8.pe_c c_law_take hr (by omega) (by rfl) (pa_cons (pv 0) (pa_cons pe_int pa_nil))) pe_int (nomark _)) pa_nil)) (fun _ _ => rfl)))
    (pss_cons (ps_par3 (i := 6) (j := 7) (l := 8) (by rfl) nd rfl rfl rfl (by decide) (by decide) (by decide) rfl rfl rfl (pa_cons (C8.pe_c c_law_take hr (by omega) (by rfl) (pa_cons (pv 0) (pa_cons (pe_op op_add (pe_callB call_len_str (by rfl) m_len PySem.boot_len (pa_cons (pv 5) pa_nil)) pe_int) pa_nil))) (pa_cons (C8.pe_c c_law_take hr (by omega) (by rfl) (pa_cons (pv 0) (pa_cons pe_int pa_nil))) (pa_cons (pe_ix (r := rIxL K) ix_list (pe_lst (pa_cons pe_int (pa_cons pe_int (pa_cons pe_int (pa_cons pe_int pa_nil))))) (C8.pe_c c_law_take hr (by omega) (by rfl) (pa_cons (pv 0) (pa_cons pe_int pa_nil))) (fun _ _ => rfl)) pa_nil))) (by rfl))
    (pss_cons (ps_set (i := 9) nd rfl (Or.inl rfl) (pe_lst pa_nil))
    (pss_cons (ps_for PassesOwn.never rfl (pi_range1 (by rfl) m_range (pa_cons (pv 1) pa_nil)) (pg_name (i := 4) nd rfl (Or.inl rfl)) (pss_cons (ps_set (i := 10) nd rfl (Or.inl rfl) (pe_ix ix_str (pv 2) (pe_op op_mod (pe_op op_add (pv 7) (pe_op op_mul (pv 8) (pv 4))) pe_int) (fun _ _ => rfl)))
    (pss_one (ps_expr (show PE _ _ (tBM K _ _ _ _) from pe_bm PySem.F.plainAttrs_list PySem.F.slot_list_append PySem.F.type_list_append mt_append (pv 9) (pa_cons (pe_op op_add_str (pe_op op_add_str (pe_slice C8.sl_txt (pv 5) po_none (po_some (pv 6))) (pv 10)) (pe_slice C8.sl_txt (pv 5) (po_some (pv 6)) po_none)) pa_nil))))))
    (pss_cons (ps_par (i := 11) (j := 12) (by rfl) nd rfl rfl (by decide) rfl rfl (pa_cons (C8.pe_c c_law_take hr (by omega) (by rfl) (pa_cons (pv 0) (pa_cons (pv 1) pa_nil))) (pa_cons (pe_ix (r := rIxL K) ix_list (pv 3) (C8.pe_c c_law_take hr (by omega) (by rfl) (pa_cons (pv 0) (pa_cons pe_int pa_nil))) (fun _ _ => rfl)) pa_nil)) (by rfl))
    (pss_cons (ps_if (PW.pt (pw_and (pt_cmpR op_eq (C8.pe_c c_law_take hr (by omega) (by rfl) (pa_cons (pv 0) (pa_cons pe_int pa_nil))) pe_int (nomark _)) (pw_and1 (pt_cmpR (r := rIn K true) op_notIn_seq (pv 12) (pv 9) (by rfl))))) (pss_one (ps_asg (pv 12) (pg_sub (pv 9) (pv 11) set_list))) pss_nil)
    (pss_one (ps_ret (pv 9))))))))))), ?_⟩
  obtain ⟨n, rfl⟩ : ∃ n : Nat, m = (n : Int) := ⟨m.toNat, by omega⟩
  -- letters, words
  refine ⟨(by show 8 ≤ sizeLine; decide), fun wp hwp => ⟨(by show 2 ≤ sizeLine; decide), fun tp htp => ⟨tp, _, rfl, SqT.of upd_same, rfl, _, _, rfl, _, _, rfl, rfl, ?_⟩⟩⟩
  have c0 : Ch b H (upd (upd H wp (.lst [.str "rooms", .str "door", .str "faces", .str "walker", .str "pass", .str "hall", .str "back", .str "none"])) tp (.tup [.str letters, .ref wp])) := ((Ch.refl b H).new hwp _).new htp _
  have B0 := (hB.new hwp (.lst [.str "rooms", .str "door", .str "faces", .str "walker", .str "pass", .str "hall", .str "back", .str "none"])).new htp (.tup [.str letters, .ref wp])
  have hw0 : (upd (upd H wp (.lst [.str "rooms", .str "door", .str "faces", .str "walker", .str "pass", .str "hall", .str "back", .str "none"])) tp (.tup [.str letters, .ref wp])) wp = some (.lst [.str "rooms", .str "door", .str "faces", .str "walker", .str "pass", .str "hall", .str "back", .str "none"]) := by
    rw [upd_ne (ne_of_none upd_same htp)]; exact upd_same
  have nwb : wp ≠ b := hB.ne hwp
  generalize (upd (upd H wp (.lst [.str "rooms", .str "door", .str "faces", .str "walker", .str "pass", .str "hall", .str "back", .str "none"])) tp (.tup [.str letters, .ref wp])) = H0 at c0 B0 hw0 ⊢
  -- stem
  refine ⟨⟨_, rfl⟩, _, rfl, b, 5, rfl, B0, by decide, by decide, fun r1 H1 r10 r11 B1 c1 => ⟨_, rfl, by omega, by omega, fun D hD => ?_⟩⟩
  have nDb : D ≠ b := B1.ne hD
  refine lc_range (lo := 0) (n := r1.toNat) (fun i H2 => Box H2 b ∧ Ch b H1 H2 ∧ ∃ cs : List Nat, H2 D = some (.lst (cs.map fun c => V.str (SX.S [c]))) ∧ cs.length = i ∧ low cs) ⟨B1.new hD _, (Ch.refl b H1).new hD _, [], upd_same, rfl, fun c hc => by cases hc⟩ (fun i H2 hi ⟨B2, c2, cs, hcs, hl, hlow⟩ => ?_) (fun H2 ⟨B2, c2, cs, hcs, hl, hlow⟩ => ?_)
  · refine ⟨rfl, lcY ?_⟩
    refine ⟨_, rfl, _, rfl, b, 26, rfl, B2, by decide, by decide, fun r2 H3 r20 r21 B3 c3 => ⟨_, _, _, rfl, rfl, (by decide), letter r20 r21, _, c3 D _ nDb hcs, ?_, ?_⟩⟩
    · rw [List.length_map, hl]; exact Nat.lt_of_lt_of_le (show i < 100 by omega) (by decide)
    · have nob : ∀ {z o}, (upd H3 D z) b = some o → H3 b = some o := fun {z o} e => by rw [upd_ne nDb.symm] at e; exact e
      refine ⟨?_, ?_, cs ++ [97 + r2.toNat], ?_, by rw [List.length_append, hl]; rfl, ?_⟩
      · obtain ⟨x, y, z, e, e2⟩ := B3
        exact ⟨x, y, z, by rw [upd_ne nDb.symm]; exact e, e2⟩
      · intro a o na ha
        have hda : a ≠ D := ne_of_none ha hD
        rw [upd_ne hda]
        exact c3 a o na (c2 a o na ha)
      · rw [upd_same, List.map_append]
        rfl
      · intro c hc
        rcases List.mem_append.mp hc with hc | hc
        · exact hlow c hc
        · have e := List.mem_singleton.mp hc
          omega
  -- stem = ''.join
  have e0 : cs.map (fun c => V.str (SX.S [c])) = ((cs.map fun c => [c]).map SX.S).map V.str := by rw [List.map_map, List.map_map]; rfl
  refine ⟨_, D, (cs.map fun c => [c]).map SX.S, rfl, rfl, .inl (SqL.of (by rw [← e0]; exact hcs)), ?_, ?_⟩
  · have e1 : (((cs.map fun c => [c]).map SX.S).map (·.length)) = cs.map fun _ => 1 := by
      rw [List.map_map, List.map_map]
      exact List.map_congr_left fun c _ => SX.S_len [c]
    rw [e1]
    have e2 : (cs.map fun _ => 1).sum = cs.length := by
      clear e1 e0 hcs hlow hl
      induction cs with
      | nil => rfl
      | cons c cs ih => simp [ih]; omega
    rw [e2, hl, show (("" : Str)).length = 0 by decide, Nat.mul_zero]
    omega
  have ej : Txt.join ("" : Str) ((cs.map fun c => [c]).map SX.S) = SX.S cs := by
    have e := SX.join_S [] (cs.map fun c => [c])
    rw [join_nil] at e
    exact e
  rw [ej]
  have c02 : Ch b H H2 := (c0.trans c1).trans c2
  have hw2 := c2 _ _ nwb (c1 _ _ nwb hw0)
  clear ej e0
  -- stem = [stem, 'floor'][..]
  refine ⟨_, rfl, (by show 2 ≤ sizeLine; decide), fun sp hsp => ?_⟩
  refine ⟨_, rfl, b, 4, rfl, B2.new hsp _, by decide, by decide, fun r3 H3 r30 r31 B3 c3 => ?_⟩
  have nsb : sp ≠ b := B2.ne hsp
  refine ⟨rfl, .inr ⟨_, rfl, ?_⟩⟩
  obtain ⟨st, hst, hstl, hstlow⟩ : ∃ st : List Nat, atI ([.str (SX.S cs), .str "floor"] : List V) (if decide (V.int r3 = V.int 0) = true then 1 else 0) = some (.str (SX.S st)) ∧ st.length ≤ 5 ∧ low st := by
    by_cases g : V.int r3 = V.int 0
    · refine ⟨("floor" : Str).cps.toList, ?_, by decide, by unfold low; decide⟩
      rw [decide_eq_true g]
      exact atI_nat (j := 1) rfl
    · refine ⟨cs, ?_, by omega, hlow⟩
      rw [decide_eq_false g]
      exact atI_nat (j := 0) rfl
  refine ⟨sp, _, _, _, rfl, rfl, SqL.of (c3 _ _ nsb upd_same), hst, ?_⟩
  have c03 : Ch b H H3 := (c02.new hsp _).trans c3
  have hw3 := c3 _ _ nwb (same_new hsp (.lst [.str (SX.S cs), .str "floor"]) _ _ hw2)
  -- at, first, step
  refine ⟨_, rfl, _, rfl, SX.S st, rfl, (by rw [SX.S_len]; exact Nat.le_trans hstl (by decide)), _, _, rfl, rfl, b, _, rfl, B3, (by rw [SX.S_len]; omega), (by rw [SX.S_len]; omega), fun r4 H4 r40 r41 B4 c4 => ?_⟩
  refine ⟨_, rfl, b, 26, rfl, B4, by decide, by decide, fun r5 H5 r50 r51 B5 c5 => ?_⟩
  refine ⟨(by show 4 ≤ sizeLine; decide), fun qp hqp => ⟨_, rfl, b, 4, rfl, B5.new hqp _, by decide, by decide, fun r6 H6 r60 r61 B6 c6 => ?_⟩⟩
  have nqb : qp ≠ b := B5.ne hqp
  obtain ⟨se, hse, hok⟩ : ∃ se : Int, atI ([.int 7, .int 1, .int 11, .int 25] : List V) r6 = some (.int se) ∧ okStep se := by
    have z : r6 = 0 ∨ r6 = 1 ∨ r6 = 2 ∨ r6 = 3 := by omega
    rcases z with rfl | rfl | rfl | rfl
    · exact ⟨7, atI_nat (j := 0) rfl, .inl rfl⟩
    · exact ⟨1, atI_nat (j := 1) rfl, .inr (.inl rfl)⟩
    · exact ⟨11, atI_nat (j := 2) rfl, .inr (.inr (.inl rfl))⟩
    · exact ⟨25, atI_nat (j := 3) rfl, .inr (.inr (.inr rfl))⟩
  refine ⟨qp, _, _, _, rfl, rfl, SqL.of (c6 _ _ nqb upd_same), hse, _, _, _, rfl, ?_⟩
  have c06 : Ch b H H6 := (((c03.trans c4).trans c5).new hqp _).trans c6
  have hw6 := c6 _ _ nwb (same_new hqp (.lst [.int 7, .int 1, .int 11, .int 25]) _ _ (c5 _ _ nwb (c4 _ _ nwb hw3)))
  rw [SX.S_len] at r41
  -- names = []
  refine ⟨(by show 0 ≤ sizeLine; decide), fun np hnp => ?_⟩
  have nnb : np ≠ b := B6.ne hnp
  have nwn : wp ≠ np := ne_of_none hw6 hnp
  have hnpH : H np = none := c06.none nnb hnp
  have B7 := B6.new hnp (.lst [])
  have c07 := c06.new hnp (.lst [])
  have hw7 := same_new hnp (.lst []) _ _ hw6
  have hn7 : upd H6 np (.lst []) np = some (.lst []) := upd_same
  generalize upd H6 np (.lst []) = H7 at B7 c07 hw7 hn7 ⊢
  obtain ⟨x7, y7, z7, hb7, hx7⟩ := B7
  refine ⟨_, rfl, _, rfl, by omega, by omega, ?_⟩
  refine for_range (lo := 0) (n := ((n : Int)).toNat) (fun i σ' H' => H' = upd H7 np (.lst ((nks st r4.toNat r5 se i).map V.str)) ∧ ∃ vk vs : Option V, σ' = [some (.ref b), some (.int n), some (.str letters), some (.ref wp), vk, some (.str (SX.S st)), some (.int r4), some (.int r5), some (.int se), some (.ref np), vs, none, none]) ⟨?_, _, _, rfl⟩ (fun i σ' H' hi ⟨e1, vk, vs, e2⟩ => ?_) (fun σ' H' ⟨e1, vk, vs, e2⟩ => ?_)
  · funext a
    by_cases h : a = np
    · rw [h, upd_same, hn7]; rfl
    · rw [upd_ne h]
  · subst e1 e2
    have hl0 : 0 ≤ (r5 + se * (0 + (i : Int))) % 26 := Int.emod_nonneg _ (by decide)
    have hl1 : (r5 + se * (0 + (i : Int))) % 26 < 26 := Int.emod_lt_of_pos _ (by decide)
    refine ⟨_, rfl, _, rfl, _, rfl, _, rfl, _, _, rfl, rfl, ?_, _, _, rfl, rfl, _, _, rfl, rfl, (by show (0 : Int) < _; decide), _, _, _, rfl, rfl, (by decide), letter hl0 hl1, ?_⟩
    · left
      rcases hok with e | e | e | e <;> (rw [e]; decide)
    refine ⟨_, rfl, .inl ⟨rfl, _, SqL.of upd_same⟩, _, rfl, _, rfl, _, rfl, _, rfl, (by rw [SX.S_len]; exact Nat.le_trans hstl (by decide)), _, rfl, _, _, rfl, rfl, ?_, _, rfl, _, rfl, _, rfl, _, rfl, (by rw [SX.S_len]; exact Nat.le_trans hstl (by decide)), _, _, rfl, rfl, ?_, np, _, _, rfl, rfl, upd_same, ?_, ?_⟩
    · rw [SX.slice_to r40, SX.S_len]
      have z : (st.take r4.toNat).length ≤ 5 := Nat.le_trans (by rw [List.length_take]; omega) hstl
      exact Nat.le_trans (Nat.add_le_add z (Nat.le_refl 1)) (by decide)
    · rw [SX.slice_to r40, SX.slice_from r40]
      have z : (st.take r4.toNat).length ≤ 5 := Nat.le_trans (by rw [List.length_take]; omega) hstl
      have y : (st.drop r4.toNat).length ≤ 5 := Nat.le_trans (by rw [List.length_drop]; omega) hstl
      have e : SX.S (st.take r4.toNat) ++ ({ cps := #[97 + ((r5 + se * (0 + (i : Int))) % 26).toNat] } : Str) = SX.S (st.take r4.toNat ++ [97 + ((r5 + se * (0 + (i : Int))) % 26).toNat]) := SX.S_cat _ [97 + ((r5 + se * (0 + (i : Int))) % 26).toNat]
      rw [e, SX.S_len, SX.S_len, List.length_append]
      exact Nat.le_trans (Nat.add_le_add (Nat.add_le_add z (Nat.le_refl 1)) y) (by decide)
    · rw [List.length_map, nks_len]
      exact Nat.lt_of_lt_of_le (show i < 100 by omega) (by decide)
    · refine ⟨?_, _, _, rfl⟩
      rw [upd_upd, nks_succ, SX.slice_to r40, SX.slice_from r40]
      have e : SX.S (st.take r4.toNat) ++ ({ cps := #[97 + ((r5 + se * (0 + (i : Int))) % 26).toNat] } : Str) ++ SX.S (st.drop r4.toNat) = SX.S (nk st r4.toNat r5 se i) := by
        have e1 : SX.S (st.take r4.toNat) ++ ({ cps := #[97 + ((r5 + se * (0 + (i : Int))) % 26).toNat] } : Str) = SX.S (st.take r4.toNat ++ [97 + ((r5 + se * (0 + (i : Int))) % 26).toNat]) := SX.S_cat _ [97 + ((r5 + se * (0 + (i : Int))) % 26).toNat]
        rw [e1, SX.S_cat]
        unfold nk
        rw [Int.zero_add, List.append_assoc]
      rw [e, List.map_append]
      rfl
  · subst e1 e2
    have hs : (nks st r4.toNat r5 se (n : Int).toNat).length = n := by rw [nks_len]; omega
    have hnd : (nks st r4.toNat r5 se (n : Int).toNat).Nodup := nks_nd hok (by omega)
    have hnm : ∀ x ∈ nks st r4.toNat r5 se (n : Int).toNat, Nm x := nks_nm hstlow hstl
    generalize nks st r4.toNat r5 se (n : Int).toNat = ss at hs hnd hnm
    have B8 : Box (upd H7 np (.lst (ss.map V.str))) b := ⟨x7, y7, z7, by rw [upd_ne nnb.symm]; exact hb7, hx7⟩
    have c08 : ∀ a o, a ≠ b → H a = some o → (upd H7 np (.lst (ss.map V.str))) a = some o := fun a o na ha => by
      rw [upd_ne (ne_of_none ha hnpH)]
      exact c07 a o na ha
    have hw8 := hw7
    rw [← upd_ne (H := H7) (o := .lst (ss.map V.str)) nwn] at hw8
    have hn8 : upd H7 np (.lst (ss.map V.str)) np = some (.lst (ss.map V.str)) := upd_same
    generalize upd H7 np (.lst (ss.map V.str)) = H8 at B8 c08 hw8 hn8 ⊢
    -- spot, word
    refine ⟨_, rfl, _, rfl, b, _, rfl, B8, (by omega), (by omega), fun r7 H9 r70 r71 B9 c9 => ?_⟩
    refine ⟨_, rfl, _, rfl, b, 8, rfl, B9, (by decide), (by decide), fun r8 Ha r80 r81 Ba ca => ?_⟩
    obtain ⟨wd, hwd, hwn⟩ : ∃ wd : Str, atI ([.str "rooms", .str "door", .str "faces", .str "walker", .str "pass", .str "hall", .str "back", .str "none"] : List V) r8 = some (.str wd) ∧ Nm wd := by
      have z : r8 = 0 ∨ r8 = 1 ∨ r8 = 2 ∨ r8 = 3 ∨ r8 = 4 ∨ r8 = 5 ∨ r8 = 6 ∨ r8 = 7 := by omega
      have ok : ∀ x : Str, (decide (1 ≤ x.length) && (decide (x.length ≤ 6) && x.cps.toList.all fun c => decide (97 ≤ c) && decide (c ≤ 122))) = true → Nm x := fun x h => by
        simp only [Bool.and_eq_true, decide_eq_true_eq, List.all_eq_true] at h
        exact ⟨h.1, h.2.1, h.2.2⟩
      rcases z with rfl | rfl | rfl | rfl | rfl | rfl | rfl | rfl
      · exact ⟨_, atI_nat (j := 0) rfl, ok _ (by decide +kernel)⟩
      · exact ⟨_, atI_nat (j := 1) rfl, ok _ (by decide +kernel)⟩
      · exact ⟨_, atI_nat (j := 2) rfl, ok _ (by decide +kernel)⟩
      · exact ⟨_, atI_nat (j := 3) rfl, ok _ (by decide +kernel)⟩
      · exact ⟨_, atI_nat (j := 4) rfl, ok _ (by decide +kernel)⟩
      · exact ⟨_, atI_nat (j := 5) rfl, ok _ (by decide +kernel)⟩
      · exact ⟨_, atI_nat (j := 6) rfl, ok _ (by decide +kernel)⟩
      · exact ⟨_, atI_nat (j := 7) rfl, ok _ (by decide +kernel)⟩
    refine ⟨wp, _, _, _, rfl, rfl, SqL.of (ca _ _ nwb (c9 _ _ nwb hw8)), hwd, _, _, rfl, ?_⟩
    -- if .. and word not in names
    refine ⟨_, rfl, b, 4, rfl, Ba, (by decide), (by decide), fun r9 Hb r90 r91 Bb cb => ?_⟩
    have hnb := cb _ _ nnb (ca _ _ nnb (c9 _ _ nnb hn8))
    have cend : Ch b H Hb := fun a o na ha => cb _ _ na (ca _ _ na (c9 _ _ na (c08 a o na ha)))
    have fin : ∀ (ts : List Str) (H' : Hp), H' np = some (.lst (ts.map V.str)) → ts.length = n → ts.Nodup → (∀ x ∈ ts, Nm x) → Box H' b → Ch b H H' → Q (.ref np) H' := fun ts H' h1 h2 h3 h4 h5 h6 => q np ts H' hnpH h1 (by rw [h2]; omega) h3 h4 h5 h6
    refine ⟨rfl, _, rfl, ?_⟩
    refine ite2 (fun g => ?_) (fun g => ?_)
    · refine ⟨_, rfl, _, rfl, np, _, rfl, .inl (SqL.of hnb), rfl, flat_strs _, _, rfl, ?_⟩
      rw [inV_str]
      by_cases hin : wd ∈ ss
      · rw [decide_eq_true hin]
        refine iteF ?_
        exact ⟨_, rfl, fin ss Hb hnb hs hnd hnm Bb cend⟩
      · rw [decide_eq_false hin]
        refine iteT ?_
        have hr7 : r7.toNat < ss.length := by omega
        refine ⟨_, rfl, _, rfl, _, rfl, np, _, r7, r7.toNat, rfl, rfl, hnb, ?_, ?_⟩
        · unfold ixN
          rw [List.length_map, if_pos r70, if_pos (by omega)]
        · refine ⟨_, rfl, fin (ss.set r7.toNat wd) _ (by rw [upd_same, List.map_set]) (by rw [List.length_set]; exact hs) (set_nd hnd hin) (fun x hx => ?_) ?_ ?_⟩
          · rcases List.mem_or_eq_of_mem_set hx with z | z
            · exact hnm x z
            · rw [z]; exact hwn
          · obtain ⟨x, y, z, e, e2⟩ := Bb
            exact ⟨x, y, z, by rw [upd_ne nnb.symm]; exact e, e2⟩
          · intro a o na ha
            rw [upd_ne (ne_of_none ha hnpH)]
            exact cend a o na ha
    · exact ⟨_, rfl, fin ss Hb hnb hs hnd hnm Bb cend⟩
end
end Td
set_option maxHeartbeats 4000000
namespace Td
open PySem PySem.Spec PyProof.Rows L2
section
variable {P : Program} {w : World} {K : PySem.W.Frag} {mg : Str → Option Value} {base : Heap} {f : Addr} {fd : FuncData}
abbrev s_law_hall : Stmt := top 17
abbrev n_law_hall : List Str := ["box", "wide", "many", "names", "known", "size", "titles", "last", "k", "one", "at", "other", "title"]
theorem sc_law_hall : FnScope n_law_hall ["box", "wide", "many"] (defScope s_law_hall) := ⟨rfl, rfl, rfl, by decide +kernel, rfl, by decide +kernel, by decide +kernel⟩
theorem ok_law_hall (F : FnP K "_law_hall" s_law_hall f fd) (hm : mg "_law_hall" = some (.ref f)) (c_law_names : Cal P w K mg base 2 "_law_names" spNames) (c_law_take : Cal P w K mg base 1 "_law_take" spTake) (m_int : mg "int" = none) (m_len : mg "len" = none) (m_max : mg "max" = none) (m_range : mg "range" = none) (m_tuple : mg "tuple" = none) :
    Cal P w K mg base 3 "_law_hall" spHall := by
  refine cal_of (F.ok sc_law_hall (fun vs H Q E h => ?_) (fun cdv A outer s H vs Q E hr h => ?_)) hm F.kp (F.bindsN (ps := ["box", "wide", "many"]) fun _ _ _ _ _ _ us hl => match us, hl with | [_, _, _], _ => rfl)
  · obtain ⟨b, m1, m2, rfl, hB, h11, h12, h21, h22, q⟩ := h
    rfl
  obtain ⟨b, m1, m2, rfl, hB, h11, h12, h21, h22, q⟩ := h
  have nd := sc_law_hall.nd
  refine ⟨_, PSs.nox (pss_cons (ps_asg (pe_tup (pa_cons (C8.pe_c c_law_names hr (by omega) (by rfl) (pa_cons (pv 0) (pa_cons (pe_op op_add pe_int (C8.pe_c c_law_take hr (by omega) (by rfl) (pa_cons (pv 0) (pa_cons (pv 1) pa_nil)))) pa_nil))) (pa_cons (pe_lst pa_nil) pa_nil))) (pg_tup (by rfl) (pgs_cons (pg_name (i := 3) nd rfl (Or.inr rfl)) (pgs_cons (pg_name (i := 4) nd rfl (Or.inl rfl)) pgs_nil))))
    (pss_cons (ps_set (i := 5) nd rfl (Or.inl rfl) (pe_op op_mul (C8.pe_c c_law_take hr (by omega) (by rfl) (pa_cons (pv 0) (pa_cons (pe_op op_add (pv 2) pe_int) pa_nil))) (pe_callTy call_int1 (by rfl) m_int (by decide +kernel) (pa_cons (pe_cmpR op_gt (pe_callB (r := rLn K) call_len_seq (by rfl) m_len PySem.boot_len (pa_cons (pv 3) pa_nil)) pe_int (nomark _)) pa_nil))))
    (pss_cons (ps_par (i := 6) (j := 7) (by rfl) nd rfl rfl (by decide) rfl rfl (pa_cons (C8.pe_c c_law_names hr (by omega) (by rfl) (pa_cons (pv 0) (pa_cons (pe_callB (call_max2 rfl) (by rfl) m_max (by decide +kernel) (pa_cons pe_int (pa_cons (pv 5) pa_nil))) pa_nil))) (pa_cons (pe_ix (r := rIxL K) ix_list (pv 3) pe_int (fun _ _ => rfl)) pa_nil)) (by rfl))
    (C8.pss_cut (ps_if (pt_cmpR op_eq (C8.pe_c c_law_take hr (by omega) (by rfl) (pa_cons (pv 0) (pa_cons pe_int pa_nil))) pe_int (nomark _)) (pss_one (ps_set (i := 6) nd rfl (Or.inl rfl) (pe_op op_cat (pv 3) (pe_lc (own := [("title", 12)]) (g := (gName 12)) (by rfl) nd (pi_list (pv 6)) (blkOk_by (own := [("title", 12)]) (N := n_law_hall) (sc := defScope s_law_hall) (by decide +kernel)) (fun _ _ _ _ _ => (pg_name (i := 12) nd rfl (Or.inl rfl))) (fun _ _ _ _ _ => (pts_one (pt_cmpR (r := rIn K true) op_notIn_seq (pv 12) (pv 3) (by rfl)))) (fun _ _ _ _ _ => (pv 12)))))) pss_nil)
    (pss_cons (ps_for PassesOwn.never rfl (pi_range1 (by rfl) m_range (pa_cons (pv 5) pa_nil)) (pg_name (i := 8) nd rfl (Or.inl rfl)) (pss_cons (ps_set (i := 9) nd rfl (Or.inl rfl) (pe_ix (r := rIxL K) ix_list (pe_lst (pa_cons (pv 7) (pa_cons (pe_ix (r := rIxL K) ix_list (pv 3) (C8.pe_c c_law_take hr (by omega) (by rfl) (pa_cons (pv 0) (pa_cons (pe_callB (r := rLn K) call_len_seq (by rfl) m_len PySem.boot_len (pa_cons (pv 3) pa_nil)) pa_nil))) (fun _ _ => rfl)) pa_nil))) (C8.pe_c c_law_take hr (by omega) (by rfl) (pa_cons (pv 0) (pa_cons pe_int pa_nil))) (fun _ _ => rfl)))
    (pss_cons (ps_set (i := 10) nd rfl (Or.inl rfl) (show PE _ _ (tBM K _ _ _ _) from pe_bm PySem.F.plainAttrs_list PySem.F.slot_list_index PySem.F.type_list_index (r := rIndex K) mt_index (pv 3) (pa_cons (pv 9) pa_nil)))
    (pss_cons (ps_set (i := 11) nd rfl (Or.inl rfl) (pe_ix (r := rIxL K) ix_list (pv 3) (pe_op op_mod (pe_op op_add (pe_op op_add (pv 10) pe_int) (C8.pe_c c_law_take hr (by omega) (by rfl) (pa_cons (pv 0) (pa_cons (pe_op op_sub (pe_callB (r := rLn K) call_len_seq (by rfl) m_len PySem.boot_len (pa_cons (pv 3) pa_nil)) pe_int) pa_nil)))) (pe_callB (r := rLn K) call_len_seq (by rfl) m_len PySem.boot_len (pa_cons (pv 3) pa_nil))) (fun _ _ => rfl)))
    (pss_cons (ps_expr (show PE _ _ (tBM K _ _ _ _) from pe_bm PySem.F.plainAttrs_list PySem.F.slot_list_append PySem.F.type_list_append mt_append (pv 4) (pa_cons (pe_tup (pa_cons (pe_ix (r := rIxL K) ix_list (pv 6) (pv 8) (fun _ _ => rfl)) (pa_cons (pv 9) (pa_cons (pv 11) pa_nil)))) pa_nil)))
    (pss_one (ps_set (i := 7) nd rfl (Or.inl rfl) (pv 11))))))))
    (pss_one (ps_ret (pe_tup (pa_cons (pe_callTy (r := rTpOf K) call_tuple_of (by rfl) m_tuple (by decide +kernel) (pa_cons (pv 3) pa_nil)) (pa_cons (pe_callTy (r := rTpOf K) call_tuple_of (by rfl) m_tuple (by decide +kernel) (pa_cons (pv 4) pa_nil)) pa_nil)))))))))), ?_⟩
  have nofree : ∀ {p : Addr} {H1 : Hp}, Ch b H H1 → Box H1 b → H1 p = none → H p = none := fun c B h => c.none (B.ne h) h
  -- names, known
  refine ⟨_, rfl, _, rfl, _, rfl, b, m1, rfl, hB, by omega, by omega, fun r0 H0 r00 r01 B0 c0 => ⟨_, _, rfl, rfl, b, _, rfl, B0, by omega, by omega, fun np ns H1 hnn hnp hnl hnd hnm B1 c1 => ⟨(by show 0 ≤ sizeLine; decide), fun kp hkp => ⟨(by show 2 ≤ sizeLine; decide), fun tp htp => ⟨tp, _, rfl, SqT.of upd_same, rfl, _, _, rfl, _, _, rfl, rfl, ?_⟩⟩⟩⟩⟩
  have nnb : np ≠ b := B0.ne hnn
  have nkb : kp ≠ b := B1.ne hkp
  have nnk : np ≠ kp := ne_of_none hnp hkp
  have c01 : Ch b H H1 := c0.trans c1
  have kfree : H kp = none := nofree c01 B1 hkp
  have c02 : Ch b H (upd (upd H1 kp (.lst [])) tp (.tup [.ref np, .ref kp])) := (c01.new hkp _).new htp _
  have B2 : Box (upd (upd H1 kp (.lst [])) tp (.tup [.ref np, .ref kp])) b := (B1.new hkp _).new htp _
  have hn2 : (upd (upd H1 kp (.lst [])) tp (.tup [.ref np, .ref kp])) np = some (.lst (ns.map V.str)) := same_new htp _ _ _ (same_new hkp _ _ _ hnp)
  have hk2 : (upd (upd H1 kp (.lst [])) tp (.tup [.ref np, .ref kp])) kp = some (.lst []) := same_new htp _ _ _ upd_same
  generalize (upd (upd H1 kp (.lst [])) tp (.tup [.ref np, .ref kp])) = H2 at c02 B2 hn2 hk2 ⊢
  have hnl8 : (ns.length : Int) = 1 + r0 := by omega
  have hml : (ns.map V.str).length = ns.length := List.length_map _
  -- size
  refine ⟨_, rfl, _, rfl, _, _, rfl, rfl, b, _, rfl, B2, by omega, by omega, fun r1 H3 r10 r11 B3 c3 => ⟨_, rfl, np, _, rfl, .inl (SqL.of (c3 _ _ nnb hn2)), _, _, rfl, rfl, .inr ⟨_, rfl, _, _, rfl, rfl, .inl ⟨by omega, by omega⟩, ?_⟩⟩⟩
  rw [hml]
  obtain ⟨n, en, hn1, hn2'⟩ : ∃ n : Nat, r1 * (if decide (1 < ((ns.length : Nat) : Int)) = true then 1 else 0) = (n : Int) ∧ (n : Int) ≤ m2 ∧ (0 < n → 2 ≤ ns.length) := by
    by_cases g : 1 < ((ns.length : Nat) : Int)
    · refine ⟨r1.toNat, ?_, by omega, fun _ => by omega⟩
      rw [decide_eq_true g, if_pos rfl]
      omega
    · refine ⟨0, ?_, by omega, fun z => by omega⟩
      rw [decide_eq_false g, if_neg (by decide)]
      omega
  have en' : V.int (r1 * (if decide (1 < ((ns.length : Nat) : Int)) = true then 1 else 0)) = V.int (n : Int) := congrArg V.int en
  show gName 5 (V.int (r1 * (if decide (1 < ((ns.length : Nat) : Int)) = true then 1 else 0))) _ _ _
  rw [en']
  clear en' en
  have hn3 := c3 _ _ nnb hn2
  have hk3 := c3 _ _ nkb hk2
  have c03 := c02.trans c3
  -- titles, last
  obtain ⟨l0, hl0, al0⟩ := atS (ss := ns) (j := 0) (by omega) (by omega)
  refine ⟨_, rfl, _, rfl, _, _, rfl, b, _, rfl, B3, ?_, ?_, fun tq ts H4 htn htq htl htnd htnm B4 c4 => ⟨_, rfl, np, _, _, _, rfl, rfl, SqL.of (c4 _ _ nnb hn3), al0, _, _, rfl, ?_⟩⟩
  · split <;> omega
  · split <;> omega
  have htl2 : n ≤ ts.length := by
    rw [htl]
    split <;> omega
  have ntb : tq ≠ b := B3.ne htn
  have hn4 := c4 _ _ nnb hn3
  have hk4 := c4 _ _ nkb hk3
  have c04 := c03.trans c4
  have ml0 : l0 ∈ ns := List.mem_of_getElem? hl0
  -- if ..: titles = ..
  refine ⟨fun σ' H' => ∃ (tq : Addr) (ts : List Str), σ' = [some (.ref b), some (.int m1), some (.int m2), some (.ref np), some (.ref kp), some (.int n), some (.ref tq), some (.str l0), none, none, none, none, none] ∧ H' tq = some (.lst (ts.map V.str)) ∧ tq ≠ kp ∧ tq ≠ b ∧ ts.Nodup ∧ (∀ x ∈ ts, Nm x) ∧ n ≤ ts.length ∧ H' np = some (.lst (ns.map V.str)) ∧ H' kp = some (.lst []) ∧ Box H' b ∧ Ch b H H', ?_, ?_⟩
  · refine ⟨_, rfl, b, 6, rfl, B4, by decide, by decide, fun r2 H5 r20 r21 B5 c5 => ⟨rfl, _, rfl, ?_⟩⟩
    have hn5 := c5 _ _ nnb hn4
    have hk5 := c5 _ _ nkb hk4
    have ht5 := c5 _ _ ntb htq
    have ntk : tq ≠ kp := (ne_of_none hk3 htn).symm
    refine ite2 (fun g => ?_) (fun g => ?_)
    · refine ⟨_, rfl, _, rfl, tq, rfl, ⟨_, SqL.of ht5⟩, fun D hD => ?_⟩
      have nDn : np ≠ D := ne_of_none hn5 hD
      have nDt : tq ≠ D := ne_of_none ht5 hD
      refine lc_list (K := K) (a := tq) (xs := ts.map V.str) (fun i Hx => Hx = upd H5 D (.lst (((ts.take i).filter fun t => !decide (t ∈ ns)).map V.str))) rfl (fun i Hx _ e => by subst e; exact SqL.of (by rw [upd_ne nDt]; exact ht5)) (fun i x Hx hx e => ?_) (fun Hx e => ?_)
      · subst e
        rw [List.getElem?_map] at hx
        obtain ⟨t, ht, rfl⟩ : ∃ t, ts[i]? = some t ∧ V.str t = x := by
          cases z : ts[i]? with
          | none => rw [z] at hx; cases hx
          | some t => rw [z] at hx; exact ⟨t, rfl, Option.some.inj hx⟩
        have et : ts.take (i + 1) = ts.take i ++ [t] := by rw [List.take_succ, ht]; rfl
        refine ⟨rfl, _, rfl, _, rfl, np, _, rfl, .inl (SqL.of (by rw [upd_ne nDn]; exact hn5)), rfl, flat_strs _, _, rfl, ?_⟩
        rw [inV_str, et, List.filter_append, List.map_append]
        by_cases hin : t ∈ ns
        · have ef : ([t].filter fun t => !decide (t ∈ ns)) = [] := by simp [hin]
          rw [decide_eq_true hin, ef]
          refine iteF ?_
          rw [List.map_nil, List.append_nil]
        · have ef : ([t].filter fun t => !decide (t ∈ ns)) = [t] := by simp [hin]
          rw [decide_eq_false hin, ef]
          refine iteT ⟨_, rfl, _, upd_same, ?_, ?_⟩
          · rw [List.length_map]
            refine Nat.lt_of_le_of_lt (List.length_filter_le _ _) (Nat.lt_of_le_of_lt (by rw [List.length_take]; exact Nat.min_le_right _ _) ?_)
            refine Nat.lt_of_lt_of_le (show ts.length < 100 from ?_) (by decide)
            rw [htl]
            split <;> omega
          · rw [upd_upd]
            rfl
      · subst e
        rw [List.length_map, List.take_length]
        refine ⟨np, D, _, _, rfl, rfl, (by rw [upd_ne nDn]; exact hn5), upd_same, ?_, fun p hp => ?_⟩
        · rw [List.length_map, List.length_map]
          have z := List.length_filter_le (fun t => !decide (t ∈ ns)) ts
          have y : ts.length ≤ 100 := by
            rw [htl]
            split <;> omega
          exact Nat.le_trans (show _ ≤ 200 by omega) (by decide)
        · have hnf : ∀ {a o}, H5 a = some o → (upd (upd H5 D (.lst ((ts.filter fun t => !decide (t ∈ ns)).map V.str))) p (.lst (ns.map V.str ++ (ts.filter fun t => !decide (t ∈ ns)).map V.str))) a = some o := fun h => same_new hp _ _ _ (same_new hD _ _ _ h)
          refine ⟨p, ns ++ ts.filter fun t => !decide (t ∈ ns), rfl, by rw [upd_same, List.map_append], fun z => ?_, fun z => ?_, titles_nd hnd htnd, titles_nm hnm htnm, Nat.le_trans htl2 (titles_len htnd), hnf hn5, hnf hk5, (B5.new hD _).new hp _, ((c04.trans c5).new hD _).new hp _⟩
          · have y := same_new hD (.lst ((ts.filter fun t => !decide (t ∈ ns)).map V.str)) _ _ hk5
            rw [z, y] at hp
            cases hp
          · exact (B5.new hD _).ne hp z
    · exact ⟨tq, ts, rfl, ht5, ntk, ntb, htnd, htnm, htl2, hn5, hk5, B5, c04.trans c5⟩
  rintro σ' H' ⟨tq, ts, rfl, ht6, ntk, ntb, htnd, htnm, htl2, hn6, hk6, B6, c06⟩
  refine ⟨_, rfl, _, rfl, by omega, by omega, ?_⟩
  refine for_range (lo := 0) (n := ((n : Int)).toNat) (fun i σ' H' => ∃ (as : List Addr) (rows : List (List Str)) (lv : Str) (vk v9 v10 v11 : Option V), σ' = [some (.ref b), some (.int m1), some (.int m2), some (.ref np), some (.ref kp), some (.int n), some (.ref tq), some (.str lv), vk, v9, v10, v11, none] ∧
    H' kp = some (.lst (as.map V.ref)) ∧ RowsAt H' as rows ∧ rows.length = i ∧ (rows.map fun r => r.headD "") = ts.take i ∧ (∀ r ∈ rows, ∃ n a b : Str, r = [n, a, b] ∧ n ∈ ts ∧ a ∈ ns ∧ b ∈ ns ∧ a ≠ b) ∧ lv ∈ ns ∧ H' np = some (.lst (ns.map V.str)) ∧ H' tq = some (.lst (ts.map V.str)) ∧ Box H' b ∧ Ch b H H')
    ⟨[], [], l0, none, none, none, none, rfl, hk6, RowsAt.nil, rfl, rfl, (fun r hr => by cases hr), ml0, hn6, ht6, B6, c06⟩ (fun i σ' H' hi hP => ?_) (fun σ' H' hP => ?_)
  · obtain ⟨as, rows, lv, vk, v9, v10, v11, rfl, hk7, hR7, hl7, hh7, hv7, mlv, hn7, ht7, B7, c07⟩ := hP
    have h2n : 2 ≤ ns.length := hn2' (by omega)
    -- one
    refine ⟨_, rfl, _, rfl, _, rfl, _, rfl, np, _, rfl, .inl (SqL.of hn7), b, _, rfl, B7, by omega, by omega, fun r2 Ha r20 r21 Ba ca => ?_⟩
    rw [hml] at r21
    obtain ⟨o1, ho1, ao1⟩ := atS (ss := ns) (j := r2) r20 r21
    refine ⟨np, _, _, _, rfl, rfl, SqL.of (ca _ _ nnb hn7), ao1, (by show 2 ≤ sizeLine; decide), fun lp hlp => ?_⟩
    have nlb : lp ≠ b := Ba.ne hlp
    refine ⟨_, rfl, b, 2, rfl, Ba.new hlp _, by decide, by decide, fun r3 Hb r30 r31 Bb cb => ?_⟩
    obtain ⟨ov, aov, mov⟩ : ∃ ov : Str, atI ([.str lv, .str o1] : List V) r3 = some (.str ov) ∧ ov ∈ ns := by
      have z : r3 = 0 ∨ r3 = 1 := by omega
      rcases z with rfl | rfl
      · exact ⟨lv, atI_nat (j := 0) rfl, mlv⟩
      · exact ⟨o1, atI_nat (j := 1) rfl, List.mem_of_getElem? ho1⟩
    refine ⟨lp, _, _, _, rfl, rfl, SqL.of (cb _ _ nlb upd_same), aov, ?_⟩
    have step : ∀ {a o}, a ≠ b → H' a = some o → Hb a = some o := fun na h => cb _ _ na (same_new hlp _ _ _ (ca _ _ na h))
    have hnb := step nnb hn7
    have htb := step ntb ht7
    have hkb := step nkb hk7
    have cHb : Ch b H Hb := ((c07.trans ca).new hlp _).trans cb
    have tub : Tu H' Hb := ((Tu.of ca B7).trans (Tu.new hlp _)).trans (Tu.of cb (Ba.new hlp _))
    -- at
    obtain ⟨j, hj⟩ := List.getElem?_of_mem mov
    have hjl : j < ns.length := (List.getElem?_eq_some_iff.mp hj).1
    refine ⟨_, rfl, .inl ⟨rfl, _, SqL.of hnb⟩, _, rfl, np, ns.map V.str, .str ov, j, .str ov, rfl, rfl, SqL.of hnb, rfl, flat_strs _, by rw [List.getElem?_map, hj]; rfl, by show (ov == ov) = true; exact beq_self_eq_true _, fun m z' hm hz => ?_, ?_⟩
    · rw [List.getElem?_map] at hz
      cases y : ns[m]? with
      | none => rw [y] at hz; cases hz
      | some x =>
        rw [y] at hz
        cases hz
        show (x == ov) = false
        refine beq_eq_false_iff_ne.mpr fun e => ?_
        subst e
        have := nd_ix hnd y hj
        omega
    -- other
    refine ⟨_, rfl, _, rfl, _, _, rfl, rfl, _, rfl, _, rfl, np, _, rfl, .inl (SqL.of hnb), _, _, rfl, rfl, b, _, rfl, Bb, (by rw [hml]; omega), (by rw [hml]; omega), fun r4 Hc r40 r41 Bc cc => ?_⟩
    rw [hml] at r41
    have hpos : (0 : Int) < (ns.length : Int) := by omega
    obtain ⟨ot, hot, aot⟩ := atS (ss := ns) (j := ((j : Int) + 1 + r4) % (ns.length : Int)) (Int.emod_nonneg _ (by omega)) (Int.emod_lt_of_pos _ hpos)
    refine ⟨_, _, rfl, rfl, _, rfl, np, _, rfl, .inl (SqL.of (cc _ _ nnb hnb)), _, _, rfl, rfl, (by rw [hml]; exact hpos), np, _, _, _, rfl, rfl, SqL.of (cc _ _ nnb hnb), (by rw [hml]; exact aot), ?_⟩
    have nother : ov ≠ ot := fun e => by
      subst e
      have z := nd_ix hnd hj hot
      have lt : (j : Int) < (ns.length : Int) := by omega
      by_cases g : (j : Int) + 1 + r4 < (ns.length : Int)
      · rw [Int.emod_eq_of_lt (by omega) g] at z
        omega
      · have y : ((j : Int) + 1 + r4) % (ns.length : Int) = (j : Int) + 1 + r4 - (ns.length : Int) := by
          rw [← Int.sub_emod_right]
          exact Int.emod_eq_of_lt (by omega) (by omega)
        rw [y] at z
        omega
    have htc := cc _ _ ntb htb
    have hkc := cc _ _ nkb hkb
    -- known.append(..)
    have hik : i < ts.length := by omega
    have ait : atI (ts.map V.str) (0 + (i : Int)) = some (.str ts[i]) := by
      rw [Int.zero_add]
      exact atI_nat (by rw [List.getElem?_map, List.getElem?_eq_getElem hik]; rfl)
    refine ⟨_, rfl, .inl ⟨rfl, _, SqL.of hkc⟩, _, rfl, _, rfl, tq, _, _, _, rfl, rfl, SqL.of htc, ait, _, rfl, _, rfl, (by show 3 ≤ sizeLine; decide), fun p hp => ?_⟩
    have npk : kp ≠ p := ne_of_none hkc hp
    have npb : p ≠ b := Bc.ne hp
    refine ⟨kp, _, _, rfl, rfl, same_new hp _ _ _ hkc, ?_, ?_⟩
    · rw [List.length_map, hR7.1, hl7]
      exact Nat.lt_of_lt_of_le (show i < 100 by omega) (by decide)
    have ntk' : ∀ {a xs}, (upd Hc p (.tup [.str ts[i], .str ov, .str ot])) a = some (.tup xs) → a ≠ kp := fun h z => by
      rw [z, same_new hp _ _ _ hkc] at h
      cases h
    have tuc : Tu H' (upd (upd Hc p (.tup [.str ts[i], .str ov, .str ot])) kp (.lst (as.map V.ref ++ [.ref p]))) := fun a xs h => by
      have z := same_new hp (.tup [.str ts[i], .str ov, .str ot]) _ _ ((tub.trans (Tu.of cc Bb)) a xs h)
      rw [upd_ne (ntk' z)]
      exact z
    refine ⟨_, rfl, as ++ [p], rows ++ [[ts[i], ov, ot]], ot, _, _, _, _, rfl, ?_, (hR7.tu tuc).snoc ?_, by rw [List.length_append, hl7]; rfl, ?_, ?_, List.mem_of_getElem? hot, ?_, ?_, ?_, ?_⟩
    · rw [upd_same, List.map_append]
      rfl
    · rw [upd_ne npk.symm]
      exact upd_same
    · rw [List.map_append, hh7, List.take_succ, List.getElem?_eq_getElem hik]
      rfl
    · intro r hr
      rcases List.mem_append.mp hr with hr | hr
      · exact hv7 r hr
      · have e := List.mem_singleton.mp hr
        exact ⟨_, _, _, e, List.getElem_mem hik, mov, List.mem_of_getElem? hot, nother⟩
    · rw [upd_ne nnk]
      exact same_new hp _ _ _ (cc _ _ nnb hnb)
    · rw [upd_ne ntk]
      exact same_new hp _ _ _ htc
    · exact (Bc.new hp _).upd nkb _
    · exact ((cHb.trans cc).new hp _).mut kfree _
  · obtain ⟨as, rows, lv, vk, v9, v10, v11, rfl, hk7, hR7, hl7, hh7, hv7, mlv, hn7, ht7, B7, c07⟩ := hP
    refine ⟨_, rfl, np, _, rfl, .inl ⟨SqL.of hn7, fun t1 h1 => ⟨_, rfl, kp, _, rfl, .inl ⟨SqL.of (same_new h1 _ _ _ hk7), fun t2 h2 => ⟨(by show 2 ≤ sizeLine; decide), fun t3 h3 => ?_⟩⟩⟩⟩⟩
    have tu : Tu H' (upd (upd (upd H' t1 (.tup (ns.map V.str))) t2 (.tup (as.map V.ref))) t3 (.tup [.ref t1, .ref t2])) := ((Tu.new h1 _).trans (Tu.new h2 _)).trans (Tu.new h3 _)
    refine q t3 ns rows _ ⟨t1, t2, upd_same, (Tu.new h3 _) _ _ ((Tu.new h2 _) _ _ upd_same), as, (Tu.new h3 _) _ _ upd_same, hR7.tu tu⟩ ⟨by omega, by omega, hnd, hnm, by omega, fun r hr => ?_, ?_⟩ (by omega) (by omega) (((B7.new h1 _).new h2 _).new h3 _) (((c07.new h1 _).new h2 _).new h3 _)
    · obtain ⟨x, y, z, e, e1, e2, e3, e4⟩ := hv7 r hr
      exact ⟨x, y, z, e, htnm x e1, e2, e3, e4⟩
    · rw [hh7]
      exact htnd.sublist (List.take_sublist _ _)
end
end Td
set_option maxHeartbeats 4000000
namespace Td
open PySem PySem.Spec PyProof.Rows L2
section
variable {P : Program} {w : World} {K : PySem.W.Frag} {mg : Str → Option Value} {base : Heap} {f : Addr} {fd : FuncData}
abbrev s_law_alike : Stmt := top 18
abbrev n_law_alike : List Str := ["found", "due", "one", "other"]
theorem sc_law_alike : FnScope n_law_alike ["found", "due"] (defScope s_law_alike) := ⟨rfl, rfl, rfl, by decide +kernel, rfl, by decide +kernel, by decide +kernel⟩
theorem ok_law_alike (F : FnP K "_law_alike" s_law_alike f fd) (hm : mg "_law_alike" = some (.ref f)) {n : Nat} (c_law_alike : Cal P w K mg base n "_law_alike" (spAlike n)) (m_all : mg "all" = none) (m_bool : mg "bool" = none) (m_dict : mg "dict" = none) (m_isinstance : mg "isinstance" = none) (m_len : mg "len" = none) (m_list : mg "list" = none) (m_str : mg "str" = none) (m_tuple : mg "tuple" = none) (m_zip : mg "zip" = none) :
    Cal P w K mg base (n + 1) "_law_alike" (spAlike (n + 1)) := by
  refine cal_of (F.ok sc_law_alike (fun vs H Q E h => ?_) (fun cdv A outer s H vs Q E hr h => ?_)) hm F.kp (F.bindsN (ps := ["found", "due"]) fun _ _ _ _ _ _ us hl => match us, hl with | [_, _], _ => rfl)
  · obtain ⟨x, y, d, rfl, hx, hy, q⟩ := h
    rfl
  obtain ⟨x, y, d, rfl, hx, hy, q⟩ := h
  have nd := sc_law_alike.nd
  refine ⟨_, PSs.nox (pss_cons (ps_if (pt_val (pe_callB (r := rIsiT K) call_isiT (by rfl) m_isinstance (by decide +kernel) (pa_cons (pv 1) (pa_cons (pe_tup (pa_cons (pe_bltn (by rfl) m_tuple (by decide +kernel) (show L2.RelV (.ty "tuple") (.type "tuple") from rfl)) (pa_cons (pe_bltn (by rfl) m_list (by decide +kernel) (show L2.RelV (.ty "list") (.type "list") from rfl)) pa_nil))) pa_nil)))) (pss_cons (ps_if (PW.pt (pw_or (pt_cmpR op_ne (pe_callB (r := rIsi K) call_isi (by rfl) m_isinstance (by decide +kernel) (pa_cons (pv 0) (pa_cons (pe_bltn (by rfl) m_tuple (by decide +kernel) (show L2.RelV (.ty "tuple") (.type "tuple") from rfl)) pa_nil))) (pe_callB (r := rIsi K) call_isi (by rfl) m_isinstance (by decide +kernel) (pa_cons (pv 1) (pa_cons (pe_bltn (by rfl) m_tuple (by decide +kernel) (show L2.RelV (.ty "tuple") (.type "tuple") from rfl)) pa_nil))) (nomark _)) (pw_or1 (pt_cmpR op_ne (pe_callB (r := rIsi K) call_isi (by rfl) m_isinstance (by decide +kernel) (pa_cons (pv 0) (pa_cons (pe_bltn (by rfl) m_list (by decide +kernel) (show L2.RelV (.ty "list") (.type "list") from rfl)) pa_nil))) (pe_callB (r := rIsi K) call_isi (by rfl) m_isinstance (by decide +kernel) (pa_cons (pv 1) (pa_cons (pe_bltn (by rfl) m_list (by decide +kernel) (show L2.RelV (.ty "list") (.type "list") from rfl)) pa_nil))) (nomark _))))) (pss_one (ps_ret pe_bl)) pss_nil)
    (pss_one (ps_ret (pe_and (pe_cmpR op_eq (pe_callB (r := rLn K) call_len_seq (by rfl) m_len PySem.boot_len (pa_cons (pv 0) pa_nil)) (pe_callB (r := rLn K) call_len_seq (by rfl) m_len PySem.boot_len (pa_cons (pv 1) pa_nil)) (nomark _)) (pe_one (pe_callB (r := rAll K) (cr_all rfl) (by rfl) m_all (by decide +kernel) (pa_cons (pe_lc (own := [("one", 2), ("other", 3)]) (g := (gTup K 2 (gCons (gName 2) (gCons (gName 3) gNil)))) (by rfl) nd (RZ.pi_zipA (by rfl) m_zip (pa_cons (pv 0) (pa_cons (pv 1) pa_nil))) (blkOk_by (own := [("one", 2), ("other", 3)]) (N := n_law_alike) (sc := defScope s_law_alike) (by decide +kernel)) (fun _ _ _ _ _ => (pg_tup (by rfl) (pgs_cons (pg_name (i := 2) nd rfl (Or.inl rfl)) (pgs_cons (pg_name (i := 3) nd rfl (Or.inl rfl)) pgs_nil)))) (fun _ _ _ _ _ => pts_nil) (fun _ _ _ _ _ => (C8.pe_c c_law_alike hr (by omega) (by rfl) (pa_cons (pv 2) (pa_cons (pv 3) pa_nil))))) pa_nil))))))) pss_nil)
    (pss_cons (ps_if (PW.pt (pw_or (pt_cmpR op_ne (pe_callB (r := rIsi K) call_isi (by rfl) m_isinstance (by decide +kernel) (pa_cons (pv 0) (pa_cons (pe_bltn (by rfl) m_bool (by decide +kernel) (show L2.RelV (.ty "bool") (.type "bool") from rfl)) pa_nil))) (pe_callB (r := rIsi K) call_isi (by rfl) m_isinstance (by decide +kernel) (pa_cons (pv 1) (pa_cons (pe_bltn (by rfl) m_bool (by decide +kernel) (show L2.RelV (.ty "bool") (.type "bool") from rfl)) pa_nil))) (nomark _)) (pw_or1 (pt_cmpR op_ne (pe_callB (r := rIsi K) call_isi (by rfl) m_isinstance (by decide +kernel) (pa_cons (pv 0) (pa_cons (pe_bltn (by rfl) m_str (by decide +kernel) (show L2.RelV (.ty "str") (.type "str") from rfl)) pa_nil))) (pe_callB (r := rIsi K) call_isi (by rfl) m_isinstance (by decide +kernel) (pa_cons (pv 1) (pa_cons (pe_bltn (by rfl) m_str (by decide +kernel) (show L2.RelV (.ty "str") (.type "str") from rfl)) pa_nil))) (nomark _))))) (pss_one (ps_ret pe_bl)) pss_nil)
    (pss_one (ps_ret (pe_and (pe_not (pe_callB (r := rIsiT K) call_isiT (by rfl) m_isinstance (by decide +kernel) (pa_cons (pv 0) (pa_cons (pe_tup (pa_cons (pe_bltn (by rfl) m_tuple (by decide +kernel) (show L2.RelV (.ty "tuple") (.type "tuple") from rfl)) (pa_cons (pe_bltn (by rfl) m_list (by decide +kernel) (show L2.RelV (.ty "list") (.type "list") from rfl)) (pa_cons (pe_bltn (by rfl) m_dict (by decide +kernel) (show L2.RelV (.ty "dict") (.type "dict") from rfl)) pa_nil)))) pa_nil)))) (pe_one (pe_cmpR op_eq (pv 0) (pv 1) (nomark _)))))))), ?_⟩
  have two : (2 : Nat) ≤ sizeLine := by decide
  have three : (3 : Nat) ≤ sizeLine := by decide
  rcases hx with hx | ⟨a, xs, ds, rfl, rfl, ha, ⟨hl, h1000⟩, hr'⟩
  · have hy' : Sc y d := by
      rcases hy with hy | ⟨a, xs, ds, rfl, rfl, _⟩
      · exact hy
      · exact (hx.not_tup).elim
    obtain rfl := hx.eq hy'
    obtain ⟨t, hty, hsc, ⟨b1, hk1⟩, ⟨b2, hk2⟩, ht, hl, hd⟩ := hx.ty (K := K)
    refine ⟨_, rfl, two, fun tp htp => ?_⟩
    refine ⟨x, tp, [.ty "tuple", .ty "list"], .type t, [.type "tuple", .type "list"], false, rfl, upd_same, .cons (.ty _) (.cons (.ty _) .nil), hty _, kit_false (fun c hc => ?_), _, rfl, ?_⟩
    · rcases List.mem_cons.mp hc with rfl | hc
      · exact ht
      · rw [List.mem_singleton.mp hc]; exact hl
    refine iteF ?_
    refine ⟨_, rfl, x, .ty "bool", .type t, .type "bool", b1, rfl, .ty _, hty _, hk1, _, rfl, x, .ty "bool", .type t, .type "bool", b1, rfl, .ty _, hty _, hk1, rfl, _, rfl, ?_⟩
    refine iteNS rfl ?_
    refine ⟨_, rfl, x, .ty "str", .type t, .type "str", b2, rfl, .ty _, hty _, hk2, _, rfl, x, .ty "str", .type t, .type "str", b2, rfl, .ty _, hty _, hk2, rfl, _, rfl, ?_⟩
    refine iteNS rfl ?_
    refine ⟨_, rfl, three, fun tp2 htp2 => ?_⟩
    refine ⟨x, tp2, [.ty "tuple", .ty "list", .ty "dict"], .type t, [.type "tuple", .type "list", .type "dict"], false, rfl, upd_same, .cons (.ty _) (.cons (.ty _) (.cons (.ty _) .nil)), hty _, kit_false (fun c hc => ?_), _, rfl, _, rfl, ?_⟩
    · rcases List.mem_cons.mp hc with rfl | hc
      · exact ht
      · rcases List.mem_cons.mp hc with rfl | hc
        · exact hl
        · rw [List.mem_singleton.mp hc]; exact hd
    refine iteT ?_
    refine ⟨_, rfl, _, rfl, hsc, ?_⟩
    rw [decide_eq_true rfl]
    exact q _ ((same_new htp _).trans (same_new htp2 _))
  · obtain ⟨a2, ys, es, rfl, e2, ha2, ⟨hl2, _⟩, hr2⟩ : ∃ (a : Addr) (xs : List V) (es : List PyData), y = .ref a ∧ PyData.tuple ds = .tuple es ∧ H a = some (.tup xs) ∧ (xs.length = es.length ∧ es.length ≤ 1000) ∧ ∀ (i : Nat) (v : V) (e : PyData), xs[i]? = some v → es[i]? = some e → DR H n v e := by
      rcases hy with hy | hy
      · exact (hy.not_tup).elim
      · exact hy
    injection e2 with e2
    subst e2
    have tyA : ∀ {H' : Hp}, Same H H' → TyX K H' (.ref a) (.type "tuple") := fun s => .base (.tup (s _ _ ha))
    have tyB : ∀ {H' : Hp}, Same H H' → TyX K H' (.ref a2) (.type "tuple") := fun s => .base (.tup (s _ _ ha2))
    refine ⟨_, rfl, two, fun tp htp => ?_⟩
    have s1 := same_new htp (.tup [.ty "tuple", .ty "list"])
    refine ⟨.ref a2, tp, [.ty "tuple", .ty "list"], .type "tuple", [.type "tuple", .type "list"], true, rfl, upd_same, .cons (.ty _) (.cons (.ty _) .nil), tyB s1, kit_true kit_tl.1, _, rfl, ?_⟩
    refine iteT ?_
    refine ⟨_, rfl, .ref a, .ty "tuple", .type "tuple", .type "tuple", true, rfl, .ty _, tyA s1, kit_tl.1, _, rfl, .ref a2, .ty "tuple", .type "tuple", .type "tuple", true, rfl, .ty _, tyB s1, kit_tl.1, rfl, _, rfl, ?_⟩
    refine iteNS rfl ?_
    refine ⟨_, rfl, .ref a, .ty "list", .type "tuple", .type "list", false, rfl, .ty _, tyA s1, kit_tl.2, _, rfl, .ref a2, .ty "list", .type "tuple", .type "list", false, rfl, .ty _, tyB s1, kit_tl.2, rfl, _, rfl, ?_⟩
    refine iteNS rfl ?_
    have hxy : xs.length = ys.length := by omega
    refine ⟨_, rfl, a, _, rfl, .inr (SqT.of (s1 _ _ ha)), _, rfl, a2, _, rfl, .inr (SqT.of (s1 _ _ ha2)), rfl, _, rfl, ?_⟩
    rw [hxy, decide_eq_true rfl]
    refine iteT ?_
    refine ⟨_, rfl, _, rfl, a, a2, xs, ys, rfl, .inr ⟨SqT.of (s1 _ _ ha), SqT.of (s1 _ _ ha2), fun D hD => ?_⟩⟩
    refine lc_gen (n := ys.length) (fun i Hx => Same (upd H tp (.tup [.ty "tuple", .ty "list"])) Hx ∧ Hx D = some (.lst ((List.replicate i true).map V.bl))) ⟨same_new hD _, upd_same⟩ (fun i Hx hi ⟨sx, hDx⟩ => ?_) (fun Hx ⟨sx, hDx⟩ => ?_)
    · have hxi : xs[i]? = some xs[i] := List.getElem?_eq_getElem (by omega)
      have hyi : ys[i]? = some ys[i] := List.getElem?_eq_getElem hi
      refine ⟨⟨xs, ys, xs[i], ys[i], SqT.of (sx _ _ (s1 _ _ ha)), SqT.of (sx _ _ (s1 _ _ ha2)), hxi, hyi⟩, ?_⟩
      rintro _ _ ⟨T, v1, v2, rfl, hT, rfl, f1, f2⟩
      have g1 := f1 xs (SqT.of (sx _ _ (s1 _ _ ha)))
      have g2 := f2 ys (SqT.of (sx _ _ (s1 _ _ ha2)))
      refine ⟨T, _, rfl, SqT.of upd_same, rfl, _, _, rfl, _, _, rfl, rfl, rfl, lcY ?_⟩
      have hdi : ds[i]? = some (ds[i]'(by omega)) := List.getElem?_eq_getElem (by omega)
      have sT := same_new hT (.tup [v1, v2])
      have tuT : Tu H (upd Hx T (.tup [v1, v2])) := Tu.same ((s1.trans sx).trans sT)
      refine ⟨_, rfl, _, rfl, v1, v2, ds[i]'(by omega), rfl, (hr' i v1 _ g1 hdi).tu tuT, (hr2 i v2 _ g2 hdi).tu tuT, fun H' s' => ⟨_, s' _ _ (sT _ _ hDx), ?_, ?_, ?_⟩⟩
      · rw [List.length_map, List.length_replicate]
        exact sz100 (by omega)
      · exact same_mut ((sx.trans sT).trans s') hD _
      · rw [upd_same, List.replicate_succ', List.map_append]
        rfl
    · refine ⟨⟨xs, ys, SqT.of (sx _ _ (s1 _ _ ha)), SqT.of (sx _ _ (s1 _ _ ha2)), .inr (Nat.le_refl _)⟩, ?_⟩
      refine ⟨D, List.replicate ys.length true, rfl, SqL.of hDx, ?_⟩
      rw [all_rep]
      exact q _ (s1.trans sx)
theorem no_alike (F : FnP K "_law_alike" s_law_alike f fd) (hm : mg "_law_alike" = some (.ref f)) : Cal P w K mg base 0 "_law_alike" (spAlike 0) := by
  have no : ∀ vs H Q E, ¬ spAlike 0 vs H Q E := fun vs H Q E ⟨x, y, d, _, h, _⟩ => h
  exact cal_of ⟨fun vs H Q E h => absurd h (no vs H Q E), fun A outer s H args us vs Q E _ _ _ _ h => absurd h (no vs H Q E)⟩ hm F.kp (F.bindsN (ps := ["found", "due"]) fun _ _ _ _ _ _ us hl => match us, hl with | [_, _], _ => rfl)
theorem ok_alike (F : FnP K "_law_alike" s_law_alike f fd) (hm : mg "_law_alike" = some (.ref f)) (m_all : mg "all" = none) (m_bool : mg "bool" = none) (m_dict : mg "dict" = none) (m_isinstance : mg "isinstance" = none) (m_len : mg "len" = none) (m_list : mg "list" = none) (m_str : mg "str" = none) (m_tuple : mg "tuple" = none) (m_zip : mg "zip" = none) :
    ∀ n : Nat, Cal P w K mg base n "_law_alike" (spAlike n)
  | 0 => no_alike F hm
  | n + 1 => ok_law_alike F hm (ok_alike F hm m_all m_bool m_dict m_isinstance m_len m_list m_str m_tuple m_zip n) m_all m_bool m_dict m_isinstance m_len m_list m_str m_tuple m_zip
end
end Td
set_option maxHeartbeats 4000000
namespace Td
open PySem PySem.Spec PyProof.Rows L2
open PySem.HandSPX (excO)
open Builtin Builtin.ObjectAttr
/-! ### an own class over KeyError with its own __init__ (its maker is LookupError's) -/
abbrev keTail : List Value := [.type "KeyError", .type "LookupError", .type "Exception", .type "BaseException", .type "object"]
abbrev keObj (nm q : Str) (C N : Addr) (bs : List Value) (sn : List Str) (sub : List Value) (ab : Bool) (col : Option Bool) (dd : Option Addr) (k0 k1 k2 k3 k5 : Option Value) : Obj := excClassObj nm q C N bs keTail true sn sub ab col dd k0 k1 k2 k3 k5 "LookupError.__new__"
theorem ke_has (C : Addr) : (Value.ref C :: keTail).contains (.type "LookupError") = true := by rw [List.contains_cons, show keTail.contains (Value.type "LookupError") = true from by decide +kernel, Bool.or_true]
theorem ke_noA (C : Addr) : (Value.ref C :: keTail).contains (.type "AttributeError") = false := by rw [List.contains_cons, show keTail.contains (Value.type "AttributeError") = false from by decide +kernel]; rfl
theorem ke_noN (C : Addr) : (Value.ref C :: keTail).contains (.type "NameError") = false := by rw [List.contains_cons, show keTail.contains (Value.type "NameError") = false from by decide +kernel]; rfl
theorem ke_ob (C : Addr) : (Value.ref C :: keTail).contains (.type "object") = true := by rw [List.contains_cons, show keTail.contains (Value.type "object") = true from by decide +kernel, Bool.or_true]
theorem ke_pass (self : Value) : refuseLoop self "__setattr__" keTail = pure () := by kernel_rfl
theorem ke_pass_own (self : Value) (C : Addr) : refuseLoop self "__setattr__" (.ref C :: keTail) = pure () := by rw [refuseLoop_ref]; exact ke_pass self
section
variable {M : Model} {A : Around} {E : Value → Shared → Prop} {h : Heap} {g : Array GenState} {d : Drawn} {t : Nat} {os : OsState}
variable {nm q : Str} {C N : Addr} {bs : List Value} {sn : List Str} {sub : List Value} {ab : Bool} {col : Option Bool} {dd : Option Addr} {k0 k1 k2 k3 k5 : Option Value}
theorem ke_check {more : List Value} {Q : Unit → Shared → Prop} (at_ : h.get? C = some (keObj nm q C N bs sn sub ab col dd k0 k1 k2 k3 k5)) (hq : Q () ⟨h, g, d, t, os⟩) :
    wpAny M A (checkBuiltinCall "LookupError.__new__" ⟨.ref C :: more, []⟩) Q E ⟨h, g, d, t, os⟩ := by
  have c1 := ke_has C
  have c2 := PySem.F.excBase_LookupError.noStar
  simp only [checkBuiltinCall, PySem.F.excBase_LookupError.newKind, PySem.F.excBase_LookupError.newSplit, PySem.F.excBase_LookupError.newRow]
  repeat (first | refine wpAny_loadPart_at at_ ?_ | (refine wpAny_isSubtype_exc at_ ?_; rw [c1]) | refine wpAny_staticBase_exc at_ ?_ | refine wpAny_madeBy_exc at_ ?_ | simp only [bne_self_eq_false, Bool.false_eq_true, if_false] | wp_step)
  exact hq
end
section
variable {prog : Program} {w : World} {A : Around} {E : Value → Shared → Prop} {R : Result → Shared → Prop} {h : Heap} {g : Array GenState} {d : Drawn} {t : Nat} {os : OsState}
variable {nm q : Str} {C N : Addr} {bs : List Value} {sn : List Str} {sub : List Value} {ab : Bool} {col : Option Bool} {dd : Option Addr} {k0 k1 k2 k3 k5 : Option Value}
theorem ke_new {more : List Value} (at_ : h.get? C = some (keObj nm q C N bs sn sub ab col dd k0 k1 k2 k3 k5)) (few : more.length ≤ sizeLine)
    (hq : R (.ok (.ret (.ref (h.objs.size + 1)))) ⟨(h.push (PySem.W.kdv_tup more)).push (excO C h.objs.size), g, d, t, os⟩) : codeAny (model prog w) A (.builtin "LookupError.__new__" ⟨.ref C :: more, []⟩) R ⟨h, g, d, t, os⟩ := by
  have ends_ := PySem.F.excBase_LookupError.ends
  have c1 := ke_has C; have c2 := ke_noA C; have c3 := ke_noN C
  refine codeAny_builtinAt PySem.F.excBase_LookupError.entry ?_
  unfold Builtin.«BaseException.__new__»
  refine PySem.wpAt_bind ?_
  show PySem.wpAt _ _ _ (stack >>= _) _ _ _
  refine PySem.wpAt_bind (PySem.wpAt_stack fun p below => PySem.wpAt_of_wpAny ?_)
  wp_walk
  refine PySem.wpAt_of_wpAny ?_
  rw [PySem.F.excBase_LookupError.owner]
  repeat (first | with_reducible refine wpAny_madeHere_exc PySem.F.excBase_LookupError.canon at_ ?_ | with_reducible refine wpAny_loadPart_at at_ ?_ | (with_reducible refine wpAny_isSubtype_exc at_ ?_; first | rw [c1] | rw [c2] | rw [c3]) | wp_step)
  show R _ _
  rw [Heap.size_push]
  exact hq
theorem ke_type_call {more : List Value} {fI : Addr} {Q : Fin → Shared → Prop} (at_ : h.get? C = some (keObj nm q C N bs sn sub ab col dd k0 k1 k2 k3 k5))
    (li : PySem.W.Looks (model prog w) h (typeLookup (.ref C) "__init__") (some (.ref fI))) (lb : ∀ self, PySem.W.Looks (model prog w) h (bindSpecial (.ref fI) self) (.ref fI, [self])) (few : more.length ≤ sizeLine)
    (hq : codeAny (model prog w) A (.call (.ref fI) ⟨.ref (h.objs.size + 1) :: more, []⟩) (fun r s' => match r with | .ok (.ret v) => v = .none ∧ Q (.done (.ret (.ref (h.objs.size + 1)))) s' | .ok _ => False | .error e => E e s')
      ⟨(h.push (PySem.W.kdv_tup more)).push (excO C h.objs.size), g, d, t, os⟩) : wpAny (model prog w) A (Builtin.«type.__call__» ⟨.ref C :: more, []⟩) Q E ⟨h, g, d, t, os⟩ := by
  repeat (first | with_reducible refine wpAny_loadPart_at at_ ?_ | with_reducible refine wpAny_madeBy_exc at_ ?_ | wp_step)
  refine codeAny_call_builtin_code (Code.quiet_builtin _ PySem.F.excBase_LookupError.quiet) (ke_check at_ (ke_new at_ few ?_))
  show wpAny _ _ _ _ _ _
  have k : ∀ b o, h.get? b = some o → ((h.push (PySem.W.kdv_tup more)).push (excO C h.objs.size)).get? b = some o := fun b o e => Heap.get?_push_of_some _ (Heap.get?_push_of_some _ e)
  have at1 := k _ _ at_
  have at2 : ((h.push (PySem.W.kdv_tup more)).push (excO C h.objs.size)).get? (h.objs.size + 1) = some (excO C h.objs.size) := by heap_get
  have c0 : (Value.ref C :: keTail).contains (.ref C) = true := by simp
  have i1 := li.keeps k; have b1 := (lb (.ref (h.objs.size + 1))).keeps k
  unfold isInstance
  repeat (first | with_reducible refine wpAny_loadPart_at at2 ?_ | (with_reducible refine wpAny_isSubtype_exc at1 ?_; rw [c0]) | wp_step)
  show wpAny _ _ (typeLookup (.ref C) _) _ _ _
  refine i1.at (wpAny_holding (wpAny_bind (b1.at (wpAny_bind (wpAny_call (codeAny_mono hq fun r s' z => ?_))))))
  rcases r with e | (v | _ | _ | _) <;> first | exact z | exact z.elim | skip
  obtain ⟨rfl, z⟩ := z
  first | exact wpAny_pure (wpAny_pure z) | (wp_walk; exact z)
theorem ke_call {more : List Value} {fI : Addr} (at_ : h.get? C = some (keObj nm q C N bs sn sub ab col dd k0 k1 k2 k3 k5))
    (li : PySem.W.Looks (model prog w) h (typeLookup (.ref C) "__init__") (some (.ref fI))) (lb : ∀ self, PySem.W.Looks (model prog w) h (bindSpecial (.ref fI) self) (.ref fI, [self])) (few : more.length ≤ sizeLine)
    (hq : codeAny (model prog w) (A.under (.builtin "type.__call__" ⟨.ref C :: more, []⟩)) (.call (.ref fI) ⟨.ref (h.objs.size + 1) :: more, []⟩) (PySem.W.InitBack (h.objs.size + 1) R) ⟨(h.push (PySem.W.kdv_tup more)).push (excO C h.objs.size), g, d, t, os⟩) :
    codeAny (model prog w) A (.call (.ref C) ⟨more, []⟩) R ⟨h, g, d, t, os⟩ := by
  have f1 := tc_lookup; have f2 := tc_bind (.ref C)
  have ty : (⟨h, g, d, t, os⟩ : Shared).TypeIs (.ref C) "type" := ⟨_, at_, rfl⟩
  refine codeAny_of_tree ?_; show wpAny _ _ (callAny (.ref C) _) _ _ _
  repeat (any_goals (first | assumption | with_reducible refine wpAny_loadPart_at at_ ?_ | wp_step))
  refine ⟨rfl, codeAny_call_builtin_at (Code.quiet_builtin _ (by decide +kernel)) entry_typeCall (wpAny_check_type_call_sub at_ (ke_type_call at_ li lb few (codeAny_mono hq fun r s' z => ?_)))⟩
  rcases r with e | (v | _ | _ | _) <;> exact z
end
section
variable {prog : Program} {w : World} {A : Around} {E : Value → Shared → Prop} {R : Result → Shared → Prop} {hp : Heap} {g : Array GenState} {d : Drawn} {t : Nat} {os : OsState}
/-- self.name = v on a new one -/
theorem ke_store {K : PySem.W.Frag} {name : Str} {tk : Tok} {v : Value} {x C : Addr} {fv : Array Value} {cd : ClassData} (kin : K.In hp) (at_ : hp.get? x = some { cls := .ref C, data := .fields fv }) (hcd : PySem.W.clsIn K C = some cd) (hm : cd.mro = .ref C :: keTail) (hh : cd.hasDict = true)
    (no : PySem.W.findIn K (.ref C) name = some none)
    (hq : ∀ h' tk' dx, (∀ b o, b ≠ x → hp.get? b = some o → h'.get? b = some o) → hp.objs.size ≤ dx → dx ≠ x → h'.get? x = some { cls := .ref C, dict := some dx, data := .fields fv } →
      h'.Ns1 dx (fun y => if y = name then some v else none) → R (.ok (.ret .none)) ⟨h', g, d, tk', os⟩) :
    codeAny (model prog w) A (.call (.builtin "object.__setattr__") ⟨[.ref x, .str name tk, v], []⟩) R ⟨hp, g, d, t, os⟩ := by
  have inst : PySem.W.InstAt hp x { cls := .ref C, data := .fields fv } C none := ⟨at_, rfl, rfl, trivial⟩
  have sf := PySem.F.store_object
  have nx : x ≠ hp.objs.size := Nat.ne_of_lt (Heap.lt_size at_)
  have isb : PySem.W.Looks (model prog w) hp (isInstance (.ref x) (.type "object")) true := inst.type.andThen (PySem.W.looks_mroIn kin (by unfold PySem.W.mroIn; rw [hcd, Option.bind_some, hm, if_neg (fun q => nomatch q), ke_ob]))
  refine codeAny_call_builtin sf.slot.plain sf.entry (@PySem.W.check_slot (model prog w) _ _ ⟨hp, g, d, t, os⟩ "object.__setattr__" "object" "__setattr__" (.ref x) [.str name tk, v] [] _ sf.kind sf.split isb (sf.args (.ref x) (.str name tk) v) ?_)
  have lm : PySem.W.Looks (model prog w) hp (mroOf (.ref C)) cd.mro := (PySem.W.looks_clsIn kin hcd).andThen .now
  have l3 : PySem.W.Looks (model prog w) hp (storeTaker? none) none := .now
  have lc : PySem.W.Looks (model prog w) hp (classData C) cd := PySem.W.looks_clsIn kin hcd
  rw [PySem.W.osa_eq, refuse_eq]
  refine wpAny_bind (wpAny_bind (inst.type.at (wpAny_bind (lm.at ?_)))); rw [hm, ke_pass_own]
  refine wpAny_pure (wpAny_bind (inst.type.at (wpAny_bind ((PySem.W.looks_findIn kin no).at (wpAny_bind (l3.at ?_)))))); show wpAny _ _ (storeInOwnDict (.ref x) (.ref C) (.str name tk) name v false) _ _ _
  obtain ⟨nm, bs, mro, ns, qn, hd, sn, sb, ab, col, del⟩ := cd
  dsimp only at hh; subst hh
  unfold storeInOwnDict ownDictForStores
  repeat (first | with_reducible refine PySem.HandSPX.store_in_new ?_ ?_ | with_reducible refine wpAny_loadPart_at at_ ?_ | with_reducible refine lc.at ?_ | wp_step)
  · exact ⟨_, #[], _, (Heap.get?_update_ne _ _ _ _ nx.symm).trans (Heap.get?_push_at rfl rfl), rfl, fun e he => absurd he (by simp), fun _ => rfl⟩
  · intro h' tk' hn sb2
    have at1 : (hp.push { cls := .type "dict", data := .dict #[] }).get? x = some { cls := .ref C, data := .fields fv } := Heap.get?_push_of_some _ at_
    refine hq h' tk' hp.objs.size (fun b o hb ho => ?_) (Nat.le_refl _) nx.symm ((sb2.2 x nx).trans (Heap.get?_update_self _ at1 rfl)) hn
    exact (sb2.2 b (Nat.ne_of_lt (Heap.lt_size ho))).trans ((Heap.get?_update_ne _ _ _ _ hb).trans (Heap.get?_push_of_some _ ho))
end
end Td
set_option maxHeartbeats 4000000
namespace Td
open PySem PySem.Spec PyProof.Rows L2
/-! ### making and catching such errors, by rules -/
structure KexC (K : PySem.W.Frag) (C : Addr) : Prop where
  cls : ∃ nm q N bs sn sub ab col dd k0 k1 k2 k3 k5, K.lookup C = some (keObj nm q C N bs sn sub ab col dd k0 k1 k2 k3 k5)
  sa : PySem.W.findIn K (.ref C) "__setattr__" = some (some (.builtin "object.__setattr__"))
  exC : PySem.W.subIn K (.ref C) (.type "BaseException") = some true
  tyC : PySem.W.typeIn K (.ref C) = some (.type "type")
  kC : PySem.W.keepIn K (.ref C) = true
section
variable {X : Cx} {pins : List (Addr × Obj)} {σ : L2.St} {H : Hp} {s : Shared} {a C : Addr} {fld : Str} {y : V} {u : Value} {Q : Unit → Shared → Prop} {E : Value → Shared → Prop} {A : Around}
theorem kst_new (T : KexC X.K C) (I : Inv X pins σ H s) (e : H a = some (exo a C none)) (no : PySem.W.findIn X.K (.ref C) fld = some none) (ry : RelV y u)
    (h : ∀ dx s', H dx = none → dx ≠ a → Inv X pins σ (upd (upd H dx (exd dx [(fld, y)])) a (exo a C (some dx))) s' → Q () s') : wpAny (model X.prog X.w) A (setAttr (.ref a) fld u) Q E s := by
  obtain ⟨nm, q, N, bs, sn, sub, ab, col, dd, k0, k1, k2, k3, k5, hC⟩ := T.cls
  have kc : PySem.W.clsIn X.K C = some { name := nm, bases := bs, mro := .ref C :: keTail, ns := N, qualname := q, hasDict := true, slotNames := sn, subclasses := sub, abstract := ab, collection := col, hasDel := false } := by unfold PySem.W.clsIn; rw [hC] <;> rfl
  obtain ⟨t1, ho⟩ := exo_at I.hok e
  obtain ⟨hp, g, d, t, os⟩ := s
  refine PySem.W.set_plain I.kIn (ox := { cls := .ref C, dict := none, data := .fields #[.ref t1, .none, .none, .none, .bool false, .none] }) (od := none) ⟨ho, rfl, rfl, trivial⟩ T.sa ?_
  refine ke_store I.kIn ho kc rfl rfl no fun h' tk' dx k dn dne hx hn => ?_
  have nod : H dx = none := I.hok.fresh dn
  have ned : ∀ {b : Addr} {o : Obj}, hp.get? b = some o → b ≠ dx := fun {b o} q => Nat.ne_of_lt (Nat.lt_of_lt_of_le (Heap.lt_size q) dn)
  have nea : ∀ {b : Addr}, H b = none → b ≠ a := fun {b} n z => by subst z; rw [e] at n; cases n
  have both : ∀ {b : Addr} {o : HO}, H b = some o → b ≠ a → upd (upd H dx (exd dx [(fld, y)])) a (exo a C (some dx)) b = some o := fun {b o} q n => by
    rw [upd_ne n, upd_ne (ne_of_none q nod)]; exact q
  have un : Un X.fs [] H (upd (upd H dx (exd dx [(fld, y)])) a (exo a C (some dx))) hp h' :=
    { keep := fun b o q n _ _ => k b o (nea n) q
      slot := fun b o q n _ _ => ⟨o.slots, k b o (nea n) q⟩
      free := fun b o q n _ => by rw [upd_ne (nea n), upd_ne (ned q)]; exact n
      there := fun b o q _ => by
        by_cases hb : b = a
        · subst hb; exact ⟨_, hx⟩
        · exact ⟨o, k b o hb q⟩
      tups := fun b xs q => both q (at_ne e q exo_tup)
      frzs := fun b o v q => both q (at_ne e q exo_frz)
      tbls := fun b ps q => ⟨#[], by rw [both q (at_ne e q exo_tbl)]; simp⟩ }
  refine h dx _ nod dne (I.un (t' := tk') un fun b o q => ?_)
  by_cases hb : b = a
  · subst hb; rw [upd_same] at q; cases q; exact exo_ok hx
  · rw [upd_ne hb] at q
    by_cases hd : b = dx
    · subst hd; rw [upd_same] at q; cases q; exact exd_ok hn (relO_put (fs := []) ry fun g => True.intro)
    · rw [upd_ne hd] at q
      refine (I.hok b o q).stay (fun c v hc z => k c v ?_ z) (fun c hc => both hc (at_ne e hc exo_own)) (fun c xs hc => both hc (at_ne e hc exo_tup))
      rcases hc with hc | hc
      · rw [hc]; exact hb
      · exact at_ne e hc exo_own
end
def tKst (K : PySem.W.Frag) (fld : Str) (to te : TE) : TS := fun D σ H => te σ H fun y H1 => to σ H1 fun x H2 => ∃ a C : Addr, x = .ref a ∧ KexC K C ∧ PySem.W.findIn K (.ref C) fld = some none ∧ H2 a = some (exo a C none) ∧
  ∀ dx, H2 dx = none → dx ≠ a → D.nx σ (upd (upd H2 dx (exd dx [(fld, y)])) a (exo a C (some dx)))
theorem ps_kst {X : Cx} {o e : Expr} {to te : TE} {fld : Str} {p' pos : Pos} (ho : PE X o to) (he : PE X e te) (hs : swapsWith e (some (.Attribute o fld p')) pos.line X.env = pure false := by rfl) : PS X (.Assign [.Attribute o fld p'] e pos) (tKst X.K fld to te) := by
  refine ⟨fun pins s σ H D I h => plainObj_wpAny_Assign_Attribute (thn (he.run pins s σ H _ I h) fun v s1 ⟨y, H1, I1, r1, q1⟩ => thn (ho.run pins s1 σ H1 _ I1 q1) fun u s2 ⟨x, H2, I2, r2, a, C, ex, T, no, ea, q⟩ => ?_) hs⟩
  subst ex
  obtain rfl : u = Value.ref a := r2
  exact kst_new T I2 ea no r1 fun dx s' n ne J => ⟨σ, _, J, q dx n ne⟩
/-- C(e): its __init__ keeps sp -/
theorem pmk_kex {X : Cx} {CX : CXT} {x : Str} {C fI : Addr} {k : Nat} {fd : FuncData} {ps : List Str} {sp : Sp} {e : Expr} {es : List Expr} {ta : TA} {p pos : Pos} (T : KexC X.K C) (iC : PySem.W.findIn X.K (.ref C) "__init__" = some (some (.ref fI))) (tI : PySem.W.typeIn X.K (.ref fI) = some (.type "function"))
    (F1 : FnOk X.prog X.w X.K X.mg X.base CX k fI fd ps sp) (hr : Room (k + 1) X.A) (hb : Binds X.K fd ps []) (hx : Passes CX X (fun _ _ _ => False)) (hg : Gl X x) (hm : X.mg x = some (.ref C)) (ha : PA X (e :: es) ta)
    (hdb : (x == ("__debug__" : Str)) = false := by decide) (he : starEach (e :: es) X.env = (false, eval e X.env) :: starEach es X.env := by rfl) (hpl : (backTo pos (starEach es X.env)).any (·.1) = false := by rfl) :
    PMk X (.Call (.Name x p) (e :: es) [] pos) (tMkO C sp [] ta) := by
  intro pins s σ H Q I h
  obtain ⟨nm, q, N, bs, sn, sub, ab, col, dd, k0, k1, k2, k3, k5, hC⟩ := T.cls
  refine wpAny_Call_Name_kw (ld_glob I hg hm (PySem.W.callWith_K (h₀ := X.base) I.ok.mod.kin T.kC (thn (ha.run pos pins s σ H _ I h) fun us s1 ⟨vs, H1, I1, r1, hz, q1⟩ => ⟨I1.kIn, ?_⟩) he hpl) hdb)
  show wpAny _ _ (call (.ref C) us) _ _ _
  obtain ⟨hp, g, dr, tk, os⟩ := s1
  have le1 : hp.objs.size ≤ hp.objs.size + 1 := Nat.le_succ _
  have hn : H1 (hp.objs.size + 1) = none := I1.hok.fresh le1
  have hq := q1 (hp.objs.size + 1) hn
  have kk : ∀ b o, hp.get? b = some o → ((hp.push (PySem.W.kdv_tup us)).push (PySem.HandSPX.excO C hp.objs.size)).get? b = some o := fun b o z => Heap.get?_push_of_some _ (Heap.get?_push_of_some _ z)
  have at1 : ((hp.push (PySem.W.kdv_tup us)).push (PySem.HandSPX.excO C hp.objs.size)).get? (hp.objs.size + 1) = some (PySem.HandSPX.excO C hp.objs.size) := by heap_get
  have I2 : Inv X pins σ (upd H1 (hp.objs.size + 1) (exo (hp.objs.size + 1) C none)) ⟨(hp.push (PySem.W.kdv_tup us)).push (PySem.HandSPX.excO C hp.objs.size), g, dr, tk, os⟩ :=
    I1.laid (t' := tk) (a := hp.objs.size + 1) (o := exo (hp.objs.size + 1) C none) (h' := (hp.push (PySem.W.kdv_tup us)).push (PySem.HandSPX.excO C hp.objs.size)) kk le1 (exo_ok at1)
  have r2 : Vals (V.ref (hp.objs.size + 1) :: (vs ++ [])) (Value.ref (hp.objs.size + 1) :: (us ++ [])) := .cons rfl (r1.append .nil)
  have hl : (Value.ref (hp.objs.size + 1) :: us ++ []).length = ps.length := by
    have z := r2.length
    rw [F1.len _ _ _ _ hq] at z
    exact z.symm
  have few : us.length ≤ sizeLine := by
    rw [← Paired.length r1, sizeLine_eq]; omega
  have hb2 := hb _ (Value.ref (hp.objs.size + 1) :: us) I2.kIn hl
  rw [List.cons_append] at hb2
  refine wpAny_call (ke_call (I1.kIn _ _ hC) (PySem.W.looks_findIn I1.kIn iC) (fun self => PySem.W.bind_fn I1.kIn self tI) few (codeAny_mono (F1.run _ X.stack _ _ ⟨Value.ref (hp.objs.size + 1) :: us, []⟩ (Value.ref (hp.objs.size + 1) :: (us ++ [])) _ _ (fun _ _ _ => False)
    (hr.make C us []) (I2.env0.make C us []) hb2 r2 hq) fun r s' z => ?_))
  cases r with
  | error er => exact hx pins σ _ _ er s' I2 z
  | ok fl =>
    cases fl with
    | ret u =>
      obtain ⟨v, H2, os2, bare2, un2, hok2, rv, ev, d, fs, ea, ed, hd1, q2⟩ := z
      subst ev
      obtain ⟨h2, g2, d2, t2, os'⟩ := s'
      exact ⟨rv, mk_end (raises_own T.exC T.tyC) I1 le1 kk un2 hok2 os2 bare2 ea ed hd1 q2⟩
    | next => exact False.elim z
    | brk => exact False.elim z
    | cont => exact False.elim z
end Td
set_option maxHeartbeats 4000000
namespace Td
open PySem PySem.Spec PyProof.Rows L2
/-! ### try: .. except A as n: .. and further clauses behind it: what the body raises is caught by the first -/
/-- behind the suite: the name is gone -/
def Ends_ (D : Ends) (i : Nat) : Ends := { nx := fun σ H => D.nx (σ.set i none) H, rt := D.rt, bk := fun σ H => D.bk (σ.set i none) H, ct := fun σ H => D.ct (σ.set i none) H }
abbrev Cls_ := Value × Nat × (Addr → Value → Option Addr → TS)
/-- one of the clauses catches it -/
def wSeq (K : PySem.W.Frag) (D : Ends) : List Cls_ → WX
  | [] => fun _ _ _ _ => False
  | (c, i, ts) :: r => fun cls d σ H => (PySem.W.exmOne K cls c = some true ∧ ∀ a, H a = none → ts a cls d (Ends_ D i) (σ.set i (some (.ref a))) H) ∨ (PySem.W.exmOne K cls c = some false ∧ wSeq K D r cls d σ H)
/-- clauses with a name; what stands behind them never matters -/
inductive HdsAs (X : Cx) : List ExceptHandler → List Cls_ → Prop
  | any (hds : List ExceptHandler) : HdsAs X hds []
  | cons {x n : Str} {c : Value} {i : Nat} {ts : Addr → Value → Option Addr → TS} {b₀ : Stmt} {suite : List Stmt} {np pos' : Pos} {hds : List ExceptHandler} {l : List Cls_} (nam : Names X x c) (at_ : X.N[i]? = some n) (lcl : X.env.kindOf n = some .local)
      (caught : ∀ (a : Addr) (oe : Obj) (cls : Value) (d : Option Addr) (pn : List (Addr × Obj)), Zc cls d oe → (∃ vs, oe.data = .fields vs) → PSs (X.suite a ((a, oe) :: pn)) (b₀ :: suite) (ts a cls d)) (r : HdsAs X hds l) :
      HdsAs X (.ExceptHandler (some (.Name x np)) (some n) (b₀ :: suite) pos' :: hds) ((c, i, ts) :: l)
theorem ps_try_seq {X : Cx} {body : List Stmt} {h₀ : ExceptHandler} {hds : List ExceptHandler} {l : List Cls_} {pos : Pos} {tb : WX → TS}
    (stk : X.stack = X.env :: X.outer) (frm : X.env.frame = some X.env.locals) (nd : X.N.Nodup)
    (inner : ∀ (W : WX) (pn : List (Addr × Obj)) (xe : Value → Shared → Prop), Takes (X.tr pn xe) W → PassesOwn (model X.prog X.w) X.A X.env xe → PSs (X.tr pn xe) body (tb W))
    (hh : HdsAs X (h₀ :: hds) l) : PS X (.Try body (h₀ :: hds) [] [] pos) (fun D σ H => tb (wSeq X.K D l) D σ H) := by
  refine ⟨fun pins s σ H D I h => ?_⟩
  have okI := I.ok
  have frs_ : X.A.frames = some (X.env :: X.outer) := okI.frames.trans (congrArg some stk)
  refine wpAny_Try_except (wpAny_mono ((inner (wSeq X.K D l) (X.pn ++ pins) (fun e s1 => wpAny (model X.prog X.w) X.A (noteFrame e X.env) (fun _ s2 => wpAny (model X.prog X.w) X.A (setFlight e none) (fun _ s3 =>
    wpAny (model X.prog X.w) X.A (handleBy e X.env (h₀ :: hds)) (SP X pins D) X.xe s3) X.xe s2) X.xe s1) (fun u s2 xx => ?_) PassesOwn.looking).run [] s σ H D (I.toTry _) h) (fun f s1 q => ?_) (fun e s1 z => z))
  · obtain ⟨a, B, s0, pins2, σ2, H2, cls, d, rfl, J0, nb, up, sky, na, os, ag, wish⟩ := xx
    have J : Inv X pins σ2 H2 s0 := J0.ofTry okI
    have sky2 : Sky B (X.env :: X.outer) a (Zc cls d) X.env.locals s2.heap := stk ▸ sky
    show wpAny (model X.prog X.w) X.A (noteFrame (.ref a) X.env) _ _ _
    refine Sky.land Zc.steady frs_ frm sky2 fun g3 fl3 up3 => ?_
    have J3 : Inv X pins σ2 H2 { s2 with heap := g3 } := J.landed nb fl3.1 (up.trans up3) os ag
    obtain ⟨o3, v3, at3, z3, d3⟩ := fl3.there
    have nfr : a ∉ frs (X.env :: X.outer) := fun hm => by
      obtain ⟨_, o, e, nf⟩ := fl3.2.2.1.mem hm
      rw [at3] at e; cases e
      exact nf _ d3
    have nL : a ≠ X.env.locals := fun z => nfr (List.mem_filterMap.mpr ⟨X.env, List.mem_cons_self, by rw [frm, z]⟩)
    have nF : a ∉ X.fs := fun hm => by
      obtain ⟨e, he, q⟩ := List.mem_filterMap.mp hm
      exact nfr (List.mem_filterMap.mpr ⟨e, List.mem_cons_of_mem _ he, q⟩)
    have S3 := J3.suite at3 d3 na nL nF
    have look : PySem.W.Looks (model X.prog X.w) g3 (typeOf (.ref a)) cls := fun A Q E s k q => wpAny_typeOf_ref (k _ _ at3) (by rw [z3.1]; exact q)
    have go : ∀ {hs : List ExceptHandler} {l2 : List Cls_}, HdsAs X hs l2 → wSeq X.K D l2 cls d σ2 H2 → wpAny (model X.prog X.w) X.A (handleBy (.ref a) X.env hs) (SP X pins D) X.xe { s2 with heap := g3 } := by
      intro hs l2 hk
      induction hk with
      | any => intro z; exact False.elim z
      | @cons x n c i ts b₀ suite np pos' hs2 l3 nam at_ lcl caught r ih =>
        intro wish
        refine wpAny_handleBy_cons (codeAny_handlers_test ?_) (fun q => nomatch q)
        have test : ∀ {Q E : Value → Shared → Prop}, Q c { s2 with heap := g3 } → wpAny (model X.prog X.w) (X.A.mark (some (.ref a))) (eval (.Name x np) X.env) Q E { s2 with heap := g3 } := fun {Q E} q => by
          obtain ⟨hg, db, hm | ⟨hm, hv, nn⟩⟩ := nam
          · exact ld_glob (X := X.suite a ((a, o3) :: (X.pn ++ pins))) S3 hg hm q db
          · exact ld_blt (X := X.suite a ((a, o3) :: (X.pn ++ pins))) S3 hg hm hv q nn db
        rcases wish with ⟨hit, go1⟩ | ⟨hit, on⟩
        · refine test ((PySem.W.exm_one (M := model X.prog X.w) J3.kIn look hit).here (codeAny_handlers_suite_as (HandSPX.lands_againZ fl3 fun g4 fl4 up4 => ?_)))
          have J4 : Inv X pins σ2 H2 { s2 with heap := g4 } := J.landed nb fl4.1 ((up.trans up3).trans up4) os ag
          obtain ⟨o4, v4, at4, z4, d4⟩ := fl4.there
          refine store_ok (X := X.suite a ((a, o4) :: (X.pn ++ pins))) (v := .ref a) (J4.suite at4 d4 na nL nF) nd at_ (Or.inl lcl : Loc X.env.scope n) rfl (fun s5 S5 => ?_) (.inr lcl)
          refine wpAny_mono ((caught a o4 cls d (X.pn ++ pins) z4 ⟨_, d4⟩).run [] s5 _ H2 _ S5 (go1 a na)) (fun f s6 q => ?_) (fun _ _ z => z.elim)
          have over : ∀ {σ6 : L2.St} {H6 : Hp} {Q : Shared → Prop}, Inv (X.suite a ((a, o4) :: (X.pn ++ pins))) [] σ6 H6 s6 → (∀ s7, Inv X pins (σ6.set i none) H6 s7 → Q s7) →
              wpAny (model X.prog X.w) X.A (do bindName X.env n .none; unbindBehindTheSuite X.env n pos') (fun _ s7 => Q s7) X.xe s6 := fun {σ6 H6 Q} S6 hq => gone_ok (S6.unsuite okI) nd at_ lcl hq
          cases f with
          | next => obtain ⟨σ6, H6, S6, q6⟩ := q; exact over S6 fun s7 J7 => ⟨_, _, J7, q6⟩
          | brk => obtain ⟨σ6, H6, S6, q6⟩ := q; exact over S6 fun s7 J7 => ⟨_, _, J7, q6⟩
          | cont => obtain ⟨σ6, H6, S6, q6⟩ := q; exact over S6 fun s7 J7 => ⟨_, _, J7, q6⟩
          | ret u => obtain ⟨v6, σ6, H6, S6, r6, q6⟩ := q; exact over S6 fun s7 J7 => ⟨_, _, _, J7, r6, q6⟩
        · refine test ((PySem.W.exm_one (M := model X.prog X.w) J3.kIn look hit).here ?_)
          exact ih on
    exact go hh wish
  · cases f with
    | next => obtain ⟨σ2, H2, J2, r⟩ := q; exact wpAny_execs_nil ⟨σ2, H2, J2.ofTry okI, r⟩
    | brk => obtain ⟨σ2, H2, J2, r⟩ := q; exact ⟨σ2, H2, J2.ofTry okI, r⟩
    | cont => obtain ⟨σ2, H2, J2, r⟩ := q; exact ⟨σ2, H2, J2.ofTry okI, r⟩
    | ret u => obtain ⟨v, σ2, H2, J2, e, r⟩ := q; exact ⟨v, σ2, H2, J2.ofTry okI, e, r⟩
end Td
set_option maxHeartbeats 4000000
namespace Td
open PySem PySem.Spec PyProof.Rows L2
/-! ### isinstance of a caught error that has a dict -/
section
variable {prog : Program} {w : World} {A : Around} {E : Value → Shared → Prop} {s : Shared} {K : PySem.W.Frag} {x D : Addr} {ox : Obj} {od : Option Obj}
theorem find_data {C : Addr} {name : Str} {a g : Value} (hc : (PySem.W.clsIn K C).isSome = true) (ha : PySem.W.findIn K (.ref C) name = some (some a)) (hg : PySem.W.specialIn K a "__get__" = some (some g)) (ht : PySem.W.takesIn K a = some true) :
    PySem.W.findObj K C od name = some (.bind g a) := by
  obtain ⟨cd, e⟩ := Option.isSome_iff_exists.mp hc
  unfold PySem.W.findObj; rw [e, Option.bind_some, ha, Option.bind_some]
  simp [hg, ht]
theorem class_of_exc {Q : Option Value → Shared → Prop} (T : ExcC K D) (kin : K.In s.heap) (I : PySem.W.InstAt s.heap x ox D od) (h : Q (some (.ref D)) { s with toks := s.toks + 1 }) : wpAny (model prog w) A (getAttr? (.ref x) "__class__") Q E s := by
  have fnd : PySem.W.findObj K D od "__class__" = some (.bind (.builtin "getset_descriptor.__get__") (.builtin "object.__class__")) := find_data (by obtain ⟨cd, e, _⟩ := PySem.W.any_some T.hd; rw [e]; rfl) T.ha T.hn T.ht
  obtain ⟨hp, g, d, t, os⟩ := s
  have w0 := I.type (M := model prog w); have w1 := PySem.W.looks_findIn (M := model prog w) kin T.hg
  have w2 := PySem.W.looks_findIn (M := model prog w) kin T.hk; have w3 := PySem.W.looks_find (M := model prog w) kin I fnd
  have isE : PySem.W.Looks (model prog w) hp (isInstance (.ref x) (.type "BaseException")) true := w0.andThen (PySem.W.looks_subIn kin T.hs)
  have e0 : (Value.builtin "BaseException.__getattribute__" == Value.builtin "object.__getattribute__") = false := by decide +kernel
  have e1 : (onTheHeap (Value.ref D) && Value.builtin "BaseException.__getattribute__" == Value.builtin "object.__getattribute__") = false := by rw [e0]; rfl
  have e2 : (false && onTheHeap (Value.builtin "BaseException.__getattribute__")) = false := rfl
  unfold getAttr? getAttrBy? getAttrBy
  refine wpAny_bind (wpAny_mkText (wpAny_bind (wpAny_attempt (wpAny_holding (wpAny_bind (w0.at (wpAny_bind (w1.at ?_))))))))
  show wpAny _ _ (if (onTheHeap (Value.ref D) && Value.builtin "BaseException.__getattribute__" == Value.builtin "object.__getattribute__") = true then _ else _) _ _ _; rw [e1, if_neg Bool.false_ne_true]
  unfold getAttrByItsOwn hookBefore
  refine wpAny_bind ?_; rw [if_pos (show onTheHeap (Value.ref D) = true from rfl)]
  refine w2.at (wpAny_bind (wpAny_attempt (wpAny_holding ?_))); unfold callGetattribute; rw [e2, if_neg Bool.false_ne_true]
  unfold boundAndCalled; rw [PySem.F.excAttr_ValueError.ga.bind (.ref x)]
  refine wpAny_bind (wpAny_pure ?_); show wpAny _ _ (call (.builtin "BaseException.__getattribute__") [.ref x, .str "__class__" t]) _ _ _
  refine wpAny_call (codeAny_call_builtin PySem.F.excAttr_ValueError.ga.plain PySem.F.entry_bexc_ga (@PySem.W.check_slot (model prog w) _ _ ⟨hp, g, d, t + 1, os⟩ "BaseException.__getattribute__" "BaseException" "__getattribute__" (.ref x) [.str "__class__" t] [] _ (by decide +kernel) (by decide +kernel) isE (PySem.F.args_bexc_ga (.ref x) (.str "__class__" t)) ?_))
  unfold Builtin.«object.__getattribute__»
  refine wpAny_bind (wpAny_of_eq (a := ((Value.ref x : Value), [Value.str "__class__" t])) (by first | rfl | (simp only [slotArgs]; rfl)) (wpAny_bind (wpAny_pure (wpAny_bind (w0.at (wpAny_bind (w3.at ?_)))))))
  show wpAny _ _ (holding [Value.builtin "object.__class__"] (call (.builtin "getset_descriptor.__get__") [.builtin "object.__class__", .ref x, .ref D]) >>= ret) _ _ _
  refine wpAny_bind (wpAny_holding (wpAny_call (PySem.W.class_get (s := ⟨hp, g, d, t + 1, os⟩) (ox := ox) (od := od) kin I T.hm ?_)))
  refine wpAny_pure ?_; show wpAny _ _ (handedOut (.ref D)) _ _ _; rw [PySem.W.handedOut_of (v := .ref D) rfl]
  first | exact wpAny_pure (wpAny_pure h) | exact wpAny_pure h | exact wpAny_pure (wpAny_bind (wpAny_pure (wpAny_pure h)))
theorem kitx_excD (T : ExcC K D) : PySem.W.KitX K (.ref x) (.ref D) (fun h => PySem.W.InstAt h x ox D od) := by
  have Z := PySem.W.handS_kitx_exc (x := x) (ox := ox) T.hg T.hk T.hs T.hd T.ha T.hn T.ht T.hm
  obtain ⟨cdD, hcD, _⟩ := PySem.W.any_some T.hd
  have there : ∃ o, K.lookup D = some o ∧ ∃ z, o.data = .cls z := by
    unfold PySem.W.clsIn at hcD
    split at hcD
    · rename_i c' d' cd' sl' ho
      exact ⟨_, ho, cd', rfl⟩
    · cases hcD
  refine { ty := fun _ _ _ I => I.type, it := fun _ _ kin _ => ?_, ne := fun h tp dd its n sl kin at_ => ?_, ca := fun kin I k => class_of_exc T kin I k }
  · obtain ⟨o, ho, z, e⟩ := there
    intro A' Q' E' s' k q
    unfold isType loadHead
    refine wpAny_bind (wpAny_loadPart (k _ _ (kin _ _ ho)) (wpAny_pure ?_))
    rw [e]
    exact q
  · obtain ⟨o, ho, z, e⟩ := there
    refine Bool.eq_false_iff.mpr fun q => ?_
    have e2 : D = tp := Value.ref.inj (beq_iff_eq.mp q)
    subst e2
    have e3 := (kin _ _ ho).symm.trans at_
    cases e3
    cases e
end
/-- isinstance(e, c): c a class; isinstance(e, (c, ..)) -/
def rIsX (K : PySem.W.Frag) (a : Addr) (cls : Value) (d : Option Addr) : List V → Hp → VK → Prop := fun xs H Q => ∃ (D dd : Addr) (fs : List (Str × V)) (c u : _) (b : Bool), cls = .ref D ∧ ExcC K D ∧ d = some dd ∧ H dd = some (.xd fs) ∧ xs = [.ref a, c] ∧ ClsV c u ∧ PySem.W.kitOne K (.ref D) u = some b ∧ Q (.bl b) H
def rIsXT (K : PySem.W.Frag) (a : Addr) (cls : Value) (d : Option Addr) : List V → Hp → VK → Prop := fun xs H Q => ∃ (D dd tp : Addr) (fs : List (Str × V)) (cs : List V) (us : List Value) (b : Bool), cls = .ref D ∧ ExcC K D ∧ d = some dd ∧ H dd = some (.xd fs) ∧ xs = [.ref a, .ref tp] ∧
  H tp = some (.tup cs) ∧ Paired ClsV cs us ∧ PySem.W.kitAny K (.ref D) us = some b ∧ Q (.bl b) H
section
variable {X : Cx} {a : Addr} {oe : Obj} {cls : Value} {d : Option Addr} {pn : List (Addr × Obj)}
theorem inst_of {pins : List (Addr × Obj)} {σ : L2.St} {H : Hp} {s : Shared} {D dd : Addr} {fs : List (Str × V)} (I : Inv (X.suite a ((a, oe) :: pn)) pins σ H s) (hz : Zc (.ref D) (some dd) oe) (hf : ∃ vs, oe.data = .fields vs) (hd : H dd = some (.xd fs)) :
    ∃ od, PySem.W.InstAt s.heap a oe D (some od) := by
  obtain ⟨hget, _⟩ := I.pin (a, oe) (List.mem_append.mpr (.inl List.mem_cons_self))
  obtain ⟨vs, hv⟩ := hf
  obtain ⟨mA, hns, _⟩ := (show ObjOk X.prog X.w H s.heap dd (.xd fs) from I.hok dd _ hd)
  obtain ⟨od, ho, _⟩ := lookIn_ns hns
  exact ⟨od, hget, hz.1, by unfold PySem.W.notCls; rw [hv] <;> rfl, by rw [hz.2]; exact ho⟩
theorem call_isX (hz : Zc cls d oe) (hf : ∃ vs, oe.data = .fields vs) : CallR (X.suite a ((a, oe) :: pn)) (.builtin "isinstance") (rIsX X.K a cls d) := by
  intro pins s σ H xs us Q I r h
  obtain ⟨D, dd, fs, c, u, b, rfl, T, rfl, hd, rfl, kc, e, q⟩ := h
  obtain ⟨u1, u2, rfl, r1, r2⟩ := vals2 r
  cases r1
  have e2 := kc.eq r2
  subst e2
  obtain ⟨od, J⟩ := inst_of I hz hf hd
  exact PySem.W.kia_one (kitx_excD T) I.kIn J e (fun z => nomatch z) fun tk => ⟨.bl b, H, I.tok tk, rfl, q⟩
theorem call_isXT (hz : Zc cls d oe) (hf : ∃ vs, oe.data = .fields vs) : CallR (X.suite a ((a, oe) :: pn)) (.builtin "isinstance") (rIsXT X.K a cls d) := by
  intro pins s σ H xs us Q I r h
  obtain ⟨D, dd, tp, fs, cs, ws, b, rfl, T, rfl, hd, rfl, ht, pc, e, q⟩ := h
  obtain ⟨u1, u2, rfl, r1, r2⟩ := vals2 r
  cases r1
  cases r2
  obtain ⟨its, rv, hp, hl⟩ := I.tuple (SqT.of ht)
  have e2 := ClsV.all pc rv
  subst e2
  obtain ⟨od, J⟩ := inst_of I hz hf hd
  obtain ⟨⟨oc, odd, oda, osl⟩, h1, h2, n, h3⟩ := hp
  dsimp only at h2 h3
  subst h2; subst h3
  exact PySem.W.kia_tup (kitx_excD T) I.kIn J h1 e (fun z => nomatch z) fun tk => ⟨.bl b, H, I.tok tk, rfl, q⟩
end
end Td
set_option maxHeartbeats 4000000
namespace Td
open PySem PySem.Spec PyProof.Rows L2
/-! ### what the written part says of such a class, as a Bool -/
def keB (K : PySem.W.Frag) (C : Addr) : Bool := match K.lookup C with
  | some ⟨.type ty, _, .cls cd, sl⟩ => decide (ty = "type") && (decide (cd.mro = .ref C :: keTail) && (cd.hasDict && (!cd.hasDel && (match sl.toList with
    | [_, _, _, _, some (.builtin n), _] => decide (n = "LookupError.__new__")
    | _ => false))))
  | _ => false
theorem keB_ok {K : PySem.W.Frag} {C : Addr} (h : keB K C = true) : ∃ nm q N bs sn sub ab col dd k0 k1 k2 k3 k5, K.lookup C = some (keObj nm q C N bs sn sub ab col dd k0 k1 k2 k3 k5) := by
  unfold keB at h
  split at h
  · rename_i ty dd cd sl ho
    simp only [Bool.and_eq_true, decide_eq_true_eq, Bool.not_eq_true'] at h
    obtain ⟨rfl, hm, hd, hx, hs⟩ := h
    split at hs
    · rename_i k0 k1 k2 k3 n k5 hl
      obtain rfl : n = "LookupError.__new__" := of_decide_eq_true hs
      obtain ⟨nm, bs, mro, ns, qn, hdc, sn, sub, ab, col, del⟩ := cd
      dsimp only at hm hd hx
      subst hm hd hx
      obtain ⟨l⟩ := sl
      simp only at hl
      subst hl
      exact ⟨nm, qn, ns, bs, sn, sub, ab, col, dd, k0, k1, k2, k3, k5, ho⟩
    · cases hs
  · cases h
structure ErrT (K : PySem.W.Frag) (x : Str) : Prop where
  kx : KexC K (He.ga K x)
  xf : XfC K (He.ga K x)
  ec : ExcC K (He.ga K x)
  no : PySem.W.findIn K (.ref (He.ga K x)) "name" = some none
  iC : PySem.W.findIn K (.ref (He.ga K x)) "__init__" = some (some (.ref (He.ma K (He.ga K x) "__init__")))
  tI : PySem.W.typeIn K (.ref (He.ma K (He.ga K x) "__init__")) = some (.type "function")
  me : PySem.W.exmOne K (.ref (He.ga K x)) (.ref (He.ga K x)) = some true
def errB (K : PySem.W.Frag) (x : Str) : Bool := keB K (He.ga K x) && (decide (PySem.W.findIn K (.ref (He.ga K x)) "__setattr__" = some (some (.builtin "object.__setattr__"))) && (decide (PySem.W.subIn K (.ref (He.ga K x)) (.type "BaseException") = some true) &&
  (decide (PySem.W.typeIn K (.ref (He.ga K x)) = some (.type "type")) && (PySem.W.keepIn K (.ref (He.ga K x)) && (xfB K (He.ga K x) && (decide (PySem.W.findIn K (.ref (He.ga K x)) "__class__" = some (some (.builtin "object.__class__"))) &&
  (decide (PySem.W.specialIn K (.builtin "object.__class__") "__get__" = some (some (.builtin "getset_descriptor.__get__"))) && (decide (PySem.W.takesIn K (.builtin "object.__class__") = some true) && (decide (PySem.W.mroIn K (He.ga K x) (.type "object") = some true) &&
  (decide (PySem.W.findIn K (.ref (He.ga K x)) "name" = some none) && (decide (PySem.W.findIn K (.ref (He.ga K x)) "__init__" = some (some (.ref (He.ma K (He.ga K x) "__init__")))) && (decide (PySem.W.typeIn K (.ref (He.ma K (He.ga K x) "__init__")) = some (.type "function")) &&
  decide (PySem.W.exmOne K (.ref (He.ga K x)) (.ref (He.ga K x)) = some true)))))))))))))
theorem errB_ok {K : PySem.W.Frag} {x : Str} (h : errB K x = true) : ErrT K x := by
  unfold errB at h
  simp only [Bool.and_eq_true, decide_eq_true_eq] at h
  obtain ⟨h1, h2, h3, h4, h5, h6, h7, h8, h9, h10, h11, h12, h13, h14⟩ := h
  have X := xfB_ok h6
  exact ⟨⟨keB_ok h1, h2, h3, h4, h5⟩, X, ⟨X.ga, X.gg, X.exC, X.hdC, h7, h8, h9, h10⟩, h11, h12, h13, h14⟩
/-! ### its __init__ -/
def spErrI (C : Addr) : Sp := fun vs H Q _ => ∃ (a : Addr) (v : V), vs = [.ref a, v] ∧ H a = some (exo a C none) ∧ ∀ dx, H dx = none → dx ≠ a → Q .non (upd (upd H dx (exd dx [("name", v)])) a (exo a C (some dx)))
/-- raise C(v) ends so -/
theorem mk_end_k {C : Addr} {H : Hp} {Q : XK} {v : V} (h : ∀ d, H d = none → Q (.ref C) (some d) (upd H d (.xd [("name", v)]))) :
    ([v] : List V).length ≤ 1000 ∧ ∀ a, H a = none → spErrI C (.ref a :: ([v] ++ [])) (upd H a (exo a C none)) (fun u H2 => u = .non ∧ ∃ (d : Addr) (fs : List (Str × V)), H2 a = some (exo a C (some d)) ∧ H2 d = some (exd d fs) ∧ H d = none ∧ Q (.ref C) (some d) (upd (del H2 a) d (.xd fs))) (fun _ _ _ => False) := by
  refine ⟨by show 1 ≤ 1000; decide, fun a ha => ⟨a, v, rfl, upd_same, fun dx hd ne => ⟨rfl, dx, [("name", v)], upd_same, by rw [upd_ne ne]; exact upd_same, by rw [upd_ne ne] at hd; exact hd, ?_⟩⟩⟩
  rw [upd_ne ne] at hd
  have e : upd (del (upd (upd (upd H a (exo a C none)) dx (exd dx [("name", v)])) a (exo a C (some dx))) a) dx (.xd [("name", v)]) = upd H dx (.xd [("name", v)]) := by
    funext b
    by_cases hb : b = dx
    · rw [hb, upd_same, upd_same]
    · rw [upd_ne hb, upd_ne hb]
      by_cases hb2 : b = a
      · rw [hb2, del_same, ha]
      · rw [del_ne hb2, upd_ne hb2, upd_ne hb, upd_ne hb2]
  rw [e]
  exact h dx hd
end Td
set_option maxHeartbeats 4000000
namespace Td
open PySem PySem.Spec PyProof.Rows L2
/-! ### xs.count(x): texts, in a list, in a tuple -/
def eqT (x : Str) : Value → Bool
  | .str y _ => y == x
  | _ => false
theorem eqT_gives {x : Str} {t : Tok} : ∀ {us : List Value} {ss : List Str}, Vals (ss.map V.str) us → ∀ y ∈ us, MeetsSeq.EqGives y (.str x t) (eqT x y)
  | _, [], .nil => fun y hy => by cases hy
  | _, s :: ss, .cons r rr => fun y hy => by
    obtain ⟨tk, rfl⟩ := r
    rcases List.mem_cons.mp hy with e | e
    · rw [e]
      exact fun _ _ _ _ _ _ h => wpAny_eqBool_str h
    · exact eqT_gives rr y e
theorem eqT_count {x : Str} : ∀ {us : List Value} {ss : List Str}, Vals (ss.map V.str) us → us.countP (eqT x) = ss.count x
  | _, [], .nil => rfl
  | _, s :: ss, .cons r rr => by
    obtain ⟨tk, rfl⟩ := r
    have ih := eqT_count (x := x) rr
    rw [List.countP_cons, List.count_cons, ih] <;> rfl
section
variable {X : Cx}
def rCntS (K : PySem.W.Frag) : V → List V → Hp → VK → Prop := fun x xs H Q => ∃ (p : Addr) (ss : List Str) (k : Str), x = .ref p ∧ xs = [.str k] ∧ SqL K H p (ss.map V.str) ∧ Q (.int (ss.count k : Nat)) H
def rCntST (K : PySem.W.Frag) : V → List V → Hp → VK → Prop := fun x xs H Q => ∃ (p : Addr) (ss : List Str) (k : Str), x = .ref p ∧ xs = [.str k] ∧ SqT K H p (ss.map V.str) ∧ Q (.int (ss.count k : Nat)) H
theorem mt_countS : MtR X "list.count" (rCntS X.K) := by
  intro pins s σ H x xs v us Q I rx rxs h
  obtain ⟨p, ss, k, rfl, rfl, hs, q⟩ := h
  cases rx
  obtain ⟨u, rfl, t, rfl⟩ := rxs.one
  obtain ⟨its, rv, ⟨⟨c, dd, dt, sl⟩, n, ho, hc, _, hd⟩, _⟩ := I.list hs
  simp only at hc hd
  subst hc hd
  refine call_meets PySem.F.slot_list_count ⟨_, ho, rfl⟩ PySem.F.entry_list_count (PySem.F.args_list_count_2 _ _) (SeqAt.list_countAt p its.toArray n dd sl (.str k t) (eqT k)) ⟨ho, fun y hy => (eqT_gives rv y (by simpa using hy)).at _ _, ?_⟩
  refine ⟨.int (ss.count k : Nat), H, I.tok _, ⟨s.toks, ?_⟩, q⟩
  rw [← eqT_count (x := k) rv]
theorem mt_countST : MtR X "tuple.count" (rCntST X.K) := by
  intro pins s σ H x xs v us Q I rx rxs h
  obtain ⟨p, ss, k, rfl, rfl, hs, q⟩ := h
  cases rx
  obtain ⟨u, rfl, t, rfl⟩ := rxs.one
  obtain ⟨its, rv, ⟨⟨c, dd, dt, sl⟩, ho, hc, n, hd⟩, _⟩ := I.tuple hs
  simp only at hc hd
  subst hc hd
  refine call_meets PySem.F.slot_tuple_count ⟨_, ho, rfl⟩ PySem.F.entry_tuple_count (PySem.F.args_tuple_count_2 _ _) (SeqAt.tuple_countAt p its.toArray n dd sl (.str k t) (eqT k)) ⟨ho, fun y hy => (eqT_gives rv y (by simpa using hy)).at _ _, ?_⟩
  refine ⟨.int (ss.count k : Nat), H, I.tok _, ⟨s.toks, ?_⟩, q⟩
  rw [← eqT_count (x := k) rv]
end
end Td
set_option maxHeartbeats 4000000
namespace Td
open PySem PySem.Spec PyProof.Rows L2
/-! ### counts and crowds: the promises -/
def rm (p : List Str) : Str := p.getD 1 ""
def crN (rooms : List Str) (places : List (List Str)) : List Int := rooms.map fun r => (((places.map rm).count r : Nat) : Int)
def coN (rooms faces : List Str) (places : List (List Str)) : List Int := rooms.map fun r => ((faces.count r : Nat) : Int) - (((places.map rm).count r : Nat) : Int)
def spCrowd (f : List Str → List (List Str) → List Int) : Sp := fun vs H Q _ => ∃ (h st : Addr) (rooms : List Str) (rows : List (List Str)) (faces : List Str) (places : List (List Str)), vs = [.ref h, .ref st] ∧ HS H h rooms rows ∧ HallV rooms rows ∧ HS H st faces places ∧ StV rooms rows faces places ∧
  ∀ p H', Same H H' → H' p = some (.tup ((f rooms places).map V.int)) → Q (.ref p) H'
def spCounts : Sp := fun vs H Q _ => ∃ (h st : Addr) (rooms : List Str) (rows : List (List Str)) (faces : List Str) (places : List (List Str)), vs = [.ref h, .ref st] ∧ HS H h rooms rows ∧ HallV rooms rows ∧ HS H st faces places ∧ StV rooms rows faces places ∧
  ∀ p H', Same H H' → H' p = some (.tup ((coN rooms faces places).map V.int)) → Q (.ref p) H'
/-- the walker's room -/
def rmOf (places : List (List Str)) (x : Str) : Option Str := (places.find? fun p => p.headD "" == x).map rm
def spRoomOf (C : Addr) : Sp := fun vs H Q E => ∃ (st : Addr) (x : Str) (faces : List Str) (places : List (List Str)), vs = [.ref st, .str x] ∧ HS H st faces places ∧ (∀ p ∈ places, ∃ w r : Str, p = [w, r]) ∧
  (∀ r, rmOf places x = some r → ∀ H', Same H H' → Q (.str r) H') ∧ (rmOf places x = none → ∀ H', Same H H' → ∀ d, H' d = none → E (.ref C) (some d) (upd H' d (.xd [("name", .str x)])))
/-- the walker can pass the door -/
def WayOk (rows : List (List Str)) (faces : List Str) (places : List (List Str)) (w n : Str) : Prop := ∃ (i : Nat) (r a b : Str), rows[i]? = some [n, a, b] ∧ faces[i]? = some r ∧ [w, r] ∈ places
def spPassed : Sp := fun vs H Q _ => ∃ (h st : Addr) (w n : Str) (rooms : List Str) (rows : List (List Str)) (faces : List Str) (places : List (List Str)), vs = [.ref h, .ref st, .str w, .str n] ∧ HS H h rooms rows ∧ HallV rooms rows ∧ HS H st faces places ∧ StV rooms rows faces places ∧
  WayOk rows faces places w n ∧ ∀ p faces' places' H', Same H H' → HS H' p faces' places' → StV rooms rows faces' places' → Q (.ref p) H'
def spDeeds : Sp := fun vs H Q _ => ∃ (h st : Addr) (rooms : List Str) (rows : List (List Str)) (faces : List Str) (places : List (List Str)), vs = [.ref h, .ref st] ∧ HS H h rooms rows ∧ HallV rooms rows ∧ HS H st faces places ∧ StV rooms rows faces places ∧
  ∀ p (as : List Addr) (ws : List (List Str)) H', Same H H' → H' p = some (.lst (as.map V.ref)) → RowsAt H' as ws → ws.length ≤ 60 → (∀ x ∈ ws, ∃ w n : Str, x = [w, n] ∧ WayOk rows faces places w n) → Q (.ref p) H'
def spWalk : Sp := fun vs H Q _ => ∃ (b h st : Addr) (m : Int) (rooms : List Str) (rows : List (List Str)) (faces : List Str) (places : List (List Str)), vs = [.ref b, .ref h, .ref st, .int m] ∧ Box H b ∧ HS H h rooms rows ∧ HallV rooms rows ∧ HS H st faces places ∧ StV rooms rows faces places ∧ 0 ≤ m ∧ m ≤ 40 ∧
  ∀ p row s2 faces' places' H', H' p = some (.tup [.ref row, .ref s2]) → HS H' s2 faces' places' → StV rooms rows faces' places' → Box H' b → Ch b H H' → Q (.ref p) H'
def spRight7 : Sp := fun vs H Q _ => ∃ (h st : Addr) (rooms : List Str) (rows : List (List Str)) (faces : List Str) (places : List (List Str)), vs = [.ref h, .ref st] ∧ HS H h rooms rows ∧ HallV rooms rows ∧ HS H st faces places ∧ StV rooms rows faces places ∧
  ∀ H', Same H H' → Q (.bl true) H'
def spUnknown : Sp := fun vs H Q _ => ∃ (st : Addr) (x : Str) (faces : List Str) (places : List (List Str)), vs = [.ref st, .str x] ∧ HS H st faces places ∧ (∀ p ∈ places, ∃ w r : Str, p = [w, r]) ∧ rmOf places x = none ∧ ∀ H', Same H H' → Q (.str x) H'
def spFree : Sp := fun vs H Q _ => ∃ (l : Addr) (ts : List Str), vs = [.ref l] ∧ H l = some (.lst (ts.map V.str)) ∧ ∀ p (ss : List Str) H', Same H H' → H' p = some (.lst (ss.map V.str)) → ss.length ≤ 15 → (∀ x ∈ ss, x ∉ ts) → Q (.ref p) H'
def spStrange : Sp := fun vs H Q _ => ∃ (b h st l : Addr) (rooms : List Str) (rows : List (List Str)) (faces : List Str) (places : List (List Str)) (ts : List Str), vs = [.ref b, .ref h, .ref st, .ref l] ∧ Box H b ∧ HS H h rooms rows ∧ HallV rooms rows ∧ HS H st faces places ∧ StV rooms rows faces places ∧
  H l = some (.lst (ts.map V.str)) ∧ b ≠ l ∧ ∀ p (ss : List Str) H', H' p = some (.lst (ss.map V.str)) → ss.length ≤ 60 → (∀ x ∈ ss, x ∉ ts) → Box H' b → Ch b H H' → Q (.ref p) H'
/-! ### a def that may raise, and its calls -/
def CalX (P : Program) (w : World) (K : PySem.W.Frag) (mg : Str → Option Value) (base : Heap) (k : Nat) (x : Str) (sp : Sp) : Prop := ∃ (f : Addr) (fd : FuncData) (ps : List Str), FnOk P w K mg base (L2.CX P w) k f fd ps sp ∧ mg x = some (.ref f) ∧ PySem.W.keepIn K (.ref f) = true ∧ Binds K fd ps []
/-- an error class: what is said of it, its global, its __init__ -/
structure ErrM (P : Program) (w : World) (K : PySem.W.Frag) (mg : Str → Option Value) (base : Heap) (x : Str) : Prop where
  t : ErrT K x
  g : mg x = some (.ref (He.ga K x))
  i : ∃ (fd : FuncData) (ps : List Str), FnOk P w K mg base C8.CX0 1 (He.ma K (He.ga K x) "__init__") fd ps (spErrI (He.ga K x)) ∧ Binds K fd ps []
section
variable {X : Cx} {x : Str} {p pos : Pos} {e : Expr} {es : List Expr} {t : TA} {sp : Sp} {E : L2.St → XK}
theorem pe_cX {j k : Nat} (c : CalX X.prog X.w X.K X.mg X.base j x sp) (hr : Room k X.A) (hj : j ≤ k) (hx : ∀ σ, PassesAt (L2.CX X.prog X.w) X σ (E σ)) (hg : Gl X x) (ha : PA X (e :: es) t) (hdb : (x == ("__debug__" : Str)) = false := by decide)
    (he : starEach (e :: es) X.env = (false, eval e X.env) :: starEach es X.env := by rfl) (hpl : (backTo pos (starEach es X.env)).any (·.1) = false := by rfl) : PE X (.Call (.Name x p) (e :: es) [] pos) (tCallS sp E t) := by
  refine ⟨fun pins s σ H Q I h => ?_⟩
  obtain ⟨f, fd, ps, F, hm, hk, hb⟩ := c
  exact (pe_callS F (hr.mono hj) hg hm hk hb hx ha hdb he hpl).run pins s σ H Q I h
/-- where it does not raise -/
theorem passF {σ : L2.St} : PassesAt (L2.CX X.prog X.w) X σ (fun _ _ _ => False) := fun _ _ _ _ _ _ ⟨_, _, _, _, _, _, _, _, _, _, _, _, z⟩ => z.elim
theorem pmk_err {k : Nat} (M : ErrM X.prog X.w X.K X.mg X.base x) (hr : Room k X.A) (hk : 2 ≤ k) (hg : Gl X x) (ha : PA X (e :: es) t) (hdb : (x == ("__debug__" : Str)) = false := by decide)
    (he : starEach (e :: es) X.env = (false, eval e X.env) :: starEach es X.env := by rfl) (hpl : (backTo pos (starEach es X.env)).any (·.1) = false := by rfl) :
    PMk X (.Call (.Name x p) (e :: es) [] pos) (tMkO (He.ga X.K x) (spErrI (He.ga X.K x)) [] t) := by
  obtain ⟨fd, ps, F, hb⟩ := M.i
  exact pmk_kex (CX := C8.CX0) M.t.kx M.t.iC M.t.tI F (hr.mono hk) hb C8.pass0 hg M.g ha hdb he hpl
end
end Td
set_option maxHeartbeats 4000000
namespace Td
open PySem PySem.Spec PyProof.Rows L2
/-! ### an own class over ValueError with its own __init__, one field -/
def veB (K : PySem.W.Frag) (C : Addr) : Bool := match K.lookup C with
  | some ⟨.type ty, _, .cls cd, sl⟩ => decide (ty = "type") && (cd.hasDict && (!cd.hasDel && (match cd.mro, sl.toList with
    | .ref C' :: bm, [_, _, _, _, some (.builtin n), _] => decide (C' = C) && (decide (n = "ValueError.__new__") && PySem.HandSPX.refsVE bm)
    | _, _ => false)))
  | _ => false
theorem veB_ok {K : PySem.W.Frag} {C : Addr} (h : veB K C = true) : ∃ nm q N bs bm sn sub ab col dd k0 k1 k2 k3 k5, K.lookup C = some (excClassObj nm q C N bs bm true sn sub ab col dd k0 k1 k2 k3 k5 "ValueError.__new__") ∧ PySem.HandSPX.refsVE bm = true := by
  unfold veB at h
  split at h
  · rename_i ty dd cd sl ho
    simp only [Bool.and_eq_true, decide_eq_true_eq, Bool.not_eq_true'] at h
    obtain ⟨rfl, hd, hx, hs⟩ := h
    split at hs
    · rename_i C' bm k0 k1 k2 k3 n k5 hm hl
      simp only [Bool.and_eq_true, decide_eq_true_eq] at hs
      obtain ⟨rfl, rfl, hr⟩ := hs
      obtain ⟨nm, bs, mro, ns, qn, hdc, sn, sub, ab, col, del⟩ := cd
      dsimp only at hm hd hx
      subst hm hd hx
      obtain ⟨l⟩ := sl
      simp only at hl
      subst hl
      exact ⟨nm, qn, ns, bs, bm, sn, sub, ab, col, dd, k0, k1, k2, k3, k5, ho, hr⟩
    · cases hs
  · cases h
structure ErrV (K : PySem.W.Frag) (x fl : Str) : Prop where
  ox : OexC K (He.ga K x)
  xf : XfC K (He.ga K x)
  no : PySem.W.findIn K (.ref (He.ga K x)) fl = some none
  iC : PySem.W.findIn K (.ref (He.ga K x)) "__init__" = some (some (.ref (He.ma K (He.ga K x) "__init__")))
  tI : PySem.W.typeIn K (.ref (He.ma K (He.ga K x) "__init__")) = some (.type "function")
  me : PySem.W.exmOne K (.ref (He.ga K x)) (.ref (He.ga K x)) = some true
def errVB (K : PySem.W.Frag) (x fl : Str) : Bool := veB K (He.ga K x) && (decide (PySem.W.findIn K (.ref (He.ga K x)) "__setattr__" = some (some (.builtin "object.__setattr__"))) && (decide (PySem.W.subIn K (.ref (He.ga K x)) (.type "BaseException") = some true) &&
  (decide (PySem.W.typeIn K (.ref (He.ga K x)) = some (.type "type")) && (PySem.W.keepIn K (.ref (He.ga K x)) && (xfB K (He.ga K x) && (decide (PySem.W.findIn K (.ref (He.ga K x)) fl = some none) &&
  (decide (PySem.W.findIn K (.ref (He.ga K x)) "__init__" = some (some (.ref (He.ma K (He.ga K x) "__init__")))) && (decide (PySem.W.typeIn K (.ref (He.ma K (He.ga K x) "__init__")) = some (.type "function")) &&
  decide (PySem.W.exmOne K (.ref (He.ga K x)) (.ref (He.ga K x)) = some true)))))))))
theorem errVB_ok {K : PySem.W.Frag} {x fl : Str} (h : errVB K x fl = true) : ErrV K x fl := by
  unfold errVB at h
  simp only [Bool.and_eq_true, decide_eq_true_eq] at h
  obtain ⟨h1, h2, h3, h4, h5, h6, h7, h8, h9, h10⟩ := h
  exact ⟨⟨veB_ok h1, h2, h3, h4, h5⟩, xfB_ok h6, h7, h8, h9, h10⟩
def spErrV (C : Addr) (fl : Str) : Sp := fun vs H Q _ => ∃ (a : Addr) (v : V), vs = [.ref a, v] ∧ H a = some (exo a C none) ∧ ∀ dx, H dx = none → dx ≠ a → Q .non (upd (upd H dx (exd dx [(fl, v)])) a (exo a C (some dx)))
theorem mk_end_v {C : Addr} {fl : Str} {H : Hp} {Q : XK} {v : V} (h : ∀ d, H d = none → Q (.ref C) (some d) (upd H d (.xd [(fl, v)]))) :
    ([v] : List V).length ≤ 1000 ∧ ∀ a, H a = none → spErrV C fl (.ref a :: ([v] ++ [])) (upd H a (exo a C none)) (fun u H2 => u = .non ∧ ∃ (d : Addr) (fs : List (Str × V)), H2 a = some (exo a C (some d)) ∧ H2 d = some (exd d fs) ∧ H d = none ∧ Q (.ref C) (some d) (upd (del H2 a) d (.xd fs))) (fun _ _ _ => False) := by
  refine ⟨by show 1 ≤ 1000; decide, fun a ha => ⟨a, v, rfl, upd_same, fun dx hd ne => ⟨rfl, dx, [(fl, v)], upd_same, by rw [upd_ne ne]; exact upd_same, by rw [upd_ne ne] at hd; exact hd, ?_⟩⟩⟩
  rw [upd_ne ne] at hd
  have e : upd (del (upd (upd (upd H a (exo a C none)) dx (exd dx [(fl, v)])) a (exo a C (some dx))) a) dx (.xd [(fl, v)]) = upd H dx (.xd [(fl, v)]) := by
    funext b
    by_cases hb : b = dx
    · rw [hb, upd_same, upd_same]
    · rw [upd_ne hb, upd_ne hb]
      by_cases hb2 : b = a
      · rw [hb2, del_same, ha]
      · rw [del_ne hb2, upd_ne hb2, upd_ne hb, upd_ne hb2]
  rw [e]
  exact h dx hd
structure ErrMV (P : Program) (w : World) (K : PySem.W.Frag) (mg : Str → Option Value) (base : Heap) (x fl : Str) : Prop where
  t : ErrV K x fl
  g : mg x = some (.ref (He.ga K x))
  i : ∃ (fd : FuncData) (ps : List Str), FnOk P w K mg base C8.CX0 1 (He.ma K (He.ga K x) "__init__") fd ps (spErrV (He.ga K x) fl) ∧ Binds K fd ps []
theorem pmk_errV {X : Cx} {x fl : Str} {p pos : Pos} {e : Expr} {es : List Expr} {t : TA} {k : Nat} (M : ErrMV X.prog X.w X.K X.mg X.base x fl) (hr : Room k X.A) (hk : 2 ≤ k) (hg : Gl X x) (ha : PA X (e :: es) t) (hdb : (x == ("__debug__" : Str)) = false := by decide)
    (he : starEach (e :: es) X.env = (false, eval e X.env) :: starEach es X.env := by rfl) (hpl : (backTo pos (starEach es X.env)).any (·.1) = false := by rfl) :
    PMk X (.Call (.Name x p) (e :: es) [] pos) (tMkO (He.ga X.K x) (spErrV (He.ga X.K x) fl) [] t) := by
  obtain ⟨fd, ps, F, hb⟩ := M.i
  exact pmk_oex (CX := C8.CX0) (ds := []) (dvs := []) M.t.ox M.t.iC M.t.tI F (hr.mono hk) hb .nil C8.pass0 hg M.g ha hdb he hpl
end Td
set_option maxHeartbeats 4000000
namespace Td
open PySem PySem.Spec PyProof.Rows L2
/-! ### texts of halls and states -/
abbrev lineT (ws : List Str) : Str := Txt.join " " ws
abbrev textT (ls : List Str) : Str := Txt.join "\n" ls
def cs (x : Str) : List Nat := x.cps.toList
theorem S_cs (x : Str) : SX.S (cs x) = x := SX.S_tl x
theorem map_S_cs (ws : List Str) : (ws.map cs).map SX.S = ws := by
  rw [List.map_map]
  have e : (SX.S ∘ cs) = id := funext fun x => S_cs x
  rw [e, List.map_id]
theorem join_cs (c : Nat) (ws : List Str) : Txt.join (SX.S [c]) ws = SX.S (TL.joinL [c] (ws.map cs)) := by
  have e := SX.join_S [c] (ws.map cs)
  rw [map_S_cs] at e
  exact e
theorem split_join {c : Nat} {ws : List Str} (hc : c < 256) (hne : ws ≠ []) (h : ∀ x ∈ ws, c ∉ cs x) : Txt.split (Txt.join (SX.S [c]) ws) (SX.S [c]) = ws := by
  rw [join_cs, SX.split_S (List.cons_ne_nil _ _) (by simpa using hc), SX.spl_join (fun e => hne (List.map_eq_nil_iff.mp e)) (fun p hp => by
    obtain ⟨x, hx, rfl⟩ := List.mem_map.mp hp
    exact h x hx), map_S_cs]
theorem sp_S : (" " : Str) = SX.S [32] := by decide
theorem nl_S : ("\n" : Str) = SX.S [10] := by decide
theorem mem_joinL {c x : Nat} : ∀ {ps : List (List Nat)}, x ∈ TL.joinL [c] ps → x = c ∨ ∃ p ∈ ps, x ∈ p
  | [], h => by cases h
  | [p], h => .inr ⟨p, List.mem_cons_self .., h⟩
  | p :: q :: r, h => by
    have h1 : x ∈ p ++ ([c] ++ TL.joinL [c] (q :: r)) := h
    rcases List.mem_append.mp h1 with h2 | h2
    · exact .inr ⟨p, List.mem_cons_self .., h2⟩
    · rcases List.mem_append.mp h2 with h3 | h3
      · exact .inl (List.mem_singleton.mp h3)
      · rcases mem_joinL h3 with h4 | ⟨z, hz, h4⟩
        · exact .inl h4
        · exact .inr ⟨z, List.mem_cons_of_mem _ hz, h4⟩
theorem len_joinL {c n : Nat} : ∀ {ps : List (List Nat)}, (∀ p ∈ ps, p.length ≤ n) → (TL.joinL [c] ps).length ≤ ps.length * (n + 1)
  | [], _ => Nat.zero_le _
  | [p], h => by
    have e := h p (List.mem_cons_self ..)
    show p.length ≤ 1 * (n + 1)
    omega
  | p :: q :: r, h => by
    have e := h p (List.mem_cons_self ..)
    have ih := len_joinL (c := c) (ps := q :: r) fun z hz => h z (List.mem_cons_of_mem _ hz)
    have e2 : (TL.joinL [c] (p :: q :: r)).length = p.length + (1 + (TL.joinL [c] (q :: r)).length) := by
      show (p ++ ([c] ++ TL.joinL [c] (q :: r))).length = _
      rw [List.length_append, List.length_append, List.length_singleton]
    rw [e2, List.length_cons, Nat.succ_mul]
    omega
theorem Nm.low {x : Str} (h : Nm x) : ∀ c ∈ cs x, 97 ≤ c ∧ c ≤ 122 := h.2.2
theorem Nm.len {x : Str} (h : Nm x) : (cs x).length ≤ 6 := by
  have e : (cs x).length = x.length := by unfold cs Str.length; simp
  rw [e]
  exact h.2.1
/-- the lines of a text, each its words -/
structure LnOk (ls : List (List Str)) : Prop where
  ne : ls ≠ []
  l13 : ls.length ≤ 13
  ok : ∀ l ∈ ls, l ≠ [] ∧ l.length ≤ 13 ∧ ∀ x ∈ l, Nm x
abbrev txtOf (ls : List (List Str)) : Str := textT (ls.map lineT)
theorem line_len {l : List Str} (h : l.length ≤ 13) (hn : ∀ x ∈ l, Nm x) : (lineT l).length ≤ 91 := by
  show (Txt.join " " l).length ≤ 91
  rw [sp_S, join_cs, SX.S_len]
  have e := len_joinL (c := 32) (n := 6) (ps := l.map cs) fun p hp => by
    obtain ⟨x, hx, rfl⟩ := List.mem_map.mp hp
    exact (hn x hx).len
  rw [List.length_map] at e
  omega
theorem line_no {l : List Str} (hn : ∀ x ∈ l, Nm x) : 10 ∉ cs (lineT l) := fun h => by
  have e : cs (lineT l) = TL.joinL [32] (l.map cs) := by
    show cs (Txt.join " " l) = _
    rw [sp_S, join_cs]
    rfl
  rw [e] at h
  rcases mem_joinL h with h | ⟨p, hp, h⟩
  · cases h
  · obtain ⟨x, hx, rfl⟩ := List.mem_map.mp hp
    have z := (hn x hx).low 10 h
    omega
theorem line_split {l : List Str} (hne : l ≠ []) (hn : ∀ x ∈ l, Nm x) : Txt.split (lineT l) " " = l := by
  show Txt.split (Txt.join " " l) " " = l
  rw [sp_S]
  refine split_join (by decide) hne fun x hx hc => ?_
  have z := (hn x hx).low 32 hc
  omega
theorem txt_split {ls : List (List Str)} (h : LnOk ls) : Txt.split (txtOf ls) "\n" = ls.map lineT := by
  show Txt.split (Txt.join "\n" (ls.map lineT)) "\n" = _
  rw [nl_S]
  refine split_join (by decide) (fun e => h.ne (List.map_eq_nil_iff.mp e)) fun x hx => ?_
  obtain ⟨l, hl, rfl⟩ := List.mem_map.mp hx
  exact line_no (h.ok l hl).2.2
theorem txt_len {ls : List (List Str)} (h : LnOk ls) : (txtOf ls).length ≤ 2000 := by
  show (Txt.join "\n" (ls.map lineT)).length ≤ 2000
  rw [nl_S, join_cs, SX.S_len]
  have e := len_joinL (c := 10) (n := 91) (ps := (ls.map lineT).map cs) fun p hp => by
    obtain ⟨x, hx, rfl⟩ := List.mem_map.mp hp
    obtain ⟨l, hl, rfl⟩ := List.mem_map.mp hx
    have z := line_len (h.ok l hl).2.1 (h.ok l hl).2.2
    have y : (cs (lineT l)).length = (lineT l).length := by unfold cs Str.length; simp
    rw [y]
    exact z
  have z := h.l13
  rw [List.length_map, List.length_map] at e
  omega
theorem lines_inj {ls ms : List (List Str)} (h1 : LnOk ls) (h2 : LnOk ms) (e : txtOf ls = txtOf ms) : ls = ms := by
  have a := txt_split h1
  rw [e, txt_split h2] at a
  have f : ∀ {ks : List (List Str)}, LnOk ks → (ks.map lineT).map (fun x => Txt.split x " ") = ks := fun {ks} hk => by
    rw [List.map_map]
    have : ks.map ((fun x => Txt.split x " ") ∘ lineT) = ks.map id := List.map_congr_left fun l hl => line_split (hk.ok l hl).1 (hk.ok l hl).2.2
    rw [this, List.map_id]
  rw [← f h1, ← f h2, a]
abbrev lnOf (w1 w2 : Str) (ss : List Str) (rows : List (List Str)) : List (List Str) := (w1 :: ss) :: rows.map (w2 :: ·)
structure Bd (ss : List Str) (rows : List (List Str)) : Prop where
  s12 : ss.length ≤ 12
  r12 : rows.length ≤ 12
  sn : ∀ x ∈ ss, Nm x
  rn : ∀ r ∈ rows, r.length ≤ 3 ∧ ∀ x ∈ r, Nm x
theorem Bd.ln {w1 w2 : Str} {ss : List Str} {rows : List (List Str)} (h : Bd ss rows) (h1 : Nm w1) (h2 : Nm w2) : LnOk (lnOf w1 w2 ss rows) := by
  refine ⟨List.cons_ne_nil _ _, ?_, fun l hl => ?_⟩
  · rw [List.length_cons, List.length_map]
    have := h.r12
    omega
  · rcases List.mem_cons.mp hl with rfl | hl
    · refine ⟨List.cons_ne_nil _ _, ?_, fun x hx => ?_⟩
      · rw [List.length_cons]
        have := h.s12
        omega
      · rcases List.mem_cons.mp hx with rfl | hx
        · exact h1
        · exact h.sn x hx
    · obtain ⟨r, hr, rfl⟩ := List.mem_map.mp hl
      refine ⟨List.cons_ne_nil _ _, ?_, fun x hx => ?_⟩
      · rw [List.length_cons]
        have := (h.rn r hr).1
        omega
      · rcases List.mem_cons.mp hx with rfl | hx
        · exact h2
        · exact (h.rn r hr).2 x hx
theorem lnOf_inj {w1 w2 : Str} {ss tt : List Str} {rows cols : List (List Str)} (e : lnOf w1 w2 ss rows = lnOf w1 w2 tt cols) : ss = tt ∧ rows = cols := by
  injection e with e1 e2
  injection e1 with _ e1
  refine ⟨e1, ?_⟩
  have := congrArg (List.map List.tail) e2
  rw [List.map_map, List.map_map] at this
  have f : ∀ l : List (List Str), l.map (List.tail ∘ (w2 :: ·)) = l := fun l => by
    have : (List.tail ∘ fun x => w2 :: x) = id := rfl
    rw [this, List.map_id]
  rw [f, f] at this
  exact this
theorem nm_of {x : Str} (h : (decide (1 ≤ x.length) && (decide (x.length ≤ 6) && x.cps.toList.all fun c => decide (97 ≤ c) && decide (c ≤ 122))) = true) : Nm x := by
  simp only [Bool.and_eq_true, decide_eq_true_eq, List.all_eq_true] at h
  exact ⟨h.1, h.2.1, h.2.2⟩
theorem nm_rooms : Nm "rooms" := nm_of (by decide +kernel)
theorem nm_door : Nm "door" := nm_of (by decide +kernel)
theorem nm_faces : Nm "faces" := nm_of (by decide +kernel)
theorem nm_walker : Nm "walker" := nm_of (by decide +kernel)
theorem HallV.bd {rooms : List Str} {rows : List (List Str)} (h : HallV rooms rows) : Bd rooms rows := by
  have := h.r8
  refine ⟨by omega, h.d12, h.nm, fun r hr => ?_⟩
  obtain ⟨n, a, b, rfl, h1, h2, h3, _⟩ := h.row r hr
  refine ⟨Nat.le_refl 3, fun x hx => ?_⟩
  rcases List.mem_cons.mp hx with rfl | hx
  · exact h1
  · rcases List.mem_cons.mp hx with rfl | hx
    · exact h.nm _ h2
    · rw [List.mem_singleton.mp hx]
      exact h.nm _ h3
theorem StV.bd {rooms : List Str} {rows : List (List Str)} {faces : List Str} {places : List (List Str)} (hH : HallV rooms rows) (h : StV rooms rows faces places) : Bd faces places := by
  have a1 := h.fl
  have a2 := hH.d12
  have a3 := h.p5
  refine ⟨by omega, by omega, fun x hx => ?_, fun r hr => ?_⟩
  · obtain ⟨i, hi⟩ := List.getElem?_of_mem hx
    have hl : i < rows.length := by
      rw [← a1]
      exact (List.getElem?_eq_some_iff.mp hi).1
    obtain ⟨n, a, b, e, z⟩ := h.fc i x _ hi (List.getElem?_eq_getElem hl)
    obtain ⟨n', a', b', e', _, m1, m2, _⟩ := hH.row _ (List.getElem_mem hl)
    rw [e] at e'
    injection e' with _ e'
    injection e' with e1 e'
    injection e' with e2 _
    subst e1 e2
    rcases z with rfl | rfl
    · exact hH.nm _ m1
    · exact hH.nm _ m2
  · obtain ⟨w, r', rfl, h1, h2⟩ := h.pl r hr
    refine ⟨(by show 2 ≤ 3; decide), fun x hx => ?_⟩
    rcases List.mem_cons.mp hx with rfl | hx
    · exact h1
    · rw [List.mem_singleton.mp hx]
      exact hH.nm _ h2
/-! ### promises of the program's defs -/
instance (x : Str) : Decidable (Nm x) := by unfold Nm; exact inferInstance
def spIsName : Sp := fun vs H Q _ => ∃ x : Str, vs = [.str x] ∧ x.length ≤ 100000 ∧ ∀ H', Same H H' → Q (.bl (decide (Nm x))) H'
/-- all of xs pass -/
def spJoin (K : PySem.W.Frag) : Sp := fun vs H Q _ => ∃ (f d : Addr) (w1 w2 : Str) (ss : List Str) (rows : List (List Str)), vs = [.ref f, .str w2, .ref d] ∧ H f = some (.lst ((w1 :: ss).map V.str)) ∧ Rows H d rows ∧ Bd ss rows ∧ Nm w1 ∧ Nm w2 ∧
  ∀ H', Same H H' → Q (.str (txtOf (lnOf w1 w2 ss rows))) H'
def LinesAt (H : Hp) (as : List Addr) (ls : List (List Str)) : Prop := as.length = ls.length ∧ ∀ (i : Nat) (a : Addr) (l : List Str), as[i]? = some a → ls[i]? = some l → H a = some (.lst (l.map V.str))
theorem LinesAt.same {H H' : Hp} {as : List Addr} {ls : List (List Str)} (s : Same H H') (h : LinesAt H as ls) : LinesAt H' as ls := ⟨h.1, fun i a l e1 e2 => s _ _ (h.2 i a l e1 e2)⟩
def spSplit : Sp := fun vs H Q _ => ∃ ls : List (List Str), vs = [.str (txtOf ls)] ∧ LnOk ls ∧ ∀ p as H', Same H H' → H' p = some (.lst (as.map V.ref)) → LinesAt H' as ls → Q (.ref p) H'
def spRoomsLine (K : PySem.W.Frag) : Sp := fun vs H Q _ => ∃ (l : Addr) (rooms : List Str), vs = [.ref l] ∧ H l = some (.lst ((("rooms" : Str) :: rooms).map V.str)) ∧ 1 ≤ rooms.length ∧ rooms.length ≤ 8 ∧ rooms.Nodup ∧ (∀ x ∈ rooms, Nm x) ∧ ∀ H', Same H H' → Q (.bl true) H'
def spDoorLine (K : PySem.W.Frag) : Sp := fun vs H Q _ => ∃ (l r nl : Addr) (n a b : Str) (rooms names : List Str), vs = [.ref l, .ref r, .ref nl] ∧ H l = some (.lst ([("door" : Str), n, a, b].map V.str)) ∧ H r = some (.tup (rooms.map V.str)) ∧ H nl = some (.lst (names.map V.str)) ∧
  Nm n ∧ n ∉ names ∧ a ∈ rooms ∧ b ∈ rooms ∧ a ≠ b ∧ ∀ H', Same H H' → Q (.bl true) H'
def spFacesLine (K : PySem.W.Frag) : Sp := fun vs H Q _ => ∃ (l d : Addr) (faces : List Str) (rows : List (List Str)), vs = [.ref l, .ref d] ∧ H l = some (.lst ((("faces" : Str) :: faces).map V.str)) ∧ Rows H d rows ∧ faces.length = rows.length ∧ rows.length ≤ 12 ∧
  (∀ (i : Nat) (f : Str) (r : List Str), faces[i]? = some f → rows[i]? = some r → ∃ n a b : Str, r = [n, a, b] ∧ (f = a ∨ f = b)) ∧ ∀ H', Same H H' → Q (.bl true) H'
def spWalkerLine (K : PySem.W.Frag) : Sp := fun vs H Q _ => ∃ (l r : Addr) (before w rm : Str) (rooms : List Str), vs = [.ref l, .str before, .ref r] ∧ H l = some (.lst ([("walker" : Str), w, rm].map V.str)) ∧ H r = some (.tup (rooms.map V.str)) ∧
  Nm w ∧ before.cps.toList < w.cps.toList ∧ rm ∈ rooms ∧ ∀ H', Same H H' → Q (.bl true) H'
def spFmt (w1 w2 : Str) : Sp := fun vs H Q _ => ∃ (h : Addr) (ss : List Str) (rows : List (List Str)), vs = [.ref h] ∧ HS H h ss rows ∧ Bd ss rows ∧ ∀ H', Same H H' → Q (.str (txtOf (lnOf w1 w2 ss rows))) H'
def spParseHall : Sp := fun vs H Q _ => ∃ (rooms : List Str) (rows : List (List Str)), vs = [.str (txtOf (lnOf "rooms" "door" rooms rows))] ∧ HallV rooms rows ∧ ∀ p H', Same H H' → HS H' p rooms rows → Q (.ref p) H'
def spParseState : Sp := fun vs H Q _ => ∃ (h : Addr) (rooms : List Str) (rows : List (List Str)) (faces : List Str) (places : List (List Str)), vs = [.ref h, .str (txtOf (lnOf "faces" "walker" faces places))] ∧ HS H h rooms rows ∧ HallV rooms rows ∧ StV rooms rows faces places ∧
  ∀ p H', Same H H' → HS H' p faces places → Q (.ref p) H'
theorem catA_one {K : PySem.W.Frag} {H : Hp} {t r : Addr} {x : V} {ys : List V} {Q : VK} (h1 : H t = some (.tup [x])) (h2 : H r = some (.tup ys)) (hl : 1 + ys.length ≤ 1000) (k : ∀ p H', Same H H' → H' p = some (.tup (x :: ys)) → Q (.ref p) H') :
    rCatA K (.ref t) (.ref r) H Q :=
  ⟨t, r, [x], ys, rfl, rfl, SqT.of h1, SqT.of h2, Nat.le_of_lt (sz100 hl), (fun e => nomatch e), (fun _ e => k t H (Same.refl H) (by rw [e]; exact h1)), fun _ _ p hp => k p _ (same_new hp _) upd_same⟩
theorem join_sz {l : List Str} (h13 : l.length ≤ 13) (hn : ∀ x ∈ l, Nm x) : (l.map (·.length)).sum + l.length * (" " : Str).length ≤ 16777216 := by
  have e2 : (" " : Str).length = 1 := by decide
  have go : ∀ l : List Str, (∀ x ∈ l, Nm x) → (l.map (·.length)).sum ≤ l.length * 6 := fun l => by
    induction l with
    | nil => intro _; exact Nat.le_refl _
    | cons y ys ih =>
      intro h
      have h1 := (h y (List.mem_cons_self ..)).2.1
      have h2 := ih fun z hz => h z (List.mem_cons_of_mem _ hz)
      rw [List.map_cons, List.sum_cons, List.length_cons, Nat.succ_mul]
      omega
  have e1 := go l hn
  rw [e2]
  omega
theorem text_sz {ls : List (List Str)} (h : LnOk ls) : ((ls.map lineT).map (·.length)).sum + (ls.map lineT).length * ("\n" : Str).length ≤ 16777216 := by
  have e2 : ("\n" : Str).length = 1 := by decide
  have go : ∀ l : List (List Str), (∀ x ∈ l, x ≠ [] ∧ x.length ≤ 13 ∧ ∀ y ∈ x, Nm y) → ((l.map lineT).map (·.length)).sum ≤ l.length * 91 := fun l => by
    induction l with
    | nil => intro _; exact Nat.le_refl _
    | cons y ys ih =>
      intro h
      have h0 := h y (List.mem_cons_self ..)
      have h1 := line_len h0.2.1 h0.2.2
      have h2 := ih fun z hz => h z (List.mem_cons_of_mem _ hz)
      rw [List.map_cons, List.map_cons, List.sum_cons, List.length_cons, Nat.succ_mul]
      omega
  have e1 := go ls h.ok
  have e3 := h.l13
  rw [e2, List.length_map]
  omega
theorem Bd.first {w1 : Str} {ss : List Str} {rows : List (List Str)} (h : Bd ss rows) (h1 : Nm w1) : (w1 :: ss).length ≤ 13 ∧ ∀ x ∈ w1 :: ss, Nm x := by
  have z := (h.ln h1 h1).ok (w1 :: ss) (List.mem_cons_self ..)
  exact ⟨z.2.1, z.2.2⟩
theorem Bd.row {w2 : Str} {ss : List Str} {rows : List (List Str)} (h : Bd ss rows) (h2 : Nm w2) {r : List Str} (hr : r ∈ rows) : (w2 :: r).length ≤ 13 ∧ ∀ x ∈ w2 :: r, Nm x := by
  have z := (h.ln h2 h2).ok (w2 :: r) (List.mem_cons_of_mem _ (List.mem_map.mpr ⟨r, hr, rfl⟩))
  exact ⟨z.2.1, z.2.2⟩
end Td
set_option maxHeartbeats 4000000
namespace Td
open PySem PySem.Spec PyProof.Rows L2
open Builtin.SmallTypes (nextOf ownedTupleIsFree ownedTupleHandOut)
/-! ### an iterator over a sequence, whatever it is: what zip asks of it -/
structure Src (P : Program) (w : World) (it l : Addr) (st : Nat → Heap → Prop) (C : Heap → Array Value → Prop) : Prop where
  kst : ∀ {k : Nat} {g g' : Heap}, st k g → (∀ o, g.get? it = some o → g'.get? it = some o) → st k g'
  kC : ∀ {g g' : Heap} {xs : Array Value}, C g xs → (∀ o, g.get? l = some o → g'.get? l = some o) → C g' xs
  obj : ∀ {k : Nat} {g : Heap}, st k g → ∃ o vs, g.get? it = some o ∧ o.data = .fields vs
  item : ∀ {A : Around} {E : Value → Shared → Prop} {s : Shared} {k : Nat} {xs : Array Value} {x : Value} {Q : Value → Shared → Prop}, st k s.heap → C s.heap xs → xs[k]? = some x →
    (∀ g', st (k + 1) g' → Heap.SameBut it s.heap g' → Q x { s with heap := g' }) → wpAny (model P w) A (nextOf (.ref it)) Q E s
  done : ∀ {A : Around} {E : Value → Shared → Prop} {s : Shared} {k : Nat} {xs : Array Value} {Q : Value → Shared → Prop}, A.handled = none → st k s.heap → C s.heap xs → xs[k]? = none →
    (∀ g' e, Heap.ExtBut it s.heap g' → (∃ o, g'.get? e = some o ∧ o.cls = .type "StopIteration") → E (.ref e) { s with heap := g' }) → wpAny (model P w) A (nextOf (.ref it)) Q E s
theorem src_list {P : Program} {w : World} {it l : Addr} : Src P w it l (fun k g => g.IsListIter it l k) (fun g xs => g.IsList l xs) where
  kst := fun ⟨o, e, r⟩ keep => ⟨o, keep o e, r⟩
  kC := fun ⟨o, e, r⟩ keep => ⟨o, keep o e, r⟩
  obj := fun ⟨o, e, _, d⟩ => ⟨o, _, e, d⟩
  item := fun a b c q => wpAny_nextOf_list_item a b c q
  done := fun hh a b c q => wpAny_nextOf_list_end hh a b c q
theorem src_tup {P : Program} {w : World} {it l : Addr} : Src P w it l (fun k g => g.IsTupleIter it l k) (fun g xs => g.IsTuple l xs) where
  kst := fun ⟨o, e, r⟩ keep => ⟨o, keep o e, r⟩
  kC := fun ⟨o, e, r⟩ keep => ⟨o, keep o e, r⟩
  obj := fun ⟨o, e, _, d⟩ => ⟨o, _, e, d⟩
  item := fun a b c q => RZ.nextOf_tuple_item a b c q
  done := fun hh a b c q => RZ.nextOf_tuple_end hh a b c q
section
variable {P : Program} {w : World} {A : Around} {E : Value → Shared → Prop} {s : Shared} {zz TI TO i1 i2 l1 l2 : Addr} {k1 k2 : Nat} {xs ys : Array Value} {x y a b : Value} {S1 S2 : Nat → Heap → Prop} {C1 C2 : Heap → Array Value → Prop}
theorem same_at {e c : Addr} {g g' : Heap} (q : Heap.SameBut e g g') (n : c ≠ e) : ∀ o, g.get? c = some o → g'.get? c = some o := fun o h => (q.2 c n).trans h
theorem zip_up (R1 : Src P w i1 l1 S1 C1) (R2 : Src P w i2 l2 S2 C2) (D : ZipApart zz TI TO i1 i2 l1 l2) {Q : Value → Shared → Prop}
    (hz : IsZip s.heap zz TI TO .none) (hTI : IsPair s.heap TI (.ref i1) (.ref i2)) (hTO : IsPair s.heap TO a b) (h1 : S1 k1 s.heap) (h2 : S2 k2 s.heap) (c1 : C1 s.heap xs) (c2 : C2 s.heap ys) (hx : xs[k1]? = some x) (hy : ys[k2]? = some y)
    (hQ : ∀ g', IsZip g' zz TI TO (rawInt s.heap.objs.size) → IsPair g' TO x y → S1 (k1 + 1) g' → S2 (k2 + 1) g' → IsPair g' s.heap.objs.size x y → g'.objs.size = s.heap.objs.size + 1 →
      (∀ c o, c ≠ zz → c ≠ TO → c ≠ i1 → c ≠ i2 → s.heap.get? c = some o → g'.get? c = some o) → Q (.ref s.heap.objs.size) { s with heap := g' }) :
    wpAny (model P w) A (Builtin.«zip.__next__» ⟨[.ref zz], []⟩) (fun fin s' => ∃ v, fin = .done (.ret v) ∧ Q v s') E s := by
  show wpAny _ _ (field (.ref zz) 2 >>= _) _ _ _
  refine wpAny_bind (wpAny_field hz rfl (x := .bool false) rfl ?_); show wpAny _ _ (field (.ref zz) 3 >>= _) _ _ _
  refine wpAny_bind (wpAny_field hz rfl (x := .ref TI) rfl (wpAny_bind (wpAny_seqItems hTI rfl ?_)))
  show wpAny _ _ (ownedTupleIsFree (.ref zz) >>= _) _ _ _
  refine wpAny_bind ?_; unfold ownedTupleIsFree
  refine wpAny_bind (wpAny_field hz rfl (x := .none) rfl (wpAny_pure ?_)); simp only [if_true]
  refine wpAny_bind (wpAny_rule (wpAny_bind (wpAny_field hz rfl (x := .ref TO) rfl (wpAny_bind (wpAny_setField_rec hz (by simp) fun g1 z1 q1 => ?_)))))
  replace z1 : IsZip g1 zz TI TO .ellipsis := z1
  refine wpAny_bind ?_; simp only [List.forIn_cons, List.forIn_nil, List.zipIdx_cons, List.zipIdx_nil]
  refine wpAny_bind (wpAny_bind (wpAny_onRaise ?_)); show wpAny _ _ (nextOf (.ref i1) >>= _) _ _ _
  refine wpAny_bind (R1.item (R1.kst h1 (same_at q1 D.i1z)) (R1.kC c1 (same_at q1 D.l1z)) hx fun g2 n1 q2 => wpAny_pure ?_)
  have o2 : IsPair g2 TO a b := same_at q2 D.TOi1 _ (same_at q1 D.TOz _ hTO)
  refine wpAny_bind (wpAny_seqItems o2 rfl (wpAny_bind (wpAny_updateSeq_pair o2 fun g3 o3 q3 => ?_)))
  replace o3 : IsPair g3 TO x b := o3
  refine wpAny_bind (wpAny_letGo (wpAny_pure (wpAny_bind (wpAny_bind (wpAny_onRaise ?_))))); show wpAny _ _ (nextOf (.ref i2) >>= _) _ _ _
  refine wpAny_bind (R2.item (R2.kst (R2.kst (R2.kst h2 (same_at q1 D.i2z)) (same_at q2 D.i12.symm)) (same_at q3 D.TOi2.symm)) (R2.kC (R2.kC (R2.kC c2 (same_at q1 D.l2z)) (same_at q2 D.l2i1)) (same_at q3 D.l2TO)) hy fun g4 n2 q4 => wpAny_pure ?_)
  have o4 : IsPair g4 TO x b := same_at q4 D.TOi2 _ o3
  refine wpAny_bind (wpAny_seqItems o4 rfl (wpAny_bind (wpAny_updateSeq_pair o4 fun g5 o5 q5 => ?_)))
  replace o5 : IsPair g5 TO x y := o5
  refine wpAny_bind (wpAny_letGo (wpAny_pure (wpAny_pure (wpAny_bind (wpAny_seqItems o5 rfl (wpAny_bind (wpAny_newTuple ?_)))))))
  have sz : g5.objs.size = s.heap.objs.size := by rw [q5.1, q4.1, q3.1, q2.1, q1.1]
  have z5 : IsZip g5 zz TI TO .ellipsis := same_at q5 D.TOz.symm _ (same_at q4 D.i2z.symm _ (same_at q3 D.TOz.symm _ (same_at q2 D.i1z.symm _ z1)))
  have k5 : ∀ c o, c ≠ zz → c ≠ TO → c ≠ i1 → c ≠ i2 → s.heap.get? c = some o → g5.get? c = some o := fun c o m1 m2 m3 m4 e => same_at q5 m2 _ (same_at q4 m4 _ (same_at q3 m2 _ (same_at q2 m3 _ (same_at q1 m1 _ e))))
  have n15 : S1 (k1 + 1) g5 := R1.kst (R1.kst (R1.kst n1 (same_at q3 D.TOi1.symm)) (same_at q4 D.i12)) (same_at q5 D.TOi1.symm)
  have n25 : S2 (k2 + 1) g5 := R2.kst n2 (same_at q5 D.TOi2.symm)
  have lz : zz < g5.objs.size := Heap.lt_size z5
  show wpAny _ _ (ownedTupleHandOut (.ref zz) (.ref g5.objs.size) >>= _) _ _ _
  refine wpAny_bind ?_; unfold ownedTupleHandOut
  have z6 : IsZip (g5.push { cls := .type "tuple", data := .seq #[x, y] }) zz TI TO .ellipsis := Heap.get?_push_of_some _ z5
  refine wpAny_bind (wpAny_setField_rec z6 (by simp) fun g7 z7 q7 => ?_)
  replace z7 : IsZip g7 zz TI TO (rawInt g5.objs.size) := z7
  refine wpAny_setField_rec z7 (by simp) fun g8 z8 q8 => ?_
  replace z8 : IsZip g8 zz TI TO (rawInt g5.objs.size) := z8
  have up8 : ∀ c o, c ≠ zz → g5.get? c = some o → g8.get? c = some o := fun c o m e => same_at q8 m _ (same_at q7 m _ (Heap.get?_push_of_some _ e))
  have t8 : IsPair g8 g5.objs.size x y := same_at q8 (Nat.ne_of_gt lz) _ (same_at q7 (Nat.ne_of_gt lz) _ (Heap.get?_push_size _ rfl))
  have s8 : g8.objs.size = g5.objs.size + 1 := by rw [q8.1, q7.1, Heap.size_push]
  rw [sz] at z8 t8 s8
  refine wpAny_pure ⟨_, rfl, ?_⟩; show Q (.ref g5.objs.size) _; rw [sz]
  exact hQ g8 z8 (up8 _ _ D.TOz o5) (R1.kst n15 fun o e => up8 _ o D.i1z e) (R2.kst n25 fun o e => up8 _ o D.i2z e) t8 s8 fun c o m1 m2 m3 m4 e => up8 c o m1 (k5 c o m1 m2 m3 m4 e)
theorem zip_out (R1 : Src P w i1 l1 S1 C1) (R2 : Src P w i2 l2 S2 C2) (D : ZipApart zz TI TO i1 i2 l1 l2) (hh : A.handled = none) {Q : Fin → Shared → Prop}
    (hz : IsZip s.heap zz TI TO .none) (hTI : IsPair s.heap TI (.ref i1) (.ref i2)) (hTO : IsPair s.heap TO a b) (h1 : S1 k1 s.heap) (h2 : S2 k2 s.heap) (c1 : C1 s.heap xs) (c2 : C2 s.heap ys) (hend : xs[k1]? = none ∨ ys[k2]? = none)
    (hE : ∀ g' e, (∀ c o, c ≠ zz → c ≠ TO → c ≠ i1 → c ≠ i2 → s.heap.get? c = some o → g'.get? c = some o) → (∃ o, g'.get? e = some o ∧ o.cls = .type "StopIteration") → E (.ref e) { s with heap := g' }) :
    wpAny (model P w) A (Builtin.«zip.__next__» ⟨[.ref zz], []⟩) Q E s := by
  show wpAny _ _ (field (.ref zz) 2 >>= _) _ _ _
  refine wpAny_bind (wpAny_field hz rfl (x := .bool false) rfl ?_); show wpAny _ _ (field (.ref zz) 3 >>= _) _ _ _
  refine wpAny_bind (wpAny_field hz rfl (x := .ref TI) rfl (wpAny_bind (wpAny_seqItems hTI rfl ?_)))
  show wpAny _ _ (ownedTupleIsFree (.ref zz) >>= _) _ _ _
  refine wpAny_bind ?_; unfold ownedTupleIsFree
  refine wpAny_bind (wpAny_field hz rfl (x := .none) rfl (wpAny_pure ?_)); simp only [if_true]
  refine wpAny_bind (wpAny_rule (wpAny_bind (wpAny_field hz rfl (x := .ref TO) rfl (wpAny_bind (wpAny_setField_rec hz (by simp) fun g1 z1 q1 => ?_)))))
  replace z1 : IsZip g1 zz TI TO .ellipsis := z1
  refine wpAny_bind ?_; simp only [List.forIn_cons, List.forIn_nil, List.zipIdx_cons, List.zipIdx_nil]
  refine wpAny_bind (wpAny_bind (wpAny_onRaise ?_)); show wpAny _ _ (nextOf (.ref i1) >>= _) _ _ _
  have fin : ∀ (g e) (it : Addr), IsZip g zz TI TO .ellipsis → (∃ o, g.get? e = some o ∧ o.cls = .type "StopIteration") → (∀ c o, c ≠ zz → c ≠ TO → c ≠ i1 → c ≠ i2 → s.heap.get? c = some o → g.get? c = some o) → ∀ g9, Heap.SameBut zz g g9 → E (.ref e) { s with heap := g9 } := fun g e it zg ⟨oe, he, hc⟩ kg g9 q9 => by
    have nez : e ≠ zz := fun z => by subst z; rw [zg] at he; cases he; simp at hc
    exact hE g9 e (fun c o m1 m2 m3 m4 z => same_at q9 m1 _ (kg c o m1 m2 m3 m4 z)) ⟨oe, same_at q9 nez _ he, hc⟩
  cases hx : xs[k1]? with
  | none =>
    refine wpAny_bind (R1.done hh (R1.kst h1 (same_at q1 D.i1z)) (R1.kC c1 (same_at q1 D.l1z)) hx fun g2 e q2 he => ?_)
    have z2 : IsZip g2 zz TI TO .ellipsis := q2 _ _ D.i1z.symm z1
    exact wpAny_setField_rec z2 (by simp) fun g3 _ q3 => fin g2 e i1 z2 he (fun c o m1 _ m3 _ z => q2 _ _ m3 (same_at q1 m1 _ z)) g3 q3
  | some x =>
    have hy : ys[k2]? = none := hend.resolve_left fun h => by rw [hx] at h; cases h
    refine wpAny_bind (R1.item (R1.kst h1 (same_at q1 D.i1z)) (R1.kC c1 (same_at q1 D.l1z)) hx fun g2 n1 q2 => wpAny_pure ?_)
    have o2 : IsPair g2 TO a b := same_at q2 D.TOi1 _ (same_at q1 D.TOz _ hTO)
    refine wpAny_bind (wpAny_seqItems o2 rfl (wpAny_bind (wpAny_updateSeq_pair o2 fun g3 o3 q3 => ?_)))
    refine wpAny_bind (wpAny_letGo (wpAny_pure (wpAny_bind (wpAny_bind (wpAny_onRaise ?_))))); show wpAny _ _ (nextOf (.ref i2) >>= _) _ _ _
    refine wpAny_bind (R2.done hh (R2.kst (R2.kst (R2.kst h2 (same_at q1 D.i2z)) (same_at q2 D.i12.symm)) (same_at q3 D.TOi2.symm)) (R2.kC (R2.kC (R2.kC c2 (same_at q1 D.l2z)) (same_at q2 D.l2i1)) (same_at q3 D.l2TO)) hy fun g4 e q4 he => ?_)
    have z4 : IsZip g4 zz TI TO .ellipsis := q4 _ _ D.i2z.symm (same_at q3 D.TOz.symm _ (same_at q2 D.i1z.symm _ z1))
    exact wpAny_setField_rec z4 (by simp) fun g5 _ q5 => fin g4 e i2 z4 he (fun c o m1 m2 m3 m4 z => q4 _ _ m4 (same_at q3 m2 _ (same_at q2 m3 _ (same_at q1 m1 _ z)))) g5 q5
theorem enum_up (R : Src P w i1 l1 S1 C1) {e : Addr} {n : Int} {old : Value} (he : IsEnum s.heap e i1 n old) (h1 : S1 k1 s.heap) (c1 : C1 s.heap xs) (hx : xs[k1]? = some x) (nei : e ≠ i1) {Q : Value → Shared → Prop}
    (hQ : ∀ g', IsEnumOut g' e i1 (n + 1) x s.heap.objs.size → S1 (k1 + 1) g' → g'.get? s.heap.objs.size = some { cls := .type "tuple", data := .seq #[.int n s.toks, x] } → g'.objs.size = s.heap.objs.size + 1 →
      (∀ c o, c ≠ e → c ≠ i1 → s.heap.get? c = some o → g'.get? c = some o) → Q (.ref s.heap.objs.size) { s with heap := g', toks := s.toks + 1 }) :
    wpAny (model P w) A (Builtin.«enumerate.__next__» ⟨[.ref e], []⟩) (fun fin s' => ∃ v, fin = .done (.ret v) ∧ Q v s') E s := by
  obtain ⟨g0, gn, dr, tk, os⟩ := s
  show wpAny _ _ (field (.ref e) 2 >>= _) _ _ ⟨g0, gn, dr, tk, os⟩
  refine wpAny_bind (wpAny_field he rfl (x := .ref i1) rfl (wpAny_bind (R.item h1 c1 hx fun g1 n1 q1 => ?_)))
  replace q1 : Heap.SameBut i1 g0 g1 := q1
  have e1 : IsEnum g1 e i1 n old := same_at q1 nei _ he
  show wpAny _ _ (field (.ref e) 3 >>= _) _ _ ⟨g1, gn, dr, tk, os⟩
  refine wpAny_bind (wpAny_field e1 rfl (x := rawInt n) rfl ?_); show wpAny _ _ (field (.ref e) 4 >>= _) _ _ ⟨g1, gn, dr, tk, os⟩
  refine wpAny_bind (wpAny_field e1 rfl (x := .none) rfl ?_); show wpAny _ _ (mkInt n >>= _) _ _ ⟨g1, gn, dr, tk, os⟩
  refine wpAny_bind (wpAny_mkInt ?_); show wpAny _ _ (setField (.ref e) 3 (rawInt (n + 1)) >>= _) _ _ ⟨g1, gn, dr, tk + 1, os⟩
  refine wpAny_bind (wpAny_setField_rec e1 (by simp) fun g2 e2 q2 => ?_)
  replace q2 : Heap.SameBut e g1 g2 := q2
  replace e2 : IsEnum g2 e i1 (n + 1) old := e2
  show wpAny _ _ (setField (.ref e) 4 .none >>= _) _ _ ⟨g2, gn, dr, tk + 1, os⟩
  refine wpAny_bind (wpAny_setField_rec e2 (by simp) fun g3 e3 q3 => ?_)
  replace q3 : Heap.SameBut e g2 g3 := q3
  replace e3 : IsEnum g3 e i1 (n + 1) old := e3
  show wpAny _ _ (newTuple [.int n tk, x] >>= _) _ _ ⟨g3, gn, dr, tk + 1, os⟩
  refine wpAny_bind (wpAny_newTuple ?_)
  have sz : g3.objs.size = g0.objs.size := by rw [q3.1, q2.1, q1.1]
  have le : e < g0.objs.size := Heap.lt_size he
  have e4 : IsEnum (g3.push { cls := .type "tuple", data := .seq #[.int n tk, x] }) e i1 (n + 1) old := Heap.get?_push_of_some _ e3
  have t4 : (g3.push { cls := .type "tuple", data := .seq #[.int n tk, x] }).get? g0.objs.size = some { cls := .type "tuple", data := .seq #[.int n tk, x] } := by rw [← sz]; exact Heap.get?_push_size _ rfl
  have s4 : (g3.push { cls := .type "tuple", data := .seq #[.int n tk, x] }).objs.size = g0.objs.size + 1 := by rw [Heap.size_push, sz]
  have k4 : ∀ c o, c ≠ e → c ≠ i1 → g0.get? c = some o → (g3.push { cls := .type "tuple", data := .seq #[.int n tk, x] }).get? c = some o := fun c o m1 m2 z => Heap.get?_push_of_some _ (same_at q3 m1 _ (same_at q2 m1 _ (same_at q1 m2 _ z)))
  have n4 : S1 (k1 + 1) (g3.push { cls := .type "tuple", data := .seq #[.int n tk, x] }) := R.kst n1 fun o z => Heap.get?_push_of_some _ (same_at q3 nei.symm _ (same_at q2 nei.symm _ z))
  rw [sz]
  generalize g3.push { cls := .type "tuple", data := .seq #[.int n tk, x] } = g4 at e4 t4 s4 k4 n4 ⊢
  show wpAny _ _ (ownedTupleIsFree (.ref e) >>= _) _ _ ⟨g4, gn, dr, tk + 1, os⟩
  refine wpAny_bind ?_; unfold ownedTupleIsFree
  refine wpAny_bind (wpAny_field e4 rfl (x := .none) rfl (wpAny_pure ?_)); simp only [if_true]
  refine wpAny_bind (wpAny_rule (wpAny_bind (wpAny_field e4 rfl (x := old) rfl (wpAny_bind (wpAny_setField_rec e4 (by simp) fun g5 e5 q5 => ?_)))))
  replace q5 : Heap.SameBut e g4 g5 := q5
  replace e5 : IsEnum g5 e i1 (n + 1) x := e5
  show wpAny _ _ (ownedTupleHandOut (.ref e) (.ref g0.objs.size) >>= _) _ _ ⟨g5, gn, dr, tk + 1, os⟩
  refine wpAny_bind ?_; unfold ownedTupleHandOut
  refine wpAny_bind (wpAny_setField_rec e5 (by simp) fun g6 e6 q6 => ?_)
  replace q6 : Heap.SameBut e g5 g6 := q6
  replace e6 : IsEnumOut g6 e i1 (n + 1) x g0.objs.size := e6
  refine wpAny_setField_rec e6 (by simp) fun g7 e7 q7 => ?_
  replace q7 : Heap.SameBut e g6 g7 := q7
  replace e7 : IsEnumOut g7 e i1 (n + 1) x g0.objs.size := e7
  have up7 : ∀ c o, c ≠ e → g4.get? c = some o → g7.get? c = some o := fun c o m z => same_at q7 m _ (same_at q6 m _ (same_at q5 m _ z))
  exact wpAny_bind (wpAny_letGo (wpAny_pure ⟨_, rfl, hQ g7 e7 (R.kst n4 fun o z => up7 _ o nei.symm z) (up7 _ _ (Nat.ne_of_gt le) t4) (by rw [q7.1, q6.1, q5.1, s4]) fun c o m1 m2 z => up7 c o m1 (k4 c o m1 m2 z)⟩))
theorem enum_out (R : Src P w i1 l1 S1 C1) {e : Addr} {n : Int} {old : Value} (hh : A.handled = none) (he : IsEnum s.heap e i1 n old) (h1 : S1 k1 s.heap) (c1 : C1 s.heap xs) (hx : xs[k1]? = none) {Q : Option Value → Shared → Prop}
    (hQ : ∀ g', Heap.ExtBut i1 s.heap g' → Q none { s with heap := g' }) : wpAny (model P w) A (pyNext (.ref e)) Q E s := by
  have ty : s.TypeIs (.ref e) "enumerate" := ⟨_, he, rfl⟩
  unfold pyNext
  refine wpAny_bind (wpAny_attempt (wpAny_callSpecial?_slot (name := Str.ofString "__next__") ty F.slot_enumerate_next (wpAny_call_entry F.slot_enumerate_next ty F.entry_enumerate_next ?_ (F.args_enumerate_next_1 _))))
  show wpAny _ _ (field (.ref e) 2 >>= _) _ _ s
  refine wpAny_bind (wpAny_field he rfl (x := .ref i1) rfl (wpAny_bind (R.done hh h1 c1 hx fun g' z q ⟨o, ho, hc⟩ => ?_)))
  exact wpAny_bind (wpAny_isInstance (T := "StopIteration") (b := true) ⟨o, ho, hc⟩ isSubtype_stop (wpAny_pure (hQ _ q)))
end
/-! ### what stands at an address, read by H -/
structure Sqs (P : Program) (w : World) (K : PySem.W.Frag) (Sq : Hp → List V → Prop) (C : Heap → Array Value → Prop) : Prop where
  get : ∀ {X : Cx} {pins : List (Addr × Obj)} {σ : L2.St} {H : Hp} {s : Shared} {xs : List V}, X.prog = P → X.w = w → X.K = K → Inv X pins σ H s → Sq H xs → ∃ its : List Value, Vals xs its ∧ C s.heap its.toArray
  inj : ∀ {X : Cx} {pins : List (Addr × Obj)} {σ : L2.St} {H : Hp} {s : Shared} {xs ys : List V}, X.prog = P → X.w = w → X.K = K → Inv X pins σ H s → Sq H xs → Sq H ys → xs = ys
theorem sqs_list {P : Program} {w : World} {K : PySem.W.Frag} {a : Addr} : Sqs P w K (fun H xs => SqL K H a xs) (fun g xs => g.IsList a xs) where
  get := fun e1 e2 e3 I h => by
    subst e3
    obtain ⟨its, r, p, _⟩ := I.list h
    exact ⟨its, r, p.isList⟩
  inj := fun e1 e2 e3 I h h' => by
    subst e3
    exact I.list_inj h h'
theorem sqs_tup {P : Program} {w : World} {K : PySem.W.Frag} {a : Addr} : Sqs P w K (fun H xs => SqT K H a xs) (fun g xs => g.IsTuple a xs) where
  get := fun e1 e2 e3 I h => by
    subst e3
    obtain ⟨its, r, p, _⟩ := I.tuple h
    exact ⟨its, r, p⟩
  inj := fun e1 e2 e3 I h h' => by
    subst e3
    exact I.tuple_inj h h'
/-- an enumeration, the first number lo -/
def ItE (Sq : Hp → List V → Prop) (lo : Int) : It :=
  ⟨fun i H => ∃ (xs : List V) (x : V), Sq H xs ∧ xs[i]? = some x, fun i H v H' => ∃ T x, v = .ref T ∧ H T = none ∧ H' = upd H T (.tup [.int (lo + (i : Nat)), x]) ∧ ∀ xs, Sq H xs → xs[i]? = some x, fun i H => ∃ xs : List V, Sq H xs ∧ xs.length ≤ i⟩
theorem turn_E {P : Program} {w : World} {K : PySem.W.Frag} {elts : List Expr} {kk : Nat} {tpos : Pos} {e it l : Addr} {lo : Int} {st : Nat → Heap → Prop} {C : Heap → Array Value → Prop} {Sq : Hp → List V → Prop} (R : Src P w it l st C) (G : Sqs P w K Sq C) (nei : e ≠ it) :
    Turn P w K (.Tuple elts kk tpos) (ItE Sq lo) [e, it] e (fun i g => (∃ old, IsEnum g e it (lo + (i : Nat)) old) ∧ st i g) where
  mem := List.mem_cons_self ..
  obj := fun i g ⟨⟨old, he⟩, hs⟩ c hc => by
    rcases List.mem_cons.mp hc with z | z
    · rw [z]; exact ⟨_, he, fun v q => nomatch q⟩
    · obtain ⟨o, vs, ho, hd⟩ := R.obj hs
      rw [List.mem_singleton.mp z]; exact ⟨o, ho, fun v q => by rw [hd] at q; cases q⟩
  keep := fun i g g' ⟨⟨old, he⟩, hs⟩ k => ⟨⟨old, k e (List.mem_cons_self ..) _ he⟩, R.kst hs fun o z => k it (by simp) o z⟩
  item := by
    intro X hP hw hK hc i pins s σ H E I hf ⟨⟨old, he⟩, hs⟩ ⟨xs, x, hq, hx⟩
    obtain ⟨its, rv, c⟩ := G.get hP hw hK I hq
    subst hP hw hK
    obtain ⟨u, hu, ru⟩ := rv.get hx
    have le : e < s.heap.objs.size := Heap.lt_size he
    have li : it < s.heap.objs.size := by obtain ⟨o, vs, ho, _⟩ := R.obj hs; exact Heap.lt_size ho
    have ty : s.TypeIs (.ref e) "enumerate" := ⟨_, he, rfl⟩
    unfold pyNext
    refine wpAny_bind (wpAny_attempt (wpAny_callSpecial?_slot (name := Str.ofString "__next__") ty F.slot_enumerate_next (wpAny_call_entry F.slot_enumerate_next ty F.entry_enumerate_next
      (enum_up (Q := fun v s' => wpAny _ _ (pure (some v)) _ _ s') R he hs c (x := u) (by simpa using hu) nei fun g' ho n1 hT hsz hk => wpAny_pure ?_) (F.args_enumerate_next_1 _))))
    refine ⟨_, rfl, wpAny_letOwnedTupleGo_enum (s := { s with heap := g', toks := s.toks + 1 }) ho fun g2 h2 sb => ?_⟩
    have hT2 : g2.get? s.heap.objs.size = some { cls := .type "tuple", data := .seq #[.int (lo + (i : Nat)) s.toks, u] } := same_at sb (Nat.ne_of_gt le) _ hT
    have new : ObjOk X.prog X.w (upd H s.heap.objs.size (.tup [.int (lo + (i : Nat)), x])) g2 s.heap.objs.size (.tup [.int (lo + (i : Nat)), x]) :=
      ⟨by show 2 ≤ sizeLine; decide, [.int (lo + (i : Nat)) s.toks, u], .cons ⟨_, rfl⟩ (.cons ru .nil), ⟨_, hT2, rfl, _, rfl⟩⟩
    have I1 : Inv X pins σ (upd H s.heap.objs.size (.tup [.int (lo + (i : Nat)), x])) { s with heap := g2, toks := s.toks + 1 } :=
      I.turnedNew (ch := [e, it]) (fun c o hc z => same_at sb (fun y => hc (by simp [y])) _ (hk c o (fun y => hc (by simp [y])) (fun y => hc (by simp [y])) z)) hf (Nat.le_refl _) new
    refine ⟨.ref s.heap.objs.size, _, I1, rfl, ⟨_, x, rfl, I.hok.fresh (Nat.le_refl _), rfl, fun ys hy => by rw [G.inj rfl rfl rfl I hy hq]; exact hx⟩, ⟨⟨u, ?_⟩, R.kst n1 fun o z => same_at sb nei.symm _ z⟩, fun c hc => ?_⟩
    · have e1 : lo + ((i + 1 : Nat) : Int) = lo + (i : Nat) + 1 := by omega
      rw [e1]; exact h2
    · have lc : c < s.heap.objs.size := by
        rcases List.mem_cons.mp hc with z | z
        · rw [z]; exact le
        · rw [List.mem_singleton.mp z]; exact li
      rw [upd_ne (Nat.ne_of_lt lc)]
      exact (hf c hc).1
  done := by
    intro X hP hw hK hc i pins s σ H E I hf ⟨⟨old, he⟩, hs⟩ ⟨xs, hq, hx⟩
    obtain ⟨its, rv, c⟩ := G.get hP hw hK I hq
    subst hP hw hK
    have hl := rv.length
    obtain ⟨f0, f1, f2, f3, f4, f5⟩ := hf it (by simp)
    exact enum_out R (I.ok.hd hc) he hs c (by simp; omega) fun g' q => ⟨rfl, I.turned (t' := s.toks) (fun b o hb z => q b o hb z) f0 f1 f3 f4 f5⟩
  self := fun A i s Q E ⟨⟨_, he⟩, _⟩ h => wpAny_pyIter_enum he h
/-- a zip of two sequences -/
def ItZ (Sq Sr : Hp → List V → Prop) : It :=
  ⟨fun i H => ∃ (xs ys : List V) (x y : V), Sq H xs ∧ Sr H ys ∧ xs[i]? = some x ∧ ys[i]? = some y,
    fun i H v H' => ∃ T x y, v = .ref T ∧ H T = none ∧ H' = upd H T (.tup [x, y]) ∧ (∀ xs, Sq H xs → xs[i]? = some x) ∧ ∀ ys, Sr H ys → ys[i]? = some y,
    fun i H => ∃ xs ys : List V, Sq H xs ∧ Sr H ys ∧ (xs.length ≤ i ∨ ys.length ≤ i)⟩
theorem turn_Z {P : Program} {w : World} {K : PySem.W.Frag} {elts : List Expr} {kk : Nat} {tpos : Pos} {zz TI TO i1 i2 l1 l2 : Addr} {S1 S2 : Nat → Heap → Prop} {C1 C2 : Heap → Array Value → Prop} {Sq Sr : Hp → List V → Prop} (R1 : Src P w i1 l1 S1 C1) (R2 : Src P w i2 l2 S2 C2)
    (G1 : Sqs P w K Sq C1) (G2 : Sqs P w K Sr C2) (D : ZipApart zz TI TO i1 i2 l1 l2) :
    Turn P w K (.Tuple elts kk tpos) (ItZ Sq Sr) [zz, TI, TO, i1, i2] zz (fun i g => IsZip g zz TI TO .none ∧ IsPair g TI (.ref i1) (.ref i2) ∧ (∃ x y, IsPair g TO x y) ∧ S1 i g ∧ S2 i g) where
  mem := List.mem_cons_self ..
  obj := fun i g ⟨hz, hTI, ⟨x, y, hTO⟩, h1, h2⟩ c hc => by
    obtain ⟨o1, v1, a1, d1⟩ := R1.obj h1
    obtain ⟨o2, v2, a2, d2⟩ := R2.obj h2
    have hc' : c = zz ∨ c = TI ∨ c = TO ∨ c = i1 ∨ c = i2 := by simpa using hc
    rcases hc' with z | z | z | z | z <;> rw [z]
    · exact ⟨_, hz, fun v q => nomatch q⟩
    · exact ⟨_, hTI, fun v q => nomatch q⟩
    · exact ⟨_, hTO, fun v q => nomatch q⟩
    · exact ⟨o1, a1, fun v q => by rw [d1] at q; cases q⟩
    · exact ⟨o2, a2, fun v q => by rw [d2] at q; cases q⟩
  keep := fun i g g' ⟨hz, hTI, ⟨x, y, hTO⟩, h1, h2⟩ k => ⟨k zz (by simp) _ hz, k TI (by simp) _ hTI, ⟨x, y, k TO (by simp) _ hTO⟩, R1.kst h1 fun o z => k i1 (by simp) o z, R2.kst h2 fun o z => k i2 (by simp) o z⟩
  item := by
    intro X hP hw hK hc i pins s σ H E I hf ⟨hz, hTI, ⟨x0, y0, hTO⟩, h1, h2⟩ ⟨xs, ys, x, y, hqx, hqy, hx, hy⟩
    obtain ⟨its, rv, c1⟩ := G1.get hP hw hK I hqx
    obtain ⟨its2, rv2, c2⟩ := G2.get hP hw hK I hqy
    subst hP hw hK
    obtain ⟨u, hu, ru⟩ := rv.get hx
    obtain ⟨u2, hu2, ru2⟩ := rv2.get hy
    have lz : zz < s.heap.objs.size := Heap.lt_size hz
    have ty : s.TypeIs (.ref zz) "zip" := ⟨_, hz, rfl⟩
    unfold pyNext
    refine wpAny_bind (wpAny_attempt (wpAny_callSpecial?_slot (name := Str.ofString "__next__") ty F.slot_zip_next (wpAny_call_entry F.slot_zip_next ty F.entry_zip_next
      (zip_up (Q := fun v s' => wpAny _ _ (pure (some v)) _ _ s') R1 R2 D hz hTI hTO h1 h2 c1 c2 (x := u) (y := u2) (by simpa using hu) (by simpa using hu2) fun g' z' o' n1 n2 hT hsz hk => wpAny_pure ?_) (F.args_zip_next_1 _))))
    refine ⟨_, rfl, wpAny_letOwnedTupleGo_zip (s := { s with heap := g' }) z' fun g2 z2 sb => ?_⟩
    have hT2 : g2.get? s.heap.objs.size = some { cls := .type "tuple", data := .seq #[u, u2] } := same_at sb (Nat.ne_of_gt lz) _ hT
    have new : ObjOk X.prog X.w (upd H s.heap.objs.size (.tup [x, y])) g2 s.heap.objs.size (.tup [x, y]) := ⟨by show 2 ≤ sizeLine; decide, [u, u2], .cons ru (.cons ru2 .nil), ⟨_, hT2, rfl, _, rfl⟩⟩
    have I1 : Inv X pins σ (upd H s.heap.objs.size (.tup [x, y])) { s with heap := g2 } :=
      I.turnedNew (t' := s.toks) (ch := [zz, TI, TO, i1, i2]) (fun c o hc z => same_at sb (fun y => hc (by simp [y])) _ (hk c o (fun y => hc (by simp [y])) (fun y => hc (by simp [y])) (fun y => hc (by simp [y])) (fun y => hc (by simp [y])) z)) hf (Nat.le_refl _) new
    refine ⟨.ref s.heap.objs.size, _, I1, rfl, ⟨_, x, y, rfl, I.hok.fresh (Nat.le_refl _), rfl, fun l hl => by rw [G1.inj rfl rfl rfl I hl hqx]; exact hx, fun l hl => by rw [G2.inj rfl rfl rfl I hl hqy]; exact hy⟩,
      ⟨z2, same_at sb D.TIz _ (hk _ _ D.TIz D.TITO D.TIi1 D.TIi2 hTI), ⟨u, u2, same_at sb D.TOz _ o'⟩, R1.kst n1 fun o z => same_at sb D.i1z _ z, R2.kst n2 fun o z => same_at sb D.i2z _ z⟩, fun c hc => ?_⟩
    have lt : c < s.heap.objs.size := by
      obtain ⟨o1, v1, a1, d1⟩ := R1.obj h1
      obtain ⟨o2, v2, a2, d2⟩ := R2.obj h2
      have hc' : c = zz ∨ c = TI ∨ c = TO ∨ c = i1 ∨ c = i2 := by simpa using hc
      rcases hc' with z | z | z | z | z <;> rw [z]
      · exact lz
      · exact Heap.lt_size hTI
      · exact Heap.lt_size hTO
      · exact Heap.lt_size a1
      · exact Heap.lt_size a2
    rw [upd_ne (Nat.ne_of_lt lt)]
    exact (hf c hc).1
  done := by
    intro X hP hw hK hc i pins s σ H E I hf ⟨hz, hTI, ⟨x0, y0, hTO⟩, h1, h2⟩ ⟨xs, ys, hqx, hqy, hend⟩
    obtain ⟨its, rv, c1⟩ := G1.get hP hw hK I hqx
    obtain ⟨its2, rv2, c2⟩ := G2.get hP hw hK I hqy
    subst hP hw hK
    have m1 := rv.length
    have m2 := rv2.length
    have he : its.toArray[i]? = none ∨ its2.toArray[i]? = none := hend.imp (fun q => by simp; omega) fun q => by simp; omega
    have ty : s.TypeIs (.ref zz) "zip" := ⟨_, hz, rfl⟩
    unfold pyNext
    refine wpAny_bind (wpAny_attempt (wpAny_callSpecial?_slot (name := Str.ofString "__next__") ty F.slot_zip_next (wpAny_call_entry F.slot_zip_next ty F.entry_zip_next
      (zip_out (A := X.A.in1) R1 R2 D (show X.A.in1.handled = none from I.ok.hd hc) hz hTI hTO h1 h2 c1 c2 he fun g' e hk ⟨o, ho, hcl⟩ => ?_) (F.args_zip_next_1 _))))
    refine wpAny_bind (wpAny_isInstance (T := "StopIteration") (b := true) ⟨o, ho, hcl⟩ isSubtype_stop (wpAny_pure ⟨rfl, ?_⟩))
    exact I.turnedL (t' := s.toks) (ch := [zz, TI, TO, i1, i2]) (fun c o hb z => hk c o (fun q => hb (by simp [q])) (fun q => hb (by simp [q])) (fun q => hb (by simp [q])) (fun q => hb (by simp [q])) z) hf
  self := fun A i s Q E st h => wpAny_pyIter_zip st.1 h
/-! ### the calls: zip of a list and a tuple; enumerate from a number on, of a list, of a tuple -/
abbrev zlt (h : Heap) (l1 l2 : Addr) : Heap := ((((h.push { cls := .type "list_iterator", data := .fields #[.ref l1, .int 0 0] }).push { cls := .type "tuple_iterator", data := .fields #[.ref l2, .int 0 0] }).push { cls := .type "tuple", data := .seq #[.ref h.objs.size, .ref (h.push { cls := .type "list_iterator", data := .fields #[.ref l1, .int 0 0] }).objs.size] }).push { cls := .type "tuple", data := .seq #[.none, .none] })
abbrev zlt2 (h : Heap) (l1 l2 : Addr) : Heap := (h.push { cls := .type "list_iterator", data := .fields #[.ref l1, .int 0 0] }).push { cls := .type "tuple_iterator", data := .fields #[.ref l2, .int 0 0] }
abbrev zlt3 (h : Heap) (l1 l2 : Addr) : Heap := (zlt2 h l1 l2).push { cls := .type "tuple", data := .seq #[.ref h.objs.size, .ref (h.push { cls := .type "list_iterator", data := .fields #[.ref l1, .int 0 0] }).objs.size] }
abbrev zlt5 (h : Heap) (l1 l2 : Addr) : Heap := (zlt h l1 l2).push { cls := .type "zip", data := .fields #[.none, .bool false, .bool false, .ref (zlt2 h l1 l2).objs.size, .ref (zlt3 h l1 l2).objs.size] }
theorem meets_zlt (l1 l2 : Addr) (xs ys : Array Value) : Meets (Builtin.«zip.__new__» ⟨[.type "zip", .ref l1, .ref l2], []⟩) (fun _ R s => s.heap.IsList l1 xs ∧ s.heap.IsTuple l2 ys ∧ R (.ok (.ret (.ref (zlt s.heap l1 l2).objs.size))) { s with heap := zlt5 s.heap l1 l2 }) :=
  .of_wp fun prog w A R s h => by
    obtain ⟨hp, g, d, tk, os⟩ := s
    obtain ⟨a1, a2, k⟩ := h
    have sub_ := sub_zip
    have L1 : Heap.IsList (Shared.heap ⟨hp, g, d, tk, os⟩) l1 xs := a1
    have L2 : Heap.IsTuple (Shared.heap ⟨hp.push { cls := .type "list_iterator", data := .fields #[.ref l1, .int 0 0] }, g, d, tk, os⟩) l2 ys := Heap.IsTuple.push a2 _
    wp_walk using wpAny_pyIter_list L1, wpAny_pyIter_tuple L2
    exact ⟨_, rfl, k⟩
section
variable {P : Program} {w : World} {A : Around} {E : Value → Shared → Prop} {s : Shared}
theorem call_zlt {l1 l2 : Addr} {xs ys : Array Value} {Q : Value → Shared → Prop} (a1 : s.heap.IsList l1 xs) (a2 : s.heap.IsTuple l2 ys)
    (h : ∀ g', IsZip g' (s.heap.objs.size + 4) (s.heap.objs.size + 2) (s.heap.objs.size + 3) .none → IsPair g' (s.heap.objs.size + 2) (.ref s.heap.objs.size) (.ref (s.heap.objs.size + 1)) → IsPair g' (s.heap.objs.size + 3) .none .none →
      g'.IsListIter s.heap.objs.size l1 0 → g'.IsTupleIter (s.heap.objs.size + 1) l2 0 → (∀ c o, s.heap.get? c = some o → g'.get? c = some o) → Q (.ref (s.heap.objs.size + 4)) { s with heap := g' }) :
    wpAny (model P w) A (call (.type "zip") [.ref l1, .ref l2]) Q E s := by
  refine callType_new F.called_zip (by decide) (F.typeCall_zip_2 _ _) (F.newCall_zip_2 _ _) (fun obj => F.args_object_init_3 obj _ _) F.entry_zip_new (meets_zlt l1 l2 xs ys) ⟨a1, a2, ?_⟩
  have n1 : (s.heap.push { cls := .type "list_iterator", data := .fields #[.ref l1, .int 0 0] }).objs.size = s.heap.objs.size + 1 := Heap.size_push ..
  have n2 : (zlt2 s.heap l1 l2).objs.size = s.heap.objs.size + 2 := by rw [Heap.size_push, n1]
  have n3 : (zlt3 s.heap l1 l2).objs.size = s.heap.objs.size + 3 := by rw [Heap.size_push, n2]
  have n4 : (zlt s.heap l1 l2).objs.size = s.heap.objs.size + 4 := by rw [Heap.size_push, Heap.size_push, n2]
  have b5 : (zlt5 s.heap l1 l2).get? (zlt s.heap l1 l2).objs.size = some _ := Heap.get?_push_size _ rfl
  have b4 : (zlt5 s.heap l1 l2).get? (zlt3 s.heap l1 l2).objs.size = some _ := Heap.get?_push_of_some _ (Heap.get?_push_size _ rfl)
  have b3 : (zlt5 s.heap l1 l2).get? (zlt2 s.heap l1 l2).objs.size = some _ := Heap.get?_push_of_some _ (Heap.get?_push_of_some _ (Heap.get?_push_size _ rfl))
  have b2 : (zlt5 s.heap l1 l2).get? (s.heap.push { cls := .type "list_iterator", data := .fields #[.ref l1, .int 0 0] }).objs.size = some _ := Heap.get?_push_of_some _ (Heap.get?_push_of_some _ (Heap.get?_push_of_some _ (Heap.get?_push_size _ rfl)))
  have b1 : (zlt5 s.heap l1 l2).get? s.heap.objs.size = some _ := Heap.get?_push_of_some _ (Heap.get?_push_of_some _ (Heap.get?_push_of_some _ (Heap.get?_push_of_some _ (Heap.get?_push_size _ rfl))))
  show _ ∧ _
  rw [n2, n3, n4] at b5
  rw [n1, n2] at b3
  rw [n3] at b4
  rw [n1] at b2
  rw [n4]
  exact ⟨⟨_, b5, rfl⟩, h _ b5 b3 b4 ⟨_, b1, rfl, rfl⟩ ⟨_, b2, rfl, rfl⟩ fun c o x => Heap.get?_push_of_some _ (Heap.get?_push_of_some _ (Heap.get?_push_of_some _ (Heap.get?_push_of_some _ (Heap.get?_push_of_some _ x))))⟩
end
def iZipLT (K : PySem.W.Frag) (ta : TA) : TI := fun σ H R => ta σ H fun vs H1 => ∃ a b xs ys, vs = [.ref a, .ref b] ∧ SqL K H1 a xs ∧ SqT K H1 b ys ∧ R (ItZ (fun H xs => SqL K H a xs) (fun H ys => SqT K H b ys)) H1
theorem pi_zipLT {X : Cx} {e e2 : Expr} {ta : TA} {p pos tpos : Pos} {elts : List Expr} {kk : Nat} (hg : Gl X "zip") (hm : X.mg "zip" = none) (ha : PA X [e, e2] ta)
    (hs : starEach [e, e2] X.env = (false, eval e X.env) :: starEach [e2] X.env := by rfl) (hpl : (backTo pos (starEach [e2] X.env)).any (·.1) = false := by rfl) :
    PI X (.Tuple elts kk tpos) (.Call (.Name "zip" p) [e, e2] [] pos) (iZipLT X.K ta) := by
  refine ⟨fun pins s σ H R I h => Call_ (ld_blt I hg hm PyProof.Rows.boot_zip (PyProof.Rows.callWith_type1 (thn (ha.run pos pins s σ H _ I h) fun us s1 ⟨vs, H1, I1, r1, a, b, xs, ys, ex, hx, hy, q⟩ => ?_) hs hpl))⟩
  subst ex
  cases r1 with
  | cons r rr =>
    cases rr with
    | cons r' rr =>
      cases rr
      cases r
      cases r'
      obtain ⟨its, rv, p1, _⟩ := I1.list hx
      obtain ⟨its2, rv2, p2, _⟩ := I1.tuple hy
      obtain ⟨o2, ho2, _⟩ := id p2
      refine call_zlt p1.isList (show s1.heap.IsTuple b its2.toArray from p2) fun g' hz hTI hTO h1 h2 hk => wpAny_pyIter_zip hz ?_
      have I2 : Inv X pins σ H1 { s1 with heap := g' } := I1.kept (t' := s1.toks) hk
      refine ⟨s1.heap.objs.size + 4, [s1.heap.objs.size + 4, s1.heap.objs.size + 2, s1.heap.objs.size + 3, s1.heap.objs.size, s1.heap.objs.size + 1], _, _, H1, rfl, I2,
        turn_Z src_list src_tup sqs_list sqs_tup (PySem.W.ktu_apart s1.heap.objs.size a b p1.lt (Heap.lt_size ho2)), ⟨hz, hTI, ⟨_, _, hTO⟩, h1, h2⟩, fun c hc => ?_, q⟩
      have le : s1.heap.objs.size ≤ c := by
        have hc' : c = s1.heap.objs.size + 4 ∨ c = s1.heap.objs.size + 2 ∨ c = s1.heap.objs.size + 3 ∨ c = s1.heap.objs.size ∨ c = s1.heap.objs.size + 1 := by simpa using hc
        rcases hc' with z | z | z | z | z <;> rw [z] <;> first | exact Nat.le_add_right _ _ | exact Nat.le_refl _
      exact I1.fpOk le (I1.hok.fresh le)
/-- a call of a built-in class with keywords -/
theorem call_cls_kw {M : Model} {A : Around} {E : Value → Shared → Prop} {s : Shared} {env : Env} {pos : Pos} {cls : String} {e : Expr} {more : List Expr} {ks : List Keyword} {Q : Value → Shared → Prop}
    (h : wpAny M A (spliced (backTo pos (starEach (e :: more) env))) (fun us s1 => wpAny M A (evalAll ((backToKw pos (keywordEach ks env)).map (·.2)))
      (fun zs s2 => wpAny M A (call (.type cls) us (((backToKw pos (keywordEach ks env)).filterMap (·.1)).zip zs)) Q E s2) E s1) E s)
    (fst_ : backTo pos (starEach (e :: more) env) = (false, eval e env) :: backTo pos (starEach more env) := by rfl)
    (noStar : (backTo pos (starEach (e :: more) env)).any (·.1) = false := by rfl) (named : (backToKw pos (keywordEach ks env)).all (·.1.isSome) = true := by rfl) (noDbl : (backToKw pos (keywordEach ks env)).any (·.1.isNone) = false := by rfl) :
    wpAny M A (callWith pos (.type cls) [] (backTo pos (starEach (e :: more) env)) (backToKw pos (keywordEach ks env))) Q E s := by
  have args_ : wpAny M A (evalArgs (.type cls) true (backTo pos (starEach (e :: more) env)) (backToKw pos (keywordEach ks env))) (fun a s1 => wpAny M A (call (.type cls) ([] ++ a.pos) a.kw) Q E s1) E s := by
    rw [fst_] at h ⊢
    exact evalArgs_kwB named h
  unfold callWith
  refine wpAny_bind (wpAny_holding (wpAny_mono args_ (fun a s1 q => wpAny_bind (wpAny_standAt ?_)) fun _ _ y => y)); simp only [noStar, noDbl, Bool.or_false]
  refine wpAny_bind (wpAny_pure (wpAny_bind (wpAny_mono q (fun r s2 hr => wpAny_bind (wpAny_holding (wpAny_point (wpAny_pure hr)))) fun _ _ y => y)))
def IteS (K : PySem.W.Frag) (a : Addr) (lo : Int) : It := ItE (fun H xs => SqL K H a xs) lo
def iEnumS (K : PySem.W.Frag) (ta : TA) : TI := fun σ H R => ta σ H fun vs H1 => ∃ a xs, vs = [.ref a] ∧ SqL K H1 a xs ∧ R (IteS K a 1) H1
theorem pi_enumS {X : Cx} {e : Expr} {ta : TA} {p pos tpos kp cp : Pos} {kc} {elts : List Expr} {kk : Nat} (hg : Gl X "enumerate") (hm : X.mg "enumerate" = none) (ha : PA X [e] ta) (hs : starEach [e] X.env = [(false, eval e X.env)] := by rfl) :
    PI X (.Tuple elts kk tpos) (.Call (.Name "enumerate" p) [e] [⟨some "start", .Constant (.int 1) kc cp, kp⟩] pos) (iEnumS X.K ta) := by
  refine ⟨fun pins s σ H R I h => ?_⟩
  show wpAny _ _ (eval (.Name "enumerate" p) X.env >>= _) _ _ _
  refine wpAny_bind (ld_blt I hg hm PyProof.Rows.boot_enumerate (call_cls_kw (thn (ha.run pos pins s σ H _ I h) fun us s1 ⟨vs, H1, I1, r1, a, xs, ex, hx, q⟩ => ?_) (by rw [hs]; rfl) (by rw [hs]; rfl)))
  subst ex
  cases r1 with
  | cons r rr =>
    cases rr
    cases r
    refine kws_cons (wpAny_Constant_int (kws_nil ?_))
    have J1 := I1.tok (s1.toks + 1)
    obtain ⟨its, rv, p1, _⟩ := I1.list hx
    show wpAny _ _ (call (.type "enumerate") [.ref a] [(Str.ofString "start", .int 1 s1.toks)]) _ _ _
    refine enum_begins_start (begins_list a its.toArray) p1.isList (by decide) (by decide) fun g' he hit hsz hk => wpAny_pyIter_enum he ?_
    have I2 : Inv X pins σ H1 { s1 with heap := g', toks := s1.toks + 1 } := I1.kept hk
    refine ⟨s1.heap.objs.size + 1, [s1.heap.objs.size + 1, s1.heap.objs.size], _, _, H1, rfl, I2, turn_E src_list sqs_list (Nat.succ_ne_self _), ⟨⟨_, he⟩, ⟨_, hit, rfl, rfl⟩⟩, fun c hc => ?_, q⟩
    have le : s1.heap.objs.size ≤ c := by
      have hc' : c = s1.heap.objs.size + 1 ∨ c = s1.heap.objs.size := by simpa using hc
      rcases hc' with z | z <;> rw [z] <;> first | exact Nat.le_add_right _ _ | exact Nat.le_refl _
    exact I1.fpOk le (I1.hok.fresh le)
end Td
set_option maxHeartbeats 4000000
namespace Td
open PySem PySem.Spec PyProof.Rows L2
/-! ### the number of texts in set(list of different texts) -/
abbrev emptySet (led : Bool) : Obj := { cls := .type "set", dict := none, data := .set #[] 0 (.fresh 0 0 led) }
section
variable {P : Program} {w : World} {A : Around}
theorem fill_texts {R : Result → Shared → Prop} {j a : Addr} {fp wr : List Addr} {G : Array GenState → Array GenState → Prop} {n : Nat} {Pv : Nat → Value → Prop} {St : Nat → Shared → Prop} (W : WalksS P w A.in1 j fp wr G n Pv St) (na : a ∉ fp)
    (ss : List Str) (nd : ss.Nodup) (ln : ss.length = n) (few : n + 1 < scanBound) (rd : ∀ i v, Pv i v → ∃ x t, ss[i]? = some x ∧ v = .str x t) : ∀ (d i : Nat) (s : Shared), n - i = d → i ≤ n → St i s →
      s.heap.SetOf (PySem.strKind P w) a (fun k => decide (k ∈ ss.take i)) i → (∀ s', Moved (a :: wr) G s s' → s'.heap.SetOf (PySem.strKind P w) a (fun k => decide (k ∈ ss)) n → R (.ok (.ret .none)) s') →
      codeAny (model P w) A (.builtin "set.update.loop" ⟨[.ref a, .ref j], []⟩) R s := by
  have naw : a ∉ wr := fun q => na (W.sub _ q)
  have up : ∀ c ∈ wr, c ∈ a :: wr := fun c q => List.mem_cons_of_mem _ q
  have keep : ∀ {s s' : Shared} {S : Str → Bool} {m : Nat}, Moved wr G s s' → s.heap.SetOf (PySem.strKind P w) a S m → s'.heap.SetOf (PySem.strKind P w) a S m := fun mv ⟨o, es, ep, t, ho, r⟩ => ⟨o, es, ep, t, mv.heap a o naw ho, r⟩
  intro d
  induction d with
  | zero =>
    intro i s hd hi st hs q
    have e : i = n := by omega
    subst e
    refine codeAny_builtin PyProof.Rows.F.entry_set_update_loop ?_; rw [Around.under_plainId PyProof.Rows.F.plain_set_update_loop _]
    show wpAny _ A.in1 (pyNext (.ref j) >>= _) _ _ s; refine wpAny_bind (W.done s _ _ st fun s' mv => ?_)
    show wpAny _ A.in1 (ret Value.none) _ _ s'; refine wpAny_pure (q s' (mv.mono up) ?_)
    rw [List.take_of_length_le (Nat.le_of_eq ln)] at hs
    exact keep mv hs
  | succ d ih =>
    intro i s hd hi st hs q
    have lt : i < n := by omega
    refine codeAny_builtin PyProof.Rows.F.entry_set_update_loop ?_; rw [Around.under_plainId PyProof.Rows.F.plain_set_update_loop _]
    show wpAny _ A.in1 (pyNext (.ref j) >>= _) _ _ s; refine wpAny_bind (W.item i s _ _ lt st fun v s' hv st' mv => ?_)
    obtain ⟨x, t, hx, rfl⟩ := rd i v hv
    have new : x ∉ ss.take i := fun hm => by
      obtain ⟨m, hm1⟩ := List.mem_iff_getElem?.mp hm
      rw [List.getElem?_take] at hm1
      split at hm1
      · rename_i hmi
        obtain ⟨l1, e1⟩ := List.getElem?_eq_some_iff.mp hm1
        obtain ⟨l2, e2⟩ := List.getElem?_eq_some_iff.mp hx
        exact List.pairwise_iff_getElem.mp nd m i l1 l2 hmi (e1.trans e2.symm)
      · cases hm1
    show wpAny _ A.in1 (holding [Value.str x t] (setAdd a (.str x t)) >>= _) _ _ s'
    refine wpAny_bind (wpAny_holding ?_); unfold setAdd
    have hs1 : s'.heap.SetOf (PySem.strKind P w) a (fun k => decide (k ∈ ss.take i)) i := keep mv hs
    refine wpAny_holding (wpAny_bind ((PySem.strKind P w).pyHash (k := x) (strKind_is _ _ _ _) ?_))
    refine wpAny_setAddHashed_of (knd := PySem.strKind P w) (s := { s' with toks := s'.toks + 1 }) (strKind_is _ _ _ _) rfl hs1 (by omega) fun g sb h2 => ?_
    have h3 : g.SetOf (PySem.strKind P w) a (fun k => decide (k ∈ ss.take (i + 1))) (i + 1) := SetOf_congr h2 (fun k => by rw [List.take_add_one, hx]; simp [List.mem_append]) (by rw [decide_eq_false new]; rfl)
    have off : ∀ c, c ≠ a → ∀ o, s'.heap.get? c = some o → g.get? c = some o := fun c z o e => (sb.2 c z).trans e
    refine wpAny_pure ⟨plainId_quiet PyProof.Rows.F.plain_set_update_loop _, ih (i + 1) _ (by omega) lt (W.frame _ s' _ _ st' (Nat.le_succ _) fun c hc o e => off c (fun z => na (z ▸ hc)) o e) h3 fun s2 mv2 h4 => q s2 ?_ h4⟩
    exact Moved.trans W.gtrans ((mv.mono up).then_heap (Nat.le_succ _) fun c o hc e => off c (fun z => hc (z ▸ List.mem_cons_self ..)) o e) mv2
end
section
variable {P : Program} {w : World} {A : Around} {E : Value → Shared → Prop} {s : Shared}
def Filled (P : Program) (w : World) (ss : List Str) (s s2 : Shared) : Prop :=
  ∃ g tk, s2 = { s with heap := g, toks := tk } ∧ g.SetOf (PySem.strKind P w) s.heap.objs.size (fun k => decide (k ∈ ss)) ss.length ∧ ∀ c o, c < s.heap.objs.size → s.heap.get? c = some o → g.get? c = some o
set_option maxHeartbeats 8000000 in
theorem call_set_texts {l : Addr} {its : Array Value} {ss : List Str} {Q : Value → Shared → Prop} (hh : A.handled = none) (hl : s.heap.IsList l its) (ln : ss.length = its.size) (nd : ss.Nodup) (few : its.size + 1 < scanBound)
    (rd : ∀ (i : Nat) (v : Value), its[i]? = some v → ∃ x t, ss[i]? = some x ∧ v = Value.str x t) (q : ∀ s2, Filled P w ss s s2 → Q (.ref s.heap.objs.size) s2) : wpAny (model P w) A (call (.type "set") [.ref l]) Q E s := by
  obtain ⟨k0, k1, ro⟩ := PySem.F.called_set.mro
  have f1 := PySem.F.called_set.made; have f2 := PySem.F.called_set.sub; have f3 := PySem.F.called_set.notType
  have f4 := PySem.F.called_set.canCreate; have f5 := PySem.F.typeCall_set_1 (.ref l)
  refine wpAny_call (codeAny_of_tree ?_); show wpAny _ _ (callAny (.type "set") _) _ _ _
  refine wpAny_pure ⟨Code.quiet_builtin _ (by decide +kernel), codeAny_builtin PySem.F.entry_type_call ?_⟩; rw [Around.under_plain (weight_type_call_type "set" [.ref l] []) rfl]
  repeat (any_goals (first | assumption | wp_step))
  refine codeAny_mono (code_set_new_1 (.ref l) (E := E) (Q₁ := fun v s1 => ∃ led : Bool, v = .ref s.heap.objs.size ∧ s1 = { s with heap := s.heap.push (emptySet led) }) fun led => ⟨led, rfl, rfl⟩) fun r s1 hr => ?_
  cases r with
  | error e => exact hr
  | ok fl =>
    cases fl with
    | ret v =>
      obtain ⟨led, rfl, rfl⟩ := hr
      have at1 : (s.heap.push (emptySet led)).get? s.heap.objs.size = some (emptySet led) := Heap.get?_push_size _ rfl
      have ty : Shared.TypeIs { s with heap := s.heap.push (emptySet led) } (.ref s.heap.objs.size) "set" := ⟨_, at1, rfl⟩
      have f6 := PySem.F.called_set.init.lookup; have f7 := PySem.F.called_set.init.bind (.ref s.heap.objs.size)
      repeat (any_goals (first | assumption | wp_step))
      refine codeAny_mono (codeAny_call_builtin (R := wants (fun r s2 => r = .none ∧ Filled P w ss s s2) E) PySem.F.called_set.init.plain PySem.F.entry_set_init (check_set_init_1 ty ?_)) fun r2 s2 hr2 => ?_
      · obtain ⟨⟨oc, od, odt, osl⟩, hol, hcl, nl, hdl⟩ := hl
        simp only at hcl hdl
        subst hcl; subst hdl
        have at2 : (s.heap.push (emptySet led)).get? l = some { cls := .type "list", dict := od, data := .seq its nl, slots := osl } := Heap.get?_push_of_some _ hol
        have g1 := PySem.F.sub_list_set; have g2 := PySem.F.sub_list_frozenset
        have g3 : (Value.type "list" == Value.type "dict") = false := by decide
        have li : (s.heap.push (emptySet led)).IsList l its := ⟨_, at2, rfl, nl, rfl⟩
        unfold Builtin.«set.__init__» noKeywords Builtin.Frozenset.updateFrom
        generalize keepIt : pyIter = itr
        wp_walk
        subst keepIt
        refine wpAny_pyIter_list li (wpAny_bind (wpAny_runValue ?_))
        have lt : l < s.heap.objs.size := Heap.lt_size hol
        have z1 : (s.heap.push (emptySet led)).objs.size = s.heap.objs.size + 1 := Heap.size_push ..
        have n1 : l ≠ (s.heap.push (emptySet led)).objs.size := by rw [z1]; exact Nat.ne_of_lt (Nat.lt_succ_of_lt lt)
        have n2 : s.heap.objs.size ∉ [(s.heap.push (emptySet led)).objs.size, l] := by
          rw [z1]; intro hm; rcases List.mem_cons.mp hm with z | z
          · exact Nat.ne_of_lt (Nat.lt_succ_self _) z
          · exact Nat.ne_of_gt lt (List.mem_singleton.mp z)
        have hd3 : A.in1.in1.in1.handled = none := by simp [hh]
        refine fill_texts ((Walks.list hd3 _ l n1 its).toS) n2 ss nd ln few rd (its.size - 0) 0 _ (by omega) (Nat.zero_le _) ⟨⟨_, Heap.get?_push_size _ rfl, rfl, rfl⟩, li.push _⟩ ?start ?stop
        case start => exact SetOf_congr ((setObjOf_fresh (knd := PySem.strKind P w) led).setOf (Heap.get?_push_of_some _ at1) (by unfold scanBound; omega)) (fun _ => rfl) rfl
        case stop =>
          rintro ⟨g, gn, dr, tk, os⟩ mv hs
          have e1 : gn = s.gens := mv.gens
          have e2 : dr = s.drawn := mv.drawn
          have e3 : os = s.os := mv.os
          subst e1; subst e2; subst e3
          refine wpAny_pure ?_; show wpAny _ _ (ret Value.none) _ _ _
          rw [← ln] at hs
          refine wpAny_pure ⟨rfl, g, tk, rfl, hs, fun c o hc e => mv.heap c o (fun hm => ?_) (Heap.get?_push_of_some _ (Heap.get?_push_of_some _ e))⟩
          rcases List.mem_cons.mp hm with z | z
          · exact Nat.ne_of_lt hc z
          · rw [List.mem_singleton.mp z, z1] at hc
            exact absurd hc (by omega)
      · cases r2 with
        | error e => exact hr2
        | ok fl2 =>
          cases fl2 with
          | ret r =>
            obtain ⟨rfl, hF⟩ := hr2
            repeat (any_goals (first | assumption | wp_step))
            exact q _ hF
          | _ => exact hr2.elim
    | _ => exact hr.elim
end
theorem txt_vals : ∀ {ss : List Str} {us : List Value}, Vals (ss.map V.str) us → ∀ (i : Nat) (v : Value), us[i]? = some v → ∃ x t, ss[i]? = some x ∧ v = Value.str x t
  | [], _, .nil, i, v, h => by simp at h
  | x :: ss, _, .cons r rr, 0, v, h => by
    obtain ⟨t, rfl⟩ := r
    simp at h
    exact ⟨x, t, rfl, h.symm⟩
  | x :: ss, _, .cons r rr, i + 1, v, h => txt_vals rr i v (by simpa using h)
def tLenSetS (K : PySem.W.Frag) (ta : TE) : TE := fun σ H Q => ta σ H fun x H1 => ∃ (l : Addr) (ss : List Str), x = .ref l ∧ SqL K H1 l (ss.map V.str) ∧ ss.length ≤ 4000 ∧ ss.Nodup ∧ Q (.int (ss.length : Nat)) H1
theorem pe_lenSetS {X : Cx} {a : Expr} {ta : TE} {p p2 q pos : Pos} (hg : Gl X "len") (hm : X.mg "len" = none) (hg2 : Gl X "set") (hm2 : X.mg "set" = none) (ha : PE X a ta) (hc : X.calm = true := by rfl)
    (na : starEach [a] X.env = (false, eval a X.env) :: starEach [] X.env := by rfl) : PE X (.Call (.Name "len" p) [.Call (.Name "set" p2) [a] [] q] [] pos) (tLenSetS X.K ta) := by
  refine ⟨fun pins s σ H Q I h => Call_ (ld_blt I hg hm boot_len (PyProof.Rows.callWith_builtin1 (PyProof.Rows.args_cons (Call_ (ld_blt I hg2 hm2 boot_set ?_)) rfl) rfl rfl))⟩
  refine PyProof.Rows.callWith_type1 (PyProof.Rows.args_cons (thn (ha.run pins s σ H _ I h) fun v s1 ⟨x, H1, I1, r1, l, ss, ex, hq, hl, nd, q1⟩ => PyProof.Rows.args_nil ?_) na) na rfl
  subst ex
  cases r1
  obtain ⟨its, r, pl, hz⟩ := I1.list hq
  have ln : ss.length = its.toArray.size := by rw [List.size_toArray, ← r.length, List.length_map]
  refine call_set_texts (I1.ok.hd hc) pl.isList ln nd (by rw [← ln]; unfold scanBound; omega) (fun i v e => txt_vals r i v (by simpa using e)) fun s2 ⟨g, tk, e2, hS, hk⟩ => PyProof.Rows.args_nil ?_
  subst e2
  obtain ⟨o, es, ep, t, ho, hex, hd, _, _, _, hf, hn⟩ := hS
  have I2 : Inv X pins σ H1 { s1 with heap := g, toks := tk } := I1.kept fun c o e => hk c o (Heap.lt_size e) e
  exact call_len_set ho hex hd hf (by rw [hn]; omega) ⟨.int ss.length, H1, I2.tok _, ⟨_, by rw [hn]⟩, q1⟩
end Td
set_option maxHeartbeats 4000000
namespace Td
open PySem PySem.Spec PyProof.Rows L2
/-! ### the number of different texts of a list: len(set(texts)) whatever the texts are -/
def dc : List Str → List Str → Nat
  | _, [] => 0
  | seen, x :: l => (if x ∈ seen then 0 else 1) + dc (seen ++ [x]) l
theorem dc_snoc : ∀ (l seen : List Str) (x : Str), dc seen (l ++ [x]) = dc seen l + (if x ∈ seen ++ l then 0 else 1)
  | [], seen, x => by
    show (if x ∈ seen then 0 else 1) + 0 = 0 + _
    rw [List.append_nil]
    omega
  | y :: l, seen, x => by
    show (if y ∈ seen then 0 else 1) + dc (seen ++ [y]) (l ++ [x]) = (if y ∈ seen then 0 else 1) + dc (seen ++ [y]) l + _
    rw [dc_snoc l (seen ++ [y]) x, List.append_assoc]
    show _ + (_ + if x ∈ seen ++ y :: l then 0 else 1) = _
    omega
theorem dc_le : ∀ (l seen : List Str), dc seen l ≤ l.length
  | [], _ => Nat.le_refl _
  | y :: l, seen => by
    have e := dc_le l (seen ++ [y])
    show (if y ∈ seen then 0 else 1) + dc (seen ++ [y]) l ≤ l.length + 1
    split <;> omega
theorem dc_nd : ∀ (l seen : List Str), dc seen l = l.length ↔ (l.Nodup ∧ ∀ x ∈ l, x ∉ seen)
  | [], seen => by
    show (0 = 0) ↔ _
    simp
  | y :: l, seen => by
    have e := dc_nd l (seen ++ [y])
    have e2 := dc_le l (seen ++ [y])
    show (if y ∈ seen then 0 else 1) + dc (seen ++ [y]) l = l.length + 1 ↔ _
    by_cases h : y ∈ seen
    · rw [if_pos h]
      refine ⟨fun z => absurd z (by omega), fun z => absurd h (z.2 y List.mem_cons_self)⟩
    · rw [if_neg h]
      have e3 : (1 + dc (seen ++ [y]) l = l.length + 1) ↔ dc (seen ++ [y]) l = l.length := by omega
      rw [e3, e, List.nodup_cons]
      refine ⟨fun ⟨a, b⟩ => ⟨⟨fun z => b y z (List.mem_append_right _ (List.mem_singleton_self y)), a⟩, fun x hx => ?_⟩, fun ⟨⟨a, b⟩, c⟩ => ⟨b, fun x hx hz => ?_⟩⟩
      · rcases List.mem_cons.mp hx with rfl | hx
        · exact h
        · exact fun z => b x hx (List.mem_append_left _ z)
      · rcases List.mem_append.mp hz with hz | hz
        · exact c x (List.mem_cons_of_mem _ hx) hz
        · rw [List.mem_singleton.mp hz] at hx
          exact a hx
theorem dc_eq (l : List Str) : decide (V.int (dc [] l : Nat) = V.int (l.length : Nat)) = decide l.Nodup := by
  have e := dc_nd l []
  by_cases h : l.Nodup
  · rw [decide_eq_true h, decide_eq_true]
    rw [e.mpr ⟨h, fun x _ => List.not_mem_nil⟩]
  · rw [decide_eq_false h, decide_eq_false]
    intro z
    injection z with z
    exact h (e.mp (by omega)).1
section
variable {P : Program} {w : World} {A : Around}
theorem fill_textsG {R : Result → Shared → Prop} {j a : Addr} {fp wr : List Addr} {G : Array GenState → Array GenState → Prop} {n : Nat} {Pv : Nat → Value → Prop} {St : Nat → Shared → Prop} (W : WalksS P w A.in1 j fp wr G n Pv St) (na : a ∉ fp)
    (ss : List Str) (ln : ss.length = n) (few : n + 1 < scanBound) (rd : ∀ i v, Pv i v → ∃ x t, ss[i]? = some x ∧ v = .str x t) : ∀ (d i : Nat) (s : Shared), n - i = d → i ≤ n → St i s →
      s.heap.SetOf (PySem.strKind P w) a (fun k => decide (k ∈ ss.take i)) (dc [] (ss.take i)) → (∀ s', Moved (a :: wr) G s s' → s'.heap.SetOf (PySem.strKind P w) a (fun k => decide (k ∈ ss)) (dc [] ss) → R (.ok (.ret .none)) s') →
      codeAny (model P w) A (.builtin "set.update.loop" ⟨[.ref a, .ref j], []⟩) R s := by
  have naw : a ∉ wr := fun q => na (W.sub _ q)
  have up : ∀ c ∈ wr, c ∈ a :: wr := fun c q => List.mem_cons_of_mem _ q
  have keep : ∀ {s s' : Shared} {S : Str → Bool} {m : Nat}, Moved wr G s s' → s.heap.SetOf (PySem.strKind P w) a S m → s'.heap.SetOf (PySem.strKind P w) a S m := fun mv ⟨o, es, ep, t, ho, r⟩ => ⟨o, es, ep, t, mv.heap a o naw ho, r⟩
  intro d
  induction d with
  | zero =>
    intro i s hd hi st hs q
    have e : i = n := by omega
    subst e
    refine codeAny_builtin PyProof.Rows.F.entry_set_update_loop ?_; rw [Around.under_plainId PyProof.Rows.F.plain_set_update_loop _]
    show wpAny _ A.in1 (pyNext (.ref j) >>= _) _ _ s; refine wpAny_bind (W.done s _ _ st fun s' mv => ?_)
    show wpAny _ A.in1 (ret Value.none) _ _ s'; refine wpAny_pure (q s' (mv.mono up) ?_)
    rw [List.take_of_length_le (Nat.le_of_eq ln)] at hs
    exact keep mv hs
  | succ d ih =>
    intro i s hd hi st hs q
    have lt : i < n := by omega
    refine codeAny_builtin PyProof.Rows.F.entry_set_update_loop ?_; rw [Around.under_plainId PyProof.Rows.F.plain_set_update_loop _]
    show wpAny _ A.in1 (pyNext (.ref j) >>= _) _ _ s; refine wpAny_bind (W.item i s _ _ lt st fun v s' hv st' mv => ?_)
    obtain ⟨x, t, hx, rfl⟩ := rd i v hv
    show wpAny _ A.in1 (holding [Value.str x t] (setAdd a (.str x t)) >>= _) _ _ s'
    refine wpAny_bind (wpAny_holding ?_); unfold setAdd
    have hs1 : s'.heap.SetOf (PySem.strKind P w) a (fun k => decide (k ∈ ss.take i)) (dc [] (ss.take i)) := keep mv hs
    have sm : dc [] (ss.take i) ≤ i := Nat.le_trans (dc_le _ _) (by rw [List.length_take]; omega)
    refine wpAny_holding (wpAny_bind ((PySem.strKind P w).pyHash (k := x) (strKind_is _ _ _ _) ?_))
    refine wpAny_setAddHashed_of (knd := PySem.strKind P w) (s := { s' with toks := s'.toks + 1 }) (strKind_is _ _ _ _) rfl hs1 (by omega) fun g sb h2 => ?_
    have h3 : g.SetOf (PySem.strKind P w) a (fun k => decide (k ∈ ss.take (i + 1))) (dc [] (ss.take (i + 1))) := SetOf_congr h2 (fun k => by rw [List.take_add_one, hx]; simp [List.mem_append]) (by
      rw [take_snoc hx, dc_snoc, List.nil_append]
      by_cases hm : x ∈ ss.take i
      · rw [if_pos hm, decide_eq_true hm]; rfl
      · rw [if_neg hm, decide_eq_false hm]; rfl)
    have off : ∀ c, c ≠ a → ∀ o, s'.heap.get? c = some o → g.get? c = some o := fun c z o e => (sb.2 c z).trans e
    refine wpAny_pure ⟨plainId_quiet PyProof.Rows.F.plain_set_update_loop _, ih (i + 1) _ (by omega) lt (W.frame _ s' _ _ st' (Nat.le_succ _) fun c hc o e => off c (fun z => na (z ▸ hc)) o e) h3 fun s2 mv2 h4 => q s2 ?_ h4⟩
    exact Moved.trans W.gtrans ((mv.mono up).then_heap (Nat.le_succ _) fun c o hc e => off c (fun z => hc (z ▸ List.mem_cons_self ..)) o e) mv2
end
section
variable {P : Program} {w : World} {A : Around} {E : Value → Shared → Prop} {s : Shared}
def FilledG (P : Program) (w : World) (ss : List Str) (s s2 : Shared) : Prop :=
  ∃ g tk, s2 = { s with heap := g, toks := tk } ∧ g.SetOf (PySem.strKind P w) s.heap.objs.size (fun k => decide (k ∈ ss)) (dc [] ss) ∧ ∀ c o, c < s.heap.objs.size → s.heap.get? c = some o → g.get? c = some o
set_option maxHeartbeats 8000000 in
theorem call_set_textsG {l : Addr} {its : Array Value} {ss : List Str} {Q : Value → Shared → Prop} (hh : A.handled = none) (hl : s.heap.IsList l its) (ln : ss.length = its.size) (few : its.size + 1 < scanBound)
    (rd : ∀ (i : Nat) (v : Value), its[i]? = some v → ∃ x t, ss[i]? = some x ∧ v = Value.str x t) (q : ∀ s2, FilledG P w ss s s2 → Q (.ref s.heap.objs.size) s2) : wpAny (model P w) A (call (.type "set") [.ref l]) Q E s := by
  obtain ⟨k0, k1, ro⟩ := PySem.F.called_set.mro
  have f1 := PySem.F.called_set.made; have f2 := PySem.F.called_set.sub; have f3 := PySem.F.called_set.notType
  have f4 := PySem.F.called_set.canCreate; have f5 := PySem.F.typeCall_set_1 (.ref l)
  refine wpAny_call (codeAny_of_tree ?_); show wpAny _ _ (callAny (.type "set") _) _ _ _
  refine wpAny_pure ⟨Code.quiet_builtin _ (by decide +kernel), codeAny_builtin PySem.F.entry_type_call ?_⟩; rw [Around.under_plain (weight_type_call_type "set" [.ref l] []) rfl]
  repeat (any_goals (first | assumption | wp_step))
  refine codeAny_mono (code_set_new_1 (.ref l) (E := E) (Q₁ := fun v s1 => ∃ led : Bool, v = .ref s.heap.objs.size ∧ s1 = { s with heap := s.heap.push (emptySet led) }) fun led => ⟨led, rfl, rfl⟩) fun r s1 hr => ?_
  cases r with
  | error e => exact hr
  | ok fl =>
    cases fl with
    | ret v =>
      obtain ⟨led, rfl, rfl⟩ := hr
      have at1 : (s.heap.push (emptySet led)).get? s.heap.objs.size = some (emptySet led) := Heap.get?_push_size _ rfl
      have ty : Shared.TypeIs { s with heap := s.heap.push (emptySet led) } (.ref s.heap.objs.size) "set" := ⟨_, at1, rfl⟩
      have f6 := PySem.F.called_set.init.lookup; have f7 := PySem.F.called_set.init.bind (.ref s.heap.objs.size)
      repeat (any_goals (first | assumption | wp_step))
      refine codeAny_mono (codeAny_call_builtin (R := wants (fun r s2 => r = .none ∧ FilledG P w ss s s2) E) PySem.F.called_set.init.plain PySem.F.entry_set_init (check_set_init_1 ty ?_)) fun r2 s2 hr2 => ?_
      · obtain ⟨⟨oc, od, odt, osl⟩, hol, hcl, nl, hdl⟩ := hl
        simp only at hcl hdl
        subst hcl; subst hdl
        have at2 : (s.heap.push (emptySet led)).get? l = some { cls := .type "list", dict := od, data := .seq its nl, slots := osl } := Heap.get?_push_of_some _ hol
        have g1 := PySem.F.sub_list_set; have g2 := PySem.F.sub_list_frozenset
        have g3 : (Value.type "list" == Value.type "dict") = false := by decide
        have li : (s.heap.push (emptySet led)).IsList l its := ⟨_, at2, rfl, nl, rfl⟩
        unfold Builtin.«set.__init__» noKeywords Builtin.Frozenset.updateFrom
        generalize keepIt : pyIter = itr
        wp_walk
        subst keepIt
        refine wpAny_pyIter_list li (wpAny_bind (wpAny_runValue ?_))
        have lt : l < s.heap.objs.size := Heap.lt_size hol
        have z1 : (s.heap.push (emptySet led)).objs.size = s.heap.objs.size + 1 := Heap.size_push ..
        have n1 : l ≠ (s.heap.push (emptySet led)).objs.size := by rw [z1]; exact Nat.ne_of_lt (Nat.lt_succ_of_lt lt)
        have n2 : s.heap.objs.size ∉ [(s.heap.push (emptySet led)).objs.size, l] := by
          rw [z1]; intro hm; rcases List.mem_cons.mp hm with z | z
          · exact Nat.ne_of_lt (Nat.lt_succ_self _) z
          · exact Nat.ne_of_gt lt (List.mem_singleton.mp z)
        have hd3 : A.in1.in1.in1.handled = none := by simp [hh]
        refine fill_textsG ((Walks.list hd3 _ l n1 its).toS) n2 ss ln few rd (its.size - 0) 0 _ (by omega) (Nat.zero_le _) ⟨⟨_, Heap.get?_push_size _ rfl, rfl, rfl⟩, li.push _⟩ ?start ?stop
        case start => exact SetOf_congr ((setObjOf_fresh (knd := PySem.strKind P w) led).setOf (Heap.get?_push_of_some _ at1) (by unfold scanBound; omega)) (fun _ => rfl) rfl
        case stop =>
          rintro ⟨g, gn, dr, tk, os⟩ mv hs
          have e1 : gn = s.gens := mv.gens
          have e2 : dr = s.drawn := mv.drawn
          have e3 : os = s.os := mv.os
          subst e1; subst e2; subst e3
          refine wpAny_pure ?_; show wpAny _ _ (ret Value.none) _ _ _
          refine wpAny_pure ⟨rfl, g, tk, rfl, hs, fun c o hc e => mv.heap c o (fun hm => ?_) (Heap.get?_push_of_some _ (Heap.get?_push_of_some _ e))⟩
          rcases List.mem_cons.mp hm with z | z
          · exact Nat.ne_of_lt hc z
          · rw [List.mem_singleton.mp z, z1] at hc
            exact absurd hc (by omega)
      · cases r2 with
        | error e => exact hr2
        | ok fl2 =>
          cases fl2 with
          | ret r =>
            obtain ⟨rfl, hF⟩ := hr2
            repeat (any_goals (first | assumption | wp_step))
            exact q _ hF
          | _ => exact hr2.elim
    | _ => exact hr.elim
end
def tLenSetG (K : PySem.W.Frag) (ta : TE) : TE := fun σ H Q => ta σ H fun x H1 => ∃ (l : Addr) (ss : List Str), x = .ref l ∧ SqL K H1 l (ss.map V.str) ∧ ss.length ≤ 4000 ∧ Q (.int (dc [] ss : Nat)) H1
theorem pe_lenSetG {X : Cx} {a : Expr} {ta : TE} {p p2 q pos : Pos} (hg : Gl X "len") (hm : X.mg "len" = none) (hg2 : Gl X "set") (hm2 : X.mg "set" = none) (ha : PE X a ta) (hc : X.calm = true := by rfl)
    (na : starEach [a] X.env = (false, eval a X.env) :: starEach [] X.env := by rfl) : PE X (.Call (.Name "len" p) [.Call (.Name "set" p2) [a] [] q] [] pos) (tLenSetG X.K ta) := by
  refine ⟨fun pins s σ H Q I h => Call_ (ld_blt I hg hm boot_len (PyProof.Rows.callWith_builtin1 (PyProof.Rows.args_cons (Call_ (ld_blt I hg2 hm2 boot_set ?_)) rfl) rfl rfl))⟩
  refine PyProof.Rows.callWith_type1 (PyProof.Rows.args_cons (thn (ha.run pins s σ H _ I h) fun v s1 ⟨x, H1, I1, r1, l, ss, ex, hq, hl, q1⟩ => PyProof.Rows.args_nil ?_) na) na rfl
  subst ex
  cases r1
  obtain ⟨its, r, pl, hz⟩ := I1.list hq
  have ln : ss.length = its.toArray.size := by rw [List.size_toArray, ← r.length, List.length_map]
  have hl2 := dc_le ss []
  refine call_set_textsG (I1.ok.hd hc) pl.isList ln (by rw [← ln]; unfold scanBound; omega) (fun i v e => txt_vals r i v (by simpa using e)) fun s2 ⟨g, tk, e2, hS, hk⟩ => PyProof.Rows.args_nil ?_
  subst e2
  obtain ⟨o, es, ep, t, ho, hex, hd, _, _, _, hf, hn⟩ := hS
  have I2 : Inv X pins σ H1 { s1 with heap := g, toks := tk } := I1.kept fun c o e => hk c o (Heap.lt_size e) e
  exact call_len_set ho hex hd hf (by rw [hn]; omega) ⟨.int (dc [] ss : Nat), H1, I2.tok _, ⟨_, by rw [hn]⟩, q1⟩
end Td
set_option maxHeartbeats 4000000
namespace Td
open PySem PySem.Spec PyProof.Rows L2
/-! ### small rules -/
theorem pe_gint {X : Cx} {x : Str} {i : Int} {pos : Pos} (hg : Gl X x) (h : ∃ t, X.mg x = some (.int i t)) (hd : (x == ("__debug__" : Str)) = false := by decide) : PE X (.Name x pos) (tC (.int i)) := by
  obtain ⟨t, ht⟩ := h
  exact pe_glob hg ht ⟨t, rfl⟩ hd
theorem cut_from {xs : List V} {k : Nat} : cutV xs (some (k : Int)) none = xs.drop k := by
  unfold cutV
  rw [HT.sIx_none, HT.sIx_nat]
  by_cases g : k ≤ xs.length
  · rw [Nat.min_eq_left g]
    exact List.take_of_length_le (by rw [List.length_drop]; exact Nat.le_refl _)
  · rw [Nat.min_eq_right (by omega), List.drop_eq_nil_of_le (Nat.le_refl _), List.drop_eq_nil_of_le (by omega), List.take_nil]
theorem neT {x : Str} : (!decide (V.str x = V.str x)) = false := by rw [decide_eq_true rfl]; rfl
theorem cut_from1 {xs : List V} : cutV xs (some (1 : Int)) none = xs.drop 1 := cut_from (k := 1)
end Td
set_option maxHeartbeats 4000000
namespace Td
open PySem PySem.Spec PyProof.Rows L2
/-! ### halls and states as data -/
def sD (ss : List Str) : PyData := .tuple (ss.map .str)
def hsD (ss : List Str) (rows : List (List Str)) : PyData := .tuple [sD ss, .tuple (rows.map sD)]
theorem eqvAll_map {α : Type} [DecidableEq α] (f : α → PyData) (h : ∀ a b, PyData.eqv (f a) (f b) = decide (a = b)) : ∀ l m : List α, PyData.eqvAll (l.map f) (m.map f) = decide (l = m)
  | [], [] => by simp [PyData.eqvAll]
  | [], _ :: _ => by simp [PyData.eqvAll]
  | _ :: _, [] => by simp [PyData.eqvAll]
  | a :: l, b :: m => by
    rw [List.map_cons, List.map_cons, PyData.eqvAll, h, eqvAll_map f h l m]
    by_cases e : a = b
    · subst e
      by_cases e2 : l = m
      · subst e2; simp
      · simp [e2]
    · simp [e]
theorem eqv_str (a b : Str) : PyData.eqv (.str a) (.str b) = decide (a = b) := by
  rw [PyData.eqv]
  by_cases e : a = b
  · subst e; simp
  · simp [e]
theorem eqv_sD (a b : List Str) : PyData.eqv (sD a) (sD b) = decide (a = b) := by
  unfold sD
  rw [PyData.eqv]
  exact eqvAll_map _ eqv_str a b
theorem eqv_hsD (ss tt : List Str) (rows cols : List (List Str)) : PyData.eqv (hsD ss rows) (hsD tt cols) = decide (ss = tt ∧ rows = cols) := by
  unfold hsD
  rw [PyData.eqv, PyData.eqvAll, PyData.eqvAll, PyData.eqvAll, eqv_sD, PyData.eqv, eqvAll_map _ eqv_sD]
  by_cases e : ss = tt
  · by_cases e2 : rows = cols
    · simp [e, e2]
    · simp [e, e2]
  · simp [e]
theorem lay_map {α : Type} (f : α → PyData) : ∀ l : List α, (∀ a ∈ l, (f a).canLay0 = true) → PyData.canLayAll0 (l.map f) = true
  | [], _ => by simp [PyData.canLayAll0]
  | a :: l, h => by
    rw [List.map_cons, PyData.canLayAll0, h a (List.mem_cons_self ..), lay_map f l fun b hb => h b (List.mem_cons_of_mem _ hb)]
    rfl
theorem depth_map {α : Type} (f : α → PyData) (n : Nat) (h : ∀ a, (f a).depth ≤ n) : ∀ l : List α, PyData.depthAll (l.map f) ≤ n
  | [] => by simp [PyData.depthAll]
  | a :: l => by
    have e1 := h a
    have e2 := depth_map f n h l
    rw [List.map_cons, PyData.depthAll]
    omega
theorem strOk_nm {x : Str} (h : Nm x) : PyData.strOk x = true := by
  have e : x.cps.toList.all (fun c => decide (c < 0x110000)) = true := List.all_eq_true.mpr fun c hc => decide_eq_true (by
    have z := h.2.2 c hc
    omega)
  rw [Array.all_toList] at e
  exact e
theorem lay_sD {ss : List Str} (h : ∀ x ∈ ss, Nm x) : (sD ss).canLay0 = true := by
  unfold sD
  rw [PyData.canLay0]
  exact lay_map _ ss fun a ha => by
    rw [PyData.canLay0]
    exact strOk_nm (h a ha)
theorem depth_sD (ss : List Str) : (sD ss).depth ≤ 3 := by
  unfold sD
  have e := depth_map PyData.str 1 (fun a => by simp [PyData.depth]) ss
  rw [PyData.depth]
  omega
theorem shaped_hsD {ss : List Str} {rows : List (List Str)} (h : Bd ss rows) : SeqAt.shaped (hsD ss rows) = true := by
  have a1 := lay_sD h.sn
  have a2 := lay_map sD rows fun r hr => lay_sD (h.rn r hr).2
  have d1 := depth_sD ss
  have d2 := depth_map sD 3 depth_sD rows
  have c : (hsD ss rows).canLay0 = true := by
    unfold hsD
    simp only [PyData.canLay0, PyData.canLayAll0, a1, a2, Bool.and_true]
  have d : (hsD ss rows).depth ≤ 64 := by
    unfold hsD
    simp only [PyData.depth, PyData.depthAll]
    omega
  unfold SeqAt.shaped
  rw [c, decide_eq_true d]
  rfl
/-- at a: such data -/
theorem dp_strs {K : PySem.W.Frag} {H : Hp} : ∀ ss : List Str, DpAll K H (ss.map V.str) (ss.map PyData.str)
  | [] => .nil
  | s :: ss => .cons (.str s) (dp_strs ss)
theorem dp_rows {K : PySem.W.Frag} {H : Hp} : ∀ {as : List Addr} {rows : List (List Str)}, RowsAt H as rows → DpAll K H (as.map V.ref) (rows.map sD)
  | [], [], _ => .nil
  | [], _ :: _, h => by cases h.1
  | _ :: _, [], h => by cases h.1
  | a :: as, r :: rows, h => .cons (.tup (SqT.of (h.2 0 a r rfl rfl)) (dp_strs r)) (dp_rows ⟨Nat.succ.inj h.1, fun i b s e1 e2 => h.2 (i + 1) b s (by rw [List.getElem?_cons_succ]; exact e1) (by rw [List.getElem?_cons_succ]; exact e2)⟩)
theorem HS.dp {K : PySem.W.Frag} {H : Hp} {h : Addr} {ss : List Str} {rows : List (List Str)} (x : HS H h ss rows) : Dp K H (.ref h) (hsD ss rows) := by
  obtain ⟨r, d, h1, h2, as, h3, h4⟩ := x
  exact .tup (SqT.of h1) (.cons (.tup (SqT.of h2) (dp_strs ss)) (.cons (.tup (SqT.of h3) (dp_rows h4)) .nil))
theorem dr_str {H : Hp} {n : Nat} (s : Str) : DR H (n + 1) (.str s) (.str s) := .inl (.inl ⟨s, rfl, rfl⟩)
theorem dr_strs {H : Hp} {n : Nat} {a : Addr} {ss : List Str} (h : H a = some (.tup (ss.map V.str))) (hl : ss.length ≤ 1000) : DR H (n + 2) (.ref a) (sD ss) :=
  .inr ⟨a, _, _, rfl, rfl, h, ⟨by rw [List.length_map, List.length_map], by rw [List.length_map]; exact hl⟩, fun i v e e1 e2 => by
    rw [List.getElem?_map] at e1 e2
    cases z : ss[i]? with
    | none => rw [z] at e1; cases e1
    | some s =>
      rw [z] at e1 e2
      cases e1
      cases e2
      exact dr_str s⟩
theorem HS.dr {H : Hp} {h : Addr} {ss : List Str} {rows : List (List Str)} (x : HS H h ss rows) (b : Bd ss rows) : DR H 4 (.ref h) (hsD ss rows) := by
  obtain ⟨r, d, h1, h2, as, h3, h4⟩ := x
  have s12 := b.s12
  have r12 := b.r12
  refine .inr ⟨h, _, _, rfl, rfl, h1, ⟨rfl, by show 2 ≤ 1000; decide⟩, fun i v e e1 e2 => ?_⟩
  match i, e1, e2 with
  | 0, e1, e2 =>
    cases e1
    cases e2
    exact dr_strs h2 (by omega)
  | 1, e1, e2 =>
    cases e1
    cases e2
    refine .inr ⟨d, _, _, rfl, rfl, h3, ⟨by rw [List.length_map, List.length_map]; exact h4.1, by rw [List.length_map]; omega⟩, fun j v e e1 e2 => ?_⟩
    rw [List.getElem?_map] at e1 e2
    cases z : as[j]? with
    | none => rw [z] at e1; cases e1
    | some a =>
      cases y : rows[j]? with
      | none => rw [y] at e2; cases e2
      | some r' =>
        rw [z] at e1
        rw [y] at e2
        cases e1
        cases e2
        have m := (b.rn r' (List.mem_of_getElem? y)).1
        exact dr_strs (h4.2 j a r' z y) (by omega)
  | i + 2, e1, e2 => cases e1
/-- the states in a list -/
def StsAt (H : Hp) (rooms : List Str) (rows : List (List Str)) (sas : List Addr) : Prop := ∀ (i : Nat) (a : Addr), sas[i]? = some a → ∃ faces places, HS H a faces places ∧ StV rooms rows faces places
theorem StsAt.tu {H H' : Hp} {rooms : List Str} {rows : List (List Str)} {sas : List Addr} (t : Tu H H') (h : StsAt H rooms rows sas) : StsAt H' rooms rows sas := fun i a e => by
  obtain ⟨f, p, h1, h2⟩ := h i a e
  exact ⟨f, p, h1.tu t, h2⟩
def spRight : Sp := fun vs H Q _ => ∃ (h l : Addr) (rooms : List Str) (rows : List (List Str)) (sas : List Addr), vs = [.ref h, .ref l] ∧ HS H h rooms rows ∧ HallV rooms rows ∧ H l = some (.lst (sas.map V.ref)) ∧ StsAt H rooms rows sas ∧ ∀ H', Same H H' → Q (.bl true) H'
def spLaw (K : PySem.W.Frag) : Sp := fun vs H Q _ => ∃ (a : Addr) (ns : List Int), vs = [.ref a] ∧ SqL K H a (ns.map V.int) ∧ ns.length ≤ 63 ∧ ∀ H', Q (.bl true) H'
theorem txt_eq {w1 w2 : Str} {ss tt : List Str} {rows cols : List (List Str)} (n1 : Nm w1) (n2 : Nm w2) (h1 : Bd ss rows) (h2 : Bd tt cols) :
    V.bl (decide (V.str (txtOf (lnOf w1 w2 ss rows)) = V.str (txtOf (lnOf w1 w2 tt cols)))) = V.bl (PyData.eqv (hsD ss rows) (hsD tt cols)) := by
  rw [eqv_hsD]
  refine congrArg V.bl ?_
  by_cases e : ss = tt ∧ rows = cols
  · obtain ⟨rfl, rfl⟩ := e
    rw [decide_eq_true rfl, decide_eq_true ⟨rfl, rfl⟩]
  · rw [decide_eq_false e, decide_eq_false]
    intro z
    injection z with z
    exact e (lnOf_inj (lines_inj (h1.ln n1 n2) (h2.ln n1 n2) z))
theorem seq_ch {K : PySem.W.Frag} {H H' : Hp} {a b : Addr} {xs : List V} (h : SqL K H a xs) (hn : H b = none) (c : Ch b H H') : SqL K H' a xs := by
  rcases h with (h | ⟨o, h⟩) | h
  · exact .inl (.inl (c _ _ (ne_of_none h hn) h))
  · exact .inl (.inr ⟨o, c _ _ (ne_of_none h hn) h⟩)
  · exact .inr h
theorem StsAt.snoc {H : Hp} {rooms : List Str} {rows : List (List Str)} {sas : List Addr} {p : Addr} (h : StsAt H rooms rows sas) (hp : ∃ faces places, HS H p faces places ∧ StV rooms rows faces places) : StsAt H rooms rows (sas ++ [p]) := fun i a e => by
  by_cases hi : i < sas.length
  · rw [List.getElem?_append_left hi] at e
    exact h i a e
  · rw [List.getElem?_append_right (by omega)] at e
    have z := (List.getElem?_eq_some_iff.mp e).1
    rw [List.length_singleton] at z
    have e2 : i - sas.length = 0 := by omega
    rw [e2] at e
    cases e
    exact hp
/-- a list of two states of this hall -/
def LSt (H : Hp) (l : Addr) (rooms : List Str) (rows : List (List Str)) : Prop := ∃ sas : List Addr, H l = some (.lst (sas.map V.ref)) ∧ sas.length = 2 ∧ StsAt H rooms rows sas
theorem LSt.ch {H H' : Hp} {b l : Addr} {rooms : List Str} {rows : List (List Str)} (B : Box H b) (hl : l ≠ b) (c : Ch b H H') (h : LSt H l rooms rows) : LSt H' l rooms rows := by
  obtain ⟨sas, h1, h2, h3⟩ := h
  exact ⟨sas, c _ _ hl h1, h2, h3.tu (Tu.of c B)⟩
theorem LSt.same {H H' : Hp} {l : Addr} {rooms : List Str} {rows : List (List Str)} (s : Same H H') (h : LSt H l rooms rows) : LSt H' l rooms rows := by
  obtain ⟨sas, h1, h2, h3⟩ := h
  exact ⟨sas, s _ _ h1, h2, h3.tu (Tu.same s)⟩
end Td
set_option maxHeartbeats 4000000
namespace Td
open PySem PySem.Spec PyProof.Rows L2
/-! ### a def that is called where no repr is under way -/
structure FnG (P : Program) (w : World) (K : PySem.W.Frag) (mg : Str → Option Value) (base : Heap) (CX : CXT) (k : Nat) (f : Addr) (fd : FuncData) (ps : List Str) (sp : Sp) : Prop where
  len : ∀ vs H Q E, sp vs H Q E → vs.length = ps.length
  run : ∀ (A : Around) (outer : List Env) (s : Shared) (H : Hp) (args : Args) (us : List Value) (vs : List V) (Q : VK) (E : XK), A.guards = some [] → Room k A → Env0 P w K mg base A outer s H → BindsTo s fd args (ps.zip us) → Vals vs us → sp vs H Q E →
    codeAny (model P w) A (.call (.ref f) args) (CR CX outer P w H s Q E) s
theorem okG {P : Program} {w : World} {K : PySem.W.Frag} {mg : Str → Option Value} {base : Heap} {CX : CXT} {N ps : List Str} {k : Nat} {sp : Sp} {x qual : Str} {params : Arguments} {body : List Stmt} {scope : Scope} {dvs : List V} {kws : List (Str × V)} {f : Addr} {fd : FuncData}
    (F : FunD K x qual params body scope dvs kws f fd) (S : FnScope N ps scope) (len : ∀ vs H Q E, sp vs H Q E → vs.length = ps.length)
    (walk : ∀ (cdv : Value) (A : Around) (outer : List Env) (s : Shared) (H : Hp) (vs : List V) (Q : VK) (E : XK), A.guards = some [] → Room k (A.deeper (envOfC qual scope s.heap.objs.size f cdv)) → sp vs H Q E →
      ∃ t, PSs (cxOf CX P w K mg base N qual scope f cdv A outer s H E) body t ∧ t { nx := fun _ H' => Q .non H', rt := Q } (start N vs) H) : FnG P w K mg base CX (k + 1) f fd ps sp := by
  obtain ⟨oc, od, dV, kV, doc, pm, an, cdv, ct, osl, rfl, lk, hcd, _, _⟩ := F.ex
  refine ⟨len, fun A outer s H args us vs Q E gd hr e0 hb r hsp => ?_⟩
  have ln := len _ _ _ _ hsp
  have kin : K.In s.heap := e0.mod.kin.keeps fun b o e => (e0.bs b o e).1
  have lim : s.heap.NoLimit := e0.mod.nolimit.keeps fun b o e => (e0.bs b o e).1
  have kinds : ∀ y ∈ ps.zip us, scope.names.lookup y.1 = some .local ∨ (scope.names.lookup y.1 = some .cell ∧ ((cellsFrom (s.heap.objs.size + 1) scope.names []).lookup y.1).isSome = true) := fun ⟨n, v⟩ hy =>
    (S.par n (List.of_mem_zip hy).1).elim .inl fun q => .inr ⟨q, PySem.W.cellsFrom_some _ _ _ (.inl q)⟩
  refine codeAny_call_function hr.depth (kin _ _ lk) rfl S.co S.gen rfl (PySem.W.codeRec_of kin hcd) (hb _ _ _ _ (wpAny_newFunctionEnv_cells S.kind kinds fun env he s1 xx => ?_))
  subst he
  refine ⟨lim.keeps xx.toInCall.keep, codeAny_func ?_⟩
  obtain ⟨t, ht, hq⟩ := walk cdv A outer s H vs Q E gd (hr.deeper _) hsp
  have I : Inv (cxOf CX P w K mg base N qual scope f cdv A outer s H E) [] (start N vs) H s1 := inv_start S hr.hd e0 ln r xx
  refine wpAny_mono (ht.run [] s1 (start N vs) H _ I hq) (fun fl s2 z => ?_) fun e s2 z => z
  cases fl with
  | ret u => obtain ⟨v, σ2, H2, J, rv, q⟩ := z; exact ⟨v, H2, J.os, J.bare, J.base, J.hok, rv, q⟩
  | next => obtain ⟨σ2, H2, J, q⟩ := z; exact ⟨.non, H2, J.os, J.bare, J.base, J.hok, rfl, q⟩
  | brk => obtain ⟨_, _, _, q⟩ := z; exact q.elim
  | cont => obtain ⟨_, _, _, q⟩ := z; exact q.elim
/-! ### the law's own call -/
theorem law_callG {P : Program} {w : World} {K : PySem.W.Frag} {mg mb : Str → Option Value} {CX : CXT} {k : Nat} {fa a : Addr} {fd : FuncData} {x : Str} {sp : Sp} {s1 : Shared} {vs : List Value} {ns : List Int}
    (kx : K.In s1.heap) (hns : s1.heap.Ns mainGlobals mg) (hb : s1.heap.Ns builtinsNs mb) (hbb : ∀ x : Str, x ≠ "__name__" → mb x = bootBuiltins x) (lim : s1.heap.NoLimit) (hg : s1.gens = #[])
    (ha : s1.heap.get? a = some { cls := .type "list", data := .seq vs.toArray }) (hi : IntsAre vs ns) (hl : ns.length ≤ sizeLine) (hr : Room k callerA)
    (F : ∀ base : Heap, K.In base → base.Ns mainGlobals mg → FnG P w K mg base CX k fa fd [x] sp) (bind : ∀ (s : Shared) (u : Value), BindsTo s fd ⟨[u], []⟩ [(x, u)])
    (hsp : ∀ H : Hp, Only H → SqL K H a (ns.map V.int) → sp [.ref a] H (fun v _ => v = .bl true) fun _ _ _ => False) (hCX : ∀ H e s', CX [] H s1 (fun _ _ _ => False) e s' → False) :
    codeAny (model P w) callerA (.call (.ref fa) ⟨[.ref a], []⟩) (fun r s' => r = .ok (.ret (.bool true)) ∧ OldK s1.heap s'.heap ∧ s'.os = s1.os ∧ AllBare s'.gens) s1 := by
  have rv := vals_ints hi
  have core : ∀ H : Hp, Only H → SqL K H a (ns.map V.int) → HOk P w H s1.heap → (∀ b, H b ≠ none → b = a) → (H a ≠ none → K.lookup a = none) →
      codeAny (model P w) callerA (.call (.ref fa) ⟨[.ref a], []⟩) (fun r s' => r = .ok (.ret (.bool true)) ∧ OldK s1.heap s'.heap ∧ s'.os = s1.os ∧ AllBare s'.gens) s1 := by
    intro H only hS hok alone hK
    have up : ∀ {b : Addr} {o : Obj}, s1.heap.get? b = some o → H b = none → (hidT s1.heap H).get? b = some o := fun e n => hidT_get e n
    have noD : ∀ {b : Addr} {o : Obj} {es : Array DictEntry} {ep : Nat}, s1.heap.get? b = some o → o.data = .dict es ep → H b = none := fun {b o es ep} e d => by
      refine Classical.byContradiction fun z => ?_
      obtain rfl := alone b z
      rw [ha] at e; cases e <;> cases d
    have ns' : ∀ {b : Addr} {m : Str → Option Value}, s1.heap.Ns b m → (hidT s1.heap H).Ns b m := fun {b m} ⟨o, es, ep, e, d, r⟩ => ⟨o, es, ep, up e (noD e d), d, r⟩
    have kb : K.In (hidT s1.heap H) := fun b o e => up (kx b o e) (Classical.byContradiction fun z => by
      obtain rfl := alone b z
      rw [hK z] at e; cases e)
    have hM : Mod K mg (hidT s1.heap H) := ⟨kb, ns' hns, ⟨mb, ns' hb, hbb⟩, lim.elim fun mc h => ⟨mc, ns' h.1, h.2⟩⟩
    have e0 : Env0 P w K mg (hidT s1.heap H) callerA [] s1 H := ⟨rfl, hM, fun b o e => of_hidT e, Nat.le_of_eq (hidT_size _ _), trivial, fun b hb => absurd hb List.not_mem_nil, hok, .of_eq hg⟩
    refine codeAny_mono ((F _ kb (ns' hns)).run callerA [] s1 H ⟨[.ref a], []⟩ [.ref a] [.ref a] _ _ rfl hr e0 (bind s1 (.ref a)) (.cons rfl .nil) (hsp H only hS)) fun r s' h => ?_
    cases r with
    | error e => exact (hCX H e s' h).elim
    | ok fl =>
      cases fl with
      | next => exact h.elim
      | brk => exact h.elim
      | cont => exact h.elim
      | ret u =>
        obtain ⟨v, H2, os, bare, un, hok2, r2, q⟩ := h
        obtain rfl : v = .bl true := q
        obtain rfl : u = Value.bool true := r2
        refine ⟨rfl, OldK.of_keep fun b o e => ?_, os, bare⟩
        cases q : H b with
        | none => exact un.keep b o e q List.not_mem_nil List.not_mem_nil
        | some u =>
          rcases only b with z | ⟨ob, xs, z⟩
          · rw [q] at z; cases z
          · obtain ⟨e1, _⟩ := hok b _ z
            obtain ⟨e2, _⟩ := hok2 b _ (un.frzs b ob _ z)
            rw [e] at e1; cases e1
            exact e2
  cases hk : K.lookup a with
  | some o =>
    have e := (kx a o hk).symm.trans ha
    cases e
    exact core (fun _ => none) (fun _ => .inl rfl) (.inr ⟨_, vs.toArray, _, hk, rfl, rfl, rfl, by rw [List.size_toArray, hi.length]; exact hl, by simpa using rv⟩) (fun b u z => nomatch (show (none : Option HO) = some u from z)) (fun b z => absurd rfl z) fun z => absurd rfl z
  | none =>
    have at1 : ∀ {b : Addr} {u : HO}, (if b = a then some (HO.frz { cls := .type "list", data := .seq vs.toArray } (.lst (ns.map V.int))) else none) = some u → b = a ∧ u = .frz { cls := .type "list", data := .seq vs.toArray } (.lst (ns.map V.int)) := fun {b u} z => by
      by_cases hb : b = a
      · rw [if_pos hb] at z; cases z; exact ⟨hb, rfl⟩
      · rw [if_neg hb] at z; cases z
    refine core (fun b => if b = a then some (.frz { cls := .type "list", data := .seq vs.toArray } (.lst (ns.map V.int))) else none) (fun b => ?_) (.inl (.inr ⟨{ cls := .type "list", data := .seq vs.toArray }, if_pos rfl⟩)) (fun b u z => ?_) (fun b z => ?_) fun _ => hk
    · by_cases hb : b = a
      · exact .inr ⟨_, _, if_pos hb⟩
      · exact .inl (if_neg hb)
    · obtain ⟨rfl, rfl⟩ := at1 z
      exact ⟨ha, by rw [List.length_map]; exact hl, vs, _, rv, ha⟩
    · exact Classical.byContradiction fun hb => z (if_neg hb)
theorem walk_ofG {l : PySem.W.OpenLaw} {n k : Nat} {q : Program} {loose : List Str} {XP : (Str → Option Value) → Heap → Prop} {YP : World → Heap → Prop} {d : DefRec} {CX : CXT} {x : Str} (hn : l.most = some n) (hn2 : n ≤ sizeLine) (hdf : d.params.defaults = []) (hr : Room k callerA)
    (F : ∀ (w : World) (mg : Str → Option Value) (fa : Addr) (h : Heap), YP w h → h.Ns mainGlobals mg → mg d.name = some (.ref fa) → ∃ (K : PySem.W.Frag) (fd : FuncData) (sp : Sp), K.In h ∧ (∀ (s : Shared) (u : Value), BindsTo s fd ⟨[u], []⟩ [(x, u)]) ∧
      (∀ (H : Hp) (a : Addr) (ns : List Int), ns.length ≤ n → Only H → SqL K H a (ns.map V.int) → sp [.ref a] H (fun v _ => v = .bl true) fun _ _ _ => False) ∧ ∀ base : Heap, K.In base → base.Ns mainGlobals mg → FnG l.prog w K mg base CX k fa fd [x] sp)
    (hCX : ∀ (H : Hp) (s : Shared) (e : Value) (s' : Shared), CX [] H s (fun _ _ _ => False) e s' → False) : PySem.W.WalkO q loose XP YP l.row.toRowW d [] (fun f vs => PySem.call f vs) := by
  refine Att.attach_call hn hdf fun w s0 s1 mg mb fa o pm cd doc a vs ns G Y ho hd hcd hmg hobj hints hlen hg => ?_
  obtain ⟨K, fd, sp, kx, hb, hsp, hF⟩ := F w mg fa _ Y G.T.g hmg
  exact law_callG kx G.T.g G.T.b G.T.builtins G.T.nolimit hg hobj hints (Nat.le_trans hlen hn2) hr hF hb (fun H hO hS => hsp H a ns hlen hO hS) fun H e s' => hCX H s1 e s'
/-! ### repr(x), x data -/
def rRepr (K : PySem.W.Frag) : List V → Hp → VK → Prop := fun xs H Q => ∃ (a : Addr) (d : PyData), xs = [.ref a] ∧ Dp K H (.ref a) d ∧ d.showable = true ∧ d.hasDict = false ∧ d.depth ≤ 60 ∧ d.shown.length ≤ sizeLine ∧ Q (.str d.shown) H
theorem call_reprD {X : Cx} (gd : X.A.guards = some []) (hu : X.A.units + 64 < cLine) : CallR X (.builtin "repr") (rRepr X.K) := by
  intro pins s σ H xs us Q I r h
  obtain ⟨a, d, rfl, hd, sh, nd, dp, sz, q⟩ := h
  obtain ⟨u, rfl, ru⟩ := vals1 r
  obtain ⟨as, rd⟩ := Dp.reads I d _ u hd ru
  cases ru
  exact repr_of_reads' rd sh (fun z => by rw [nd] at z; cases z) gd (by omega) (fun _ _ e => e) (fun h' u tk k => ⟨.str d.shown, H, I.kept k, ⟨u, rfl⟩, q⟩) sz
end Td
set_option maxHeartbeats 4000000
namespace Td
open PySem PySem.Spec PyProof.Rows L2
/-! ### a hall, a state, as repr shows it -/
theorem showAll_map {α : Type} (g : α → PyData) : ∀ l : List α, (∀ a ∈ l, (g a).showable = true) → PyData.showableAll (l.map g) = true
  | [], _ => by simp [PyData.showableAll]
  | a :: l, h => by rw [List.map_cons, PyData.showableAll, h a (List.mem_cons_self ..), showAll_map g l fun b hb => h b (List.mem_cons_of_mem _ hb)]; rfl
theorem noDictAll_map {α : Type} (g : α → PyData) : ∀ l : List α, (∀ a ∈ l, (g a).hasDict = false) → PyData.hasDictAll (l.map g) = false
  | [], _ => by simp [PyData.hasDictAll]
  | a :: l, h => by rw [List.map_cons, PyData.hasDictAll, h a (List.mem_cons_self ..), noDictAll_map g l fun b hb => h b (List.mem_cons_of_mem _ hb)]; rfl
theorem shortAll_map {α : Type} (g : α → PyData) : ∀ l : List α, (∀ a ∈ l, (g a).leavesShort 8 = true) → PyData.leavesShortAll 8 (l.map g) = true
  | [], _ => by simp [PyData.leavesShortAll]
  | a :: l, h => by rw [List.map_cons, PyData.leavesShortAll, h a (List.mem_cons_self ..), shortAll_map g l fun b hb => h b (List.mem_cons_of_mem _ hb)]; rfl
theorem weightAll_map {α : Type} (g : α → PyData) (n : Nat) : ∀ l : List α, (∀ a ∈ l, (g a).weight ≤ n) → PyData.weightAll (l.map g) ≤ l.length * (n + 1)
  | [], _ => by simp [PyData.weightAll]
  | a :: l, h => by
    have e1 := h a (List.mem_cons_self ..)
    have e2 := weightAll_map g n l fun b hb => h b (List.mem_cons_of_mem _ hb)
    rw [List.map_cons, PyData.weightAll, List.length_cons, Nat.succ_mul]
    omega
structure Shows (d : PyData) : Prop where
  sh : d.showable = true
  nd : d.hasDict = false
  dp : d.depth ≤ 60
  sz : d.shown.length ≤ sizeLine
theorem short_sD {ss : List Str} (h : ∀ x ∈ ss, Nm x) : (sD ss).leavesShort 8 = true := by
  unfold sD
  rw [PyData.leavesShort]
  refine shortAll_map _ ss fun a ha => ?_
  rw [PyData.leavesShort]
  exact List.all_eq_true.mpr fun c hc => decide_eq_true (by
    have z := (h a ha).2.2 c hc
    have e : (16 : Nat) ^ 8 = 4294967296 := by decide
    omega)
theorem weight_sD {ss : List Str} (h : ∀ x ∈ ss, Nm x) : (sD ss).weight ≤ ss.length * 7 := by
  unfold sD
  rw [PyData.weight]
  refine weightAll_map PyData.str 6 ss fun a ha => ?_
  rw [PyData.weight]
  exact (h a ha).2.1
theorem Bd.shows {ss : List Str} {rows : List (List Str)} (h : Bd ss rows) : Shows (hsD ss rows) := by
  have d1 := depth_sD ss
  have d2 := depth_map sD 3 depth_sD rows
  have w1 := weight_sD h.sn
  have w2 := weightAll_map sD 21 rows fun r hr => Nat.le_trans (weight_sD (h.rn r hr).2) (by have := (h.rn r hr).1; omega)
  have a1 := h.s12
  have a2 := h.r12
  have s1 : ∀ ss : List Str, (sD ss).showable = true := fun ss => by unfold sD; rw [PyData.showable]; exact showAll_map _ ss fun a _ => by rw [PyData.showable]
  have n1 : ∀ ss : List Str, (sD ss).hasDict = false := fun ss => by unfold sD; rw [PyData.hasDict]; exact noDictAll_map _ ss fun a _ => by rw [PyData.hasDict]
  refine ⟨?_, ?_, ?_, PyData.shown_fits (B := 8) (by decide) (by decide) ?_ ?_⟩
  · unfold hsD
    simp only [PyData.showable, PyData.showableAll, s1, showAll_map sD rows fun r _ => s1 r, Bool.and_true]
  · unfold hsD
    simp only [PyData.hasDict, PyData.hasDictAll, n1, noDictAll_map sD rows fun r _ => n1 r, Bool.or_false]
  · unfold hsD
    simp only [PyData.depth, PyData.depthAll]
    omega
  · unfold hsD
    simp only [PyData.leavesShort, PyData.leavesShortAll, short_sD h.sn, shortAll_map sD rows fun r hr => short_sD (h.rn r hr).2, Bool.and_true]
  · unfold hsD
    simp only [PyData.weight, PyData.weightAll]
    omega
end Td
set_option maxHeartbeats 4000000
namespace Td
open PySem PySem.Spec PyProof.Rows L2
/-! ### any text's lines and words -/
def tot (ws : List Str) : Nat := (ws.map fun x => x.length + 1).sum
theorem cs_len (x : Str) : (cs x).length = x.length := by unfold cs Str.length; simp
theorem spl_tot (c : Nat) : ∀ (l acc : List Nat), TL.spl [c] 0 acc l ≠ [] ∧ ((TL.spl [c] 0 acc l).map fun p => p.length + 1).sum = acc.length + l.length + 1
  | [], acc => by rw [TL.spl_nil]; exact ⟨List.cons_ne_nil _ _, by simp⟩
  | x :: l, acc => by
    cases h : TL.pre [c] (x :: l) with
    | true =>
      obtain ⟨h1, h2⟩ := spl_tot c l []
      rw [TL.spl_hit h]
      refine ⟨List.cons_ne_nil _ _, ?_⟩
      have e : ([c] : List Nat).length - 1 = 0 := rfl
      rw [e, List.map_cons, List.sum_cons, h2, List.length_cons, List.length_nil]
      omega
    | false =>
      obtain ⟨h1, h2⟩ := spl_tot c l (acc ++ [x])
      rw [TL.spl_miss h]
      refine ⟨h1, ?_⟩
      rw [h2, List.length_append, List.length_cons, List.length_cons, List.length_nil]
      omega
theorem split_tot {c : Nat} (hc : c < 256) (t : Str) : Txt.split t (SX.S [c]) ≠ [] ∧ tot (Txt.split t (SX.S [c])) = t.length + 1 := by
  have e := SX.split_S (a := cs t) (b := [c]) (List.cons_ne_nil _ _) (by simpa using hc)
  rw [S_cs] at e
  obtain ⟨h1, h2⟩ := spl_tot c (cs t) []
  rw [e]
  refine ⟨fun z => h1 (List.map_eq_nil_iff.mp z), ?_⟩
  unfold tot
  rw [List.map_map]
  have f : ((fun x : Str => x.length + 1) ∘ SX.S) = fun p => p.length + 1 := funext fun p => by
    show (SX.S p).length + 1 = p.length + 1
    rw [SX.S_len]
  rw [f, h2, cs_len, List.length_nil]
  omega
theorem tot_mem : ∀ {ws : List Str} {x : Str}, x ∈ ws → x.length + 1 ≤ tot ws
  | y :: ys, x, h => by
    have e : tot (y :: ys) = y.length + 1 + tot ys := by unfold tot; rw [List.map_cons, List.sum_cons]
    rcases List.mem_cons.mp h with rfl | h
    · omega
    · have := tot_mem h
      omega
theorem tot_len : ∀ ws : List Str, ws.length ≤ tot ws
  | [] => Nat.zero_le _
  | y :: ys => by
    have e : tot (y :: ys) = y.length + 1 + tot ys := by unfold tot; rw [List.map_cons, List.sum_cons]
    have := tot_len ys
    rw [List.length_cons]
    omega
def wordsL (l : Str) : List Str := Txt.split l " "
def linesT (t : Str) : List Str := Txt.split t "\n"
def wordsOf (t : Str) : List (List Str) := (linesT t).map wordsL
theorem linesT_tot (t : Str) : linesT t ≠ [] ∧ tot (linesT t) = t.length + 1 := by
  unfold linesT
  rw [nl_S]
  exact split_tot (by decide) t
theorem wordsL_tot (l : Str) : wordsL l ≠ [] ∧ tot (wordsL l) = l.length + 1 := by
  unfold wordsL
  rw [sp_S]
  exact split_tot (by decide) l
structure WOk (n : Nat) (ls : List (List Str)) : Prop where
  ne : ls ≠ []
  len : ls.length ≤ n + 1
  ok : ∀ l ∈ ls, l ≠ [] ∧ l.length ≤ n + 1 ∧ ∀ x ∈ l, x.length ≤ n
theorem wOk (t : Str) : WOk t.length (wordsOf t) := by
  obtain ⟨h1, h2⟩ := linesT_tot t
  refine ⟨fun z => h1 (List.map_eq_nil_iff.mp z), ?_, fun l hl => ?_⟩
  · unfold wordsOf
    rw [List.length_map]
    have := tot_len (linesT t)
    omega
  · obtain ⟨y, hy, rfl⟩ := List.mem_map.mp hl
    have e1 := tot_mem hy
    obtain ⟨g1, g2⟩ := wordsL_tot y
    refine ⟨g1, ?_, fun x hx => ?_⟩
    · have := tot_len (wordsL y)
      omega
    · have := tot_mem hx
      omega
/-! ### what a text of a state says -/
def fcB (ws : List Str) (rows : List (List Str)) : Bool := decide (ws.headD "" = "faces") && (decide (ws.tail.length = rows.length) && (ws.tail.zip rows).all fun p => decide (p.1 ∈ p.2.drop 1))
def wkB (ws : List Str) (before : Str) (rooms : List Str) : Bool := decide (ws.length = 3) && (decide (ws.headD "" = "walker") && (decide (Nm (ws.getD 1 "")) && (decide (before.cps.toList < (ws.getD 1 "").cps.toList) && decide (ws.getD 2 "" ∈ rooms))))
inductive Rd where
  | line (k : Nat)
  | data (ss : List Str) (rows : List (List Str))
def Rd.pre (ss : List Str) (pl : List (List Str)) : Rd → Rd
  | .line k => .line k
  | .data _ rows => .data ss (pl ++ rows)
def goS (rooms : List Str) : Nat → Str → List (List Str) → Rd
  | _, _, [] => .data [] []
  | k, before, w :: ls => if 5 < k then .line k else if wkB w before rooms then (goS rooms (k + 1) (w.getD 1 "") ls).pre [] [[w.getD 1 "", w.getD 2 ""]] else .line k
def rdS (rooms : List Str) (rows : List (List Str)) (ls : List (List Str)) : Rd := if fcB (ls.headD []) rows then (goS rooms 1 "" ls.tail).pre (ls.headD []).tail [] else .line 0
def dRd (w : Str) : Rd → PyData
  | .line k => .tuple [.str "line", .int (k : Nat)]
  | .data ss rows => .tuple [.str w, hsD ss rows]
/-! ### the promises -/
def spSplitG : Sp := fun vs H Q _ => ∃ t : Str, vs = [.str t] ∧ t.length ≤ 100000 ∧ ∀ p as H', Same H H' → H' p = some (.lst (as.map V.ref)) → LinesAt H' as (wordsOf t) → Q (.ref p) H'
def spFacesG : Sp := fun vs H Q _ => ∃ (l d : Addr) (ws : List Str) (rows : List (List Str)), vs = [.ref l, .ref d] ∧ H l = some (.lst (ws.map V.str)) ∧ ws ≠ [] ∧ ws.length ≤ 100001 ∧ Rows H d rows ∧ rows.length ≤ 12 ∧ (∀ r ∈ rows, ∃ n a b : Str, r = [n, a, b]) ∧ ∀ H', Same H H' → Q (.bl (fcB ws rows)) H'
def spWalkerG : Sp := fun vs H Q _ => ∃ (l r : Addr) (before : Str) (ws rooms : List Str), vs = [.ref l, .str before, .ref r] ∧ H l = some (.lst (ws.map V.str)) ∧ ws ≠ [] ∧ (∀ x ∈ ws, x.length ≤ 100000) ∧ H r = some (.tup (rooms.map V.str)) ∧ ∀ H', Same H H' → Q (.bl (wkB ws before rooms)) H'
def spParseS (K : PySem.W.Frag) : Sp := fun vs H Q E => ∃ (h : Addr) (t : Str) (rooms : List Str) (rows : List (List Str)), vs = [.ref h, .str t] ∧ HS H h rooms rows ∧ HallV rooms rows ∧ t.length ≤ 100000 ∧
  (∀ ss pl, rdS rooms rows (wordsOf t) = .data ss pl → ∀ p H', Same H H' → HS H' p ss pl → Q (.ref p) H') ∧
  (∀ k, rdS rooms rows (wordsOf t) = .line k → ∀ H', Same H H' → ∀ d, H' d = none → E (.ref (He.ga K "InvalidText")) (some d) (upd H' d (.xd [("line", .int (k : Nat))])))
def spReadS : Sp := fun vs H Q _ => ∃ (h : Addr) (t : Str) (rooms : List Str) (rows : List (List Str)), vs = [.ref h, .str t] ∧ HS H h rooms rows ∧ HallV rooms rows ∧ t.length ≤ 100000 ∧ ∀ p H', Same H H' → DR H' 5 (.ref p) (dRd "state" (rdS rooms rows (wordsOf t))) → Q (.ref p) H'
def spSign : Sp := fun vs H Q _ => ∃ b : Addr, vs = [.ref b] ∧ Box H b ∧ ∀ (c : Str) H', c.length ≤ 1 → Box H' b → Ch b H H' → Q (.str c) H'
def spLineCh : Sp := fun vs H Q _ => ∃ (b l kn : Addr) (ws ks : List Str), vs = [.ref b, .ref l, .ref kn] ∧ Box H b ∧ H l = some (.lst (ws.map V.str)) ∧ ws ≠ [] ∧ tot ws ≤ 100001 ∧ H kn = some (.lst (ks.map V.str)) ∧ ks.length ≤ 40 ∧ (∀ x ∈ ks, x.length ≤ 20) ∧
  ∀ p (us : List Str) H', H' p = some (.lst (us.map V.str)) → tot us ≤ 2 * tot ws + 30 → Box H' b → Ch b H H' → Q (.ref p) H'
def spChanged : Sp := fun vs H Q _ => ∃ (b kn : Addr) (t : Str) (ks : List Str), vs = [.ref b, .str t, .ref kn] ∧ Box H b ∧ t.length ≤ 100000 ∧ H kn = some (.lst (ks.map V.str)) ∧ ks.length ≤ 40 ∧ (∀ x ∈ ks, x.length ≤ 20) ∧
  ∀ (u : Str) H', u.length ≤ 3 * t.length + 40 → Box H' b → Ch b H H' → Q (.str u) H'
def spLawNm : Sp := fun vs H Q _ => ∃ x : Str, vs = [.str x] ∧ x.length ≤ 100000 ∧ ∀ H', Same H H' → Q (.bl (decide (Nm x))) H'
end Td
set_option maxHeartbeats 4000000
namespace Td
open PySem PySem.Spec PyProof.Rows L2
/-! ### what a text of a hall says -/
def rmB (ws : List Str) : Bool := decide (ws.headD "" = "rooms") && (decide (1 ≤ ws.tail.length ∧ ws.tail.length ≤ 8) && (decide ws.tail.Nodup && ws.tail.all fun x => decide (Nm x)))
def drB (ws names rooms : List Str) : Bool := decide (ws.length = 4) && (decide (ws.headD "" = "door") && (decide (Nm (ws.getD 1 "")) && (!decide (ws.getD 1 "" ∈ names) && (!decide (ws.getD 2 "" = ws.getD 3 "") && (decide (ws.getD 2 "" ∈ rooms) && decide (ws.getD 3 "" ∈ rooms))))))
def goH (rooms : List Str) : Nat → List Str → List (List Str) → Rd
  | _, _, [] => .data [] []
  | k, names, w :: ls => if 12 < k then .line k else if drB w names rooms then (goH rooms (k + 1) (names ++ [w.getD 1 ""]) ls).pre [] [w.tail] else .line k
def rdH (ls : List (List Str)) : Rd := if rmB (ls.headD []) then (goH (ls.headD []).tail 1 [] ls.tail).pre (ls.headD []).tail [] else .line 0
theorem drB_eq (n a b : Str) (names rooms : List Str) : drB ["door", n, a, b] names rooms = (decide (Nm n) && (!decide (n ∈ names) && (!decide (a = b) && (decide (a ∈ rooms) && decide (b ∈ rooms))))) := by
  unfold drB
  rw [decide_eq_true (show (["door", n, a, b] : List Str).length = 4 from rfl), decide_eq_true (show (["door", n, a, b] : List Str).headD "" = "door" from rfl)]
  rfl
theorem dr_shape {ws names rooms : List Str} (h : drB ws names rooms = true) : ∃ n a b : Str, ws = [("door" : Str), n, a, b] := by
  unfold drB at h
  simp only [Bool.and_eq_true, decide_eq_true_eq] at h
  obtain ⟨h3, h1, _⟩ := h
  match ws, h3, h1 with
  | [a, b, c, d], _, h1 =>
    have e : a = "door" := h1
    exact ⟨b, c, d, by rw [e]⟩
theorem Rd.pre_pre' (pl ql : List (List Str)) (r : Rd) : ((r.pre [] ql).pre [] pl) = r.pre [] (pl ++ ql) := by
  cases r with
  | line k => rfl
  | data ss rows =>
    show Rd.data [] (pl ++ (ql ++ rows)) = Rd.data [] (pl ++ ql ++ rows)
    rw [List.append_assoc]
theorem goH_step {names rooms : List Str} {k : Nat} {n a b : Str} {ls : List (List Str)} (h5 : ¬ 12 < k) (h : drB ["door", n, a, b] names rooms = true) : goH rooms k names (["door", n, a, b] :: ls) = (goH rooms (k + 1) (names ++ [n]) ls).pre [] [[n, a, b]] := by
  show (if 12 < k then Rd.line k else if drB ["door", n, a, b] names rooms then _ else _) = _
  rw [if_neg h5, if_pos h]
  rfl
theorem goH_stop {rooms : List Str} {k : Nat} {names : List Str} {w : List Str} {ls : List (List Str)} (h : 12 < k ∨ drB w names rooms = false) : goH rooms k names (w :: ls) = .line k := by
  show (if 12 < k then Rd.line k else if drB w names rooms then _ else Rd.line k) = _
  by_cases h5 : 12 < k
  · rw [if_pos h5]
  · rw [if_neg h5, if_neg (by rw [h.resolve_left h5]; exact Bool.false_ne_true)]
theorem goH_nil (rooms : List Str) (k : Nat) (names : List Str) (ls : List (List Str)) : (goH rooms k names ls).pre [] [] = goH rooms k names ls := by
  cases ls with
  | nil => rfl
  | cons w ls =>
    show (if 12 < k then Rd.line k else if drB w names rooms then (goH rooms (k + 1) (names ++ [w.getD 1 ""]) ls).pre [] [w.tail] else Rd.line k).pre [] [] = (if 12 < k then Rd.line k else if drB w names rooms then (goH rooms (k + 1) (names ++ [w.getD 1 ""]) ls).pre [] [w.tail] else Rd.line k)
    split
    · rfl
    · split
      · rw [Rd.pre_pre']
        rfl
      · rfl
theorem goH_small {rooms : List Str} : ∀ (ls : List (List Str)) (k : Nat) (names : List Str) (ss : List Str) (pl : List (List Str)), goH rooms k names ls = .data ss pl → k + pl.length ≤ 13 ∨ pl.length = 0 := by
  intro ls
  induction ls with
  | nil => intro k names ss pl h; cases h; exact .inr rfl
  | cons w ls ih =>
    intro k names ss pl h
    have h' : (if 12 < k then Rd.line k else if drB w names rooms then (goH rooms (k + 1) (names ++ [w.getD 1 ""]) ls).pre [] [w.tail] else Rd.line k) = .data ss pl := h
    by_cases h5 : 12 < k
    · rw [if_pos h5] at h'; cases h'
    · rw [if_neg h5] at h'
      by_cases hw : drB w names rooms = true
      · rw [if_pos hw] at h'
        cases hg : goH rooms (k + 1) (names ++ [w.getD 1 ""]) ls with
        | line q => rw [hg] at h'; cases h'
        | data s2 p2 =>
          rw [hg] at h'
          cases h'
          have z := ih (k + 1) _ s2 p2 hg
          rw [List.length_append, List.length_singleton]
          omega
      · rw [if_neg hw] at h'; cases h'
theorem goH_rows {rooms : List Str} : ∀ (ls : List (List Str)) (k : Nat) (names : List Str) (ss : List Str) (pl : List (List Str)), goH rooms k names ls = .data ss pl → ∀ r ∈ pl, r.length ≤ 1000 := by
  intro ls
  induction ls with
  | nil => intro k names ss pl h r hr; cases h; cases hr
  | cons w ls ih =>
    intro k names ss pl h
    have h' : (if 12 < k then Rd.line k else if drB w names rooms then (goH rooms (k + 1) (names ++ [w.getD 1 ""]) ls).pre [] [w.tail] else Rd.line k) = .data ss pl := h
    by_cases h5 : 12 < k
    · rw [if_pos h5] at h'; cases h'
    · rw [if_neg h5] at h'
      by_cases hw : drB w names rooms = true
      · rw [if_pos hw] at h'
        cases hg : goH rooms (k + 1) (names ++ [w.getD 1 ""]) ls with
        | line q => rw [hg] at h'; cases h'
        | data s2 p2 =>
          rw [hg] at h'
          cases h'
          intro r hr
          rcases List.mem_append.mp hr with hr | hr
          · rw [List.mem_singleton.mp hr]
            obtain ⟨n, a, b, rfl⟩ := dr_shape hw
            show 3 ≤ 1000
            decide
          · exact ih (k + 1) _ s2 p2 hg r hr
      · rw [if_neg hw] at h'; cases h'
theorem rdH_data {ls : List (List Str)} {ss : List Str} {pl : List (List Str)} (h : rdH ls = .data ss pl) : ss.length ≤ 8 ∧ pl.length ≤ 13 ∧ ∀ r ∈ pl, r.length ≤ 1000 := by
  unfold rdH at h
  by_cases hf : rmB (ls.headD []) = true
  · rw [if_pos hf] at h
    have hf' := hf
    unfold rmB at hf'
    simp only [Bool.and_eq_true, decide_eq_true_eq] at hf'
    cases hg : goH (ls.headD []).tail 1 [] ls.tail with
    | line k => rw [hg] at h; cases h
    | data s2 p2 =>
      rw [hg] at h
      cases h
      have z := goH_small _ _ _ _ _ hg
      exact ⟨hf'.2.1.2, by rw [List.nil_append]; omega, fun r hr => goH_rows _ _ _ _ _ hg r (by rw [List.nil_append] at hr; exact hr)⟩
  · rw [if_neg hf] at h
    cases h
def badN (l : List Str) (x : Str) : Bool := !decide (Nm x) || decide (1 < l.count x)
theorem badN_nil (l : List Str) : (l.filter (badN l)).isEmpty = (decide l.Nodup && l.all fun x => decide (Nm x)) := by
  rw [Bool.eq_iff_iff, List.isEmpty_iff, List.filter_eq_nil_iff, Bool.and_eq_true, decide_eq_true_eq, List.all_eq_true]
  unfold badN
  simp only [Bool.or_eq_true, Bool.not_eq_true', decide_eq_true_eq, decide_eq_false_iff_not, not_or, Nat.not_lt, Decidable.not_not]
  refine ⟨fun h => ⟨List.nodup_iff_count.mpr fun a => ?_, fun x hx => (h x hx).1⟩, fun ⟨h1, h2⟩ x hx => ⟨h2 x hx, List.nodup_iff_count.mp h1 x⟩⟩
  by_cases ha : a ∈ l
  · exact (h a ha).2
  · rw [List.count_eq_zero_of_not_mem ha]
    exact Nat.zero_le _
/-! ### the promises -/
def spRoomsG : Sp := fun vs H Q _ => ∃ (l : Addr) (ws : List Str), vs = [.ref l] ∧ H l = some (.lst (ws.map V.str)) ∧ ws ≠ [] ∧ ws.length ≤ 100001 ∧ (∀ x ∈ ws, x.length ≤ 100000) ∧ ∀ H', Same H H' → Q (.bl (rmB ws)) H'
def spDoorG : Sp := fun vs H Q _ => ∃ (l r n : Addr) (ws rooms names : List Str), vs = [.ref l, .ref r, .ref n] ∧ H l = some (.lst (ws.map V.str)) ∧ ws ≠ [] ∧ (∀ x ∈ ws, x.length ≤ 100000) ∧ H r = some (.tup (rooms.map V.str)) ∧ H n = some (.lst (names.map V.str)) ∧ ∀ H', Same H H' → Q (.bl (drB ws names rooms)) H'
def spParseH (K : PySem.W.Frag) : Sp := fun vs H Q E => ∃ t : Str, vs = [.str t] ∧ t.length ≤ 100000 ∧
  (∀ ss pl, rdH (wordsOf t) = .data ss pl → ∀ p H', Same H H' → HS H' p ss pl → Q (.ref p) H') ∧
  (∀ k, rdH (wordsOf t) = .line k → ∀ H', Same H H' → ∀ d, H' d = none → E (.ref (He.ga K "InvalidText")) (some d) (upd H' d (.xd [("line", .int (k : Nat))])))
def spReadH : Sp := fun vs H Q _ => ∃ t : Str, vs = [.str t] ∧ t.length ≤ 100000 ∧ ∀ p H', Same H H' → DR H' 5 (.ref p) (dRd "hall" (rdH (wordsOf t))) → Q (.ref p) H'
end Td
set_option maxHeartbeats 4000000
namespace Td
open PySem PySem.Spec PyProof.Rows L2
section
def mth (i : Nat) : Stmt := match top i with
  | .ClassDef _ _ _ body _ _ _ _ _ _ _ => body.getD 0 (.Pass ⟨0, 0, 0, 0⟩)
  | _ => .Pass ⟨0, 0, 0, 0⟩
variable {P : Program} {w : World} {K : PySem.W.Frag} {mg : Str → Option Value} {base : Heap} {f : Addr} {fd : FuncData}
abbrev s_is_name : Stmt := top 5
abbrev n_is_name : List Str := ["value", "letter"]
theorem sc_is_name : FnScope n_is_name ["value"] (defScope s_is_name) := ⟨rfl, rfl, rfl, by decide +kernel, rfl, by decide +kernel, by decide +kernel⟩
theorem ok_is_name (F : FnP K "is_name" s_is_name f fd) (hm : mg "is_name" = some (.ref f)) (m_all : mg "all" = none) (m_isinstance : mg "isinstance" = none) (m_len : mg "len" = none) (m_str : mg "str" = none) (g_LETTERS : ∃ t, mg "_LETTERS" = some (.int 6 t)) :
    Cal P w K mg base 1 "is_name" spIsName := by
  refine cal_of (F.ok sc_is_name (fun vs H Q E h => ?_) (fun cdv A outer s H vs Q E hr h => ?_)) hm F.kp (F.bindsN (ps := ["value"]) fun _ _ _ _ _ _ us hl => match us, hl with | [_], _ => rfl)
  · obtain ⟨x, rfl, hl, q⟩ := h
    rfl
  obtain ⟨x, rfl, hl, q⟩ := h
  have nd := sc_is_name.nd
  refine ⟨_, PSs.nox (pss_cons (ps_if (PW.pt (pw_or (pt_not (pt_val (pe_callB (r := rIsi K) call_isi (by rfl) m_isinstance (by decide +kernel) (pa_cons (pv 0) (pa_cons (pe_bltn (by rfl) m_str (by decide +kernel) (show L2.RelV (.ty "str") (.type "str") from rfl)) pa_nil))))) (pw_or1 (pt_not (pt_chain op_le op_le pe_int (pe_callB call_len_str (by rfl) m_len PySem.boot_len (pa_cons (pv 0) pa_nil)) (pe_gint (by rfl) g_LETTERS)))))) (pss_one (ps_ret pe_bl)) pss_nil)
    (pss_one (ps_ret (pe_callB (r := rAll K) (cr_all rfl) (by rfl) m_all (by decide +kernel) (pa_cons (pe_lc (own := [("letter", 1)]) (g := (gName 1)) (by rfl) nd (pi_str (pv 0)) (blkOk_by (own := [("letter", 1)]) (N := n_is_name) (sc := defScope s_is_name) (by decide +kernel)) (fun _ _ _ _ _ => (pg_name (i := 1) nd rfl (Or.inl rfl))) (fun _ _ _ _ _ => pts_nil) (fun _ _ _ _ _ => (pe_chain op_le_str op_le_str pe_str (pv 1) pe_str))) pa_nil))))), ?_⟩
  have kt : PySem.W.kitOne K (.type "str") (.type "str") = some true := kit_ty (by decide +kernel)
  have no : ¬ (1 ≤ x.length ∧ x.length ≤ 6) → Q (.bl false) H := fun h => by
    have e : decide (Nm x) = false := decide_eq_false fun z => h ⟨z.1, z.2.1⟩
    have z := q H (Same.refl H)
    rw [e] at z
    exact z
  refine ⟨_, rfl, .str x, .ty "str", .type "str", .type "str", true, rfl, .ty _, .base (.str _), kt, _, rfl, ?_⟩
  refine iteF ?_
  refine ⟨_, rfl, x, rfl, Nat.le_trans hl (by decide), _, _, rfl, rfl, _, rfl, ?_⟩
  by_cases g1 : (1 : Int) ≤ (x.length : Int)
  · rw [decide_eq_true g1]
    refine iteT ⟨_, _, rfl, rfl, _, rfl, ?_⟩
    by_cases g2 : (x.length : Int) ≤ 6
    · rw [decide_eq_true g2]
      refine iteF ?_
      have hx : x.cps.size ≤ 6 := by
        have e : x.length = x.cps.size := rfl
        omega
      refine ⟨_, rfl, _, rfl, fun D hD => ?_⟩
      refine lc_gen (n := x.cps.size) (fun i Hx => Hx = upd H D (.lst (((x.cps.toList.take i).map fun c => decide (97 ≤ c) && decide (c ≤ 122)).map V.bl))) rfl (fun i Hx hi e => ⟨hi, ?_⟩) (fun Hx e => ⟨Nat.le_refl _, ?_⟩)
      · rintro _ _ ⟨rfl, c, hc, rfl⟩
        subst e
        refine ⟨rfl, lcY ?_⟩
        have hc2 : x.cps.toList[i]? = some c := by rw [Array.getElem?_toList]; exact hc
        have la : (!decide (({ cps := #[c] } : Str).cps.toList < ("a" : Str).cps.toList)) = decide (97 ≤ c) := by
          have e1 : ("a" : Str).cps.toList = [97] := by decide
          have e2 : ({ cps := #[c] } : Str).cps.toList = [c] := rfl
          rw [e1, e2]
          by_cases h : c < 97
          · have h1 : [c] < [97] := List.Lex.rel h
            rw [decide_eq_true h1, decide_eq_false (by omega)]
            rfl
          · have h1 : ¬ [c] < [97] := fun z => by
              cases z with
              | rel z => exact h z
              | cons z => cases z
            rw [decide_eq_false h1, decide_eq_true (by omega)]
            rfl
        have lz : (!decide (("z" : Str).cps.toList < ({ cps := #[c] } : Str).cps.toList)) = decide (c ≤ 122) := by
          have e1 : ("z" : Str).cps.toList = [122] := by decide
          have e2 : ({ cps := #[c] } : Str).cps.toList = [c] := rfl
          rw [e1, e2]
          by_cases h : 122 < c
          · have h1 : [122] < [c] := List.Lex.rel h
            rw [decide_eq_true h1, decide_eq_false (by omega)]
            rfl
          · have h1 : ¬ [122] < [c] := fun z => by
              cases z with
              | rel z => exact h z
              | cons z => cases z
            rw [decide_eq_false h1, decide_eq_true (by omega)]
            rfl
        have fin : ∀ v : Bool, v = (decide (97 ≤ c) && decide (c ≤ 122)) → ∃ acc, (upd H D (.lst (((x.cps.toList.take i).map fun c => decide (97 ≤ c) && decide (c ≤ 122)).map V.bl))) D = some (.lst acc) ∧ acc.length < sizeLine ∧
            upd (upd H D (.lst (((x.cps.toList.take i).map fun c => decide (97 ≤ c) && decide (c ≤ 122)).map V.bl))) D (.lst (acc ++ [.bl v])) = upd H D (.lst (((x.cps.toList.take (i + 1)).map fun c => decide (97 ≤ c) && decide (c ≤ 122)).map V.bl)) := fun v hv => by
          refine ⟨_, upd_same, ?_, ?_⟩
          · rw [List.length_map, List.length_map, List.length_take]
            exact sz100 (by omega)
          · rw [upd_upd, take_snoc hc2, List.map_append, List.map_append, hv]
            rfl
        refine ⟨_, rfl, _, _, rfl, rfl, _, rfl, ?_⟩
        rw [la]
        by_cases h : 97 ≤ c
        · rw [decide_eq_true h]
          refine iteT ⟨_, _, rfl, rfl, ?_⟩
          rw [lz]
          exact fin _ (by rw [decide_eq_true h]; rfl)
        · rw [decide_eq_false h]
          refine iteF ?_
          exact fin _ (by rw [decide_eq_false h]; rfl)
      · subst e
        refine ⟨D, _, rfl, SqL.of upd_same, ?_⟩
        have et : (((x.cps.toList.take x.cps.size).map fun c => decide (97 ≤ c) && decide (c ≤ 122)).all id) = decide (Nm x) := by
          have e1 : x.cps.toList.take x.cps.size = x.cps.toList := List.take_of_length_le (by rw [Array.length_toList]; exact Nat.le_refl _)
          rw [e1]
          by_cases h : ∀ c ∈ x.cps.toList, 97 ≤ c ∧ c ≤ 122
          · have hn : Nm x := ⟨by omega, by omega, h⟩
            rw [decide_eq_true hn, List.all_eq_true]
            intro b hb
            obtain ⟨c, hc, rfl⟩ := List.mem_map.mp hb
            obtain ⟨h1, h2⟩ := h c hc
            show (decide (97 ≤ c) && decide (c ≤ 122)) = true
            rw [decide_eq_true h1, decide_eq_true h2]
            rfl
          · have hn : ¬ Nm x := fun z => h z.2.2
            rw [decide_eq_false hn]
            cases hb : (x.cps.toList.map fun c => decide (97 ≤ c) && decide (c ≤ 122)).all id with
            | false => rfl
            | true =>
              refine absurd (fun c hc => ?_) h
              have z := List.all_eq_true.mp hb _ (List.mem_map.mpr ⟨c, hc, rfl⟩)
              have y : (decide (97 ≤ c) && decide (c ≤ 122)) = true := z
              rw [Bool.and_eq_true, decide_eq_true_eq, decide_eq_true_eq] at y
              exact y
        rw [et]
        exact q _ (same_new hD _)
    · rw [decide_eq_false g2]
      exact iteT (no fun z => g2 (by omega))
  · rw [decide_eq_false g1]
    refine iteF ⟨_, rfl, ?_⟩
    exact iteT (no fun z => g1 (by omega))
abbrev s_split_lines : Stmt := top 10
abbrev n_split_lines : List Str := ["text", "line"]
theorem sc_split_lines : FnScope n_split_lines ["text"] (defScope s_split_lines) := ⟨rfl, rfl, rfl, by decide +kernel, rfl, by decide +kernel, by decide +kernel⟩
theorem ok_split_lines (F : FnP K "_split_lines" s_split_lines f fd) (hm : mg "_split_lines" = some (.ref f)) :
    Cal P w K mg base 1 "_split_lines" spSplitG := by
  refine cal_of (F.ok sc_split_lines (fun vs H Q E h => ?_) (fun cdv A outer s H vs Q E hr h => ?_)) hm F.kp (F.bindsN (ps := ["text"]) fun _ _ _ _ _ _ us hl => match us, hl with | [_], _ => rfl)
  · obtain ⟨t, rfl, hL, q⟩ := h
    rfl
  obtain ⟨t, rfl, hL, q⟩ := h
  have nd := sc_split_lines.nd
  refine ⟨_, PSs.nox (pss_one (ps_ret (pe_lc (own := [("line", 1)]) (g := (gName 1)) (by rfl) nd (pi_list (pe_split (pv 0) pe_str)) (blkOk_by (own := [("line", 1)]) (N := n_split_lines) (sc := defScope s_split_lines) (by decide +kernel)) (fun _ _ _ _ _ => (pg_name (i := 1) nd rfl (Or.inl rfl))) (fun _ _ _ _ _ => pts_nil) (fun _ _ _ _ _ => (pe_split (pv 1) pe_str))))), ?_⟩
  have W := wOk t
  have big : ∀ {n : Nat}, n ≤ 200000 → n ≤ sizeLine := fun h => Nat.le_trans h (by decide)
  have szb : ∀ {n : Nat}, n ≤ 200000 → n < sizeLine := fun h => Nat.lt_of_le_of_lt h (by decide)
  have wl : (wordsOf t).length = (linesT t).length := List.length_map _
  have ln := W.len
  refine ⟨_, rfl, ⟨_, rfl⟩, _, _, rfl, rfl, (by decide), big (by omega), fun p hp => ?_⟩
  have s1 := same_new hp (.lst ((linesT t).map V.str))
  have hp1 : (upd H p (.lst ((linesT t).map V.str))) p = some (.lst ((linesT t).map V.str)) := upd_same
  refine ⟨p, rfl, ⟨_, SqL.of upd_same⟩, fun D hD => ?_⟩
  replace hD : upd H p (.lst ((linesT t).map V.str)) D = none := hD
  show ∃ W : Nat → Nat → Hp → Prop, (∃ m, W 0 m (upd (upd H p (.lst ((linesT t).map V.str))) D (.lst []))) ∧ _
  generalize upd H p (.lst ((linesT t).map V.str)) = H1 at s1 hp1 hD ⊢
  have hml : ((linesT t).map V.str).length = (linesT t).length := List.length_map _
  refine lc_list (K := K) (a := p) (xs := (linesT t).map V.str) (fun i Hx => Same H1 Hx ∧ ∃ as : List Addr, Hx D = some (.lst (as.map V.ref)) ∧ LinesAt Hx as ((wordsOf t).take i) ∧ D ∉ as) ⟨same_new hD _, [], upd_same, ⟨rfl, fun i a l e => by cases e⟩, by simp⟩
    (fun i Hx _ ⟨sx, _⟩ => SqL.of (sx _ _ hp1)) (fun i x Hx hx ⟨sx, as, hDx, hLs, nD⟩ => ?_) (fun Hx ⟨sx, as, hDx, hLs, nD⟩ => ?_)
  · obtain ⟨y, hy, rfl⟩ := str_at hx
    have hil : i < (linesT t).length := (List.getElem?_eq_some_iff.mp hy).1
    have hl : (wordsOf t)[i]? = some (wordsL y) := by
      unfold wordsOf
      rw [List.getElem?_map, hy]
      rfl
    have yl : y.length ≤ t.length := by
      have e1 := tot_mem (List.mem_of_getElem? hy)
      have e2 := (linesT_tot t).2
      omega
    refine ⟨rfl, lcY ?_⟩
    refine ⟨_, rfl, ⟨_, rfl⟩, _, _, rfl, rfl, (by decide), big (by omega), fun a ha => ?_⟩
    show ∃ acc, upd Hx a (.lst ((wordsL y).map V.str)) D = some (.lst acc) ∧ _
    have naD : D ≠ a := ne_of_none hDx ha
    have hll := hLs.1
    rw [List.length_take, Nat.min_eq_left (by omega)] at hll
    refine ⟨_, same_new ha _ _ _ hDx, ?_, same_mut (sx.trans (same_new ha _)) hD _, as ++ [a], ?_, ?_, ?_⟩
    · rw [List.length_map, hll]
      exact szb (by omega)
    · rw [upd_same, List.map_append]
      rfl
    · rw [take_snoc hl]
      have hl2 := hLs.1
      refine ⟨by rw [List.length_append, List.length_append, hl2]; rfl, fun j b k e1 e2 => ?_⟩
      by_cases hj : j < as.length
      · rw [List.getElem?_append_left hj] at e1
        rw [List.getElem?_append_left (by omega)] at e2
        rw [upd_ne (fun e => nD (by rw [← e]; exact List.mem_of_getElem? e1))]
        exact same_new ha _ _ _ (hLs.2 j b k e1 e2)
      · rw [List.getElem?_append_right (by omega)] at e1 e2
        have hj2 : j = as.length := by
          have z := (List.getElem?_eq_some_iff.mp e1).1
          rw [List.length_singleton] at z
          omega
        subst hj2
        rw [Nat.sub_self] at e1
        rw [hl2, Nat.sub_self] at e2
        cases e1
        cases e2
        rw [upd_ne naD.symm]
        exact upd_same
    · intro hm
      rcases List.mem_append.mp hm with hm | hm
      · exact nD hm
      · exact naD (List.mem_singleton.mp hm)
  rw [hml, ← wl, List.take_length] at hLs
  exact q D as Hx (s1.trans sx) hDx hLs
theorem neF {a b : V} (h : a ≠ b) : (!decide (a = b)) = true := by rw [decide_eq_false h]; rfl
abbrev s_is_rooms_line : Stmt := top 11
abbrev n_is_rooms_line : List Str := ["words", "rooms", "room"]
theorem sc_is_rooms_line : FnScope n_is_rooms_line ["words"] (defScope s_is_rooms_line) := ⟨rfl, rfl, rfl, by decide +kernel, rfl, by decide +kernel, by decide +kernel⟩
theorem ok_is_rooms_line (F : FnP K "_is_rooms_line" s_is_rooms_line f fd) (hm : mg "_is_rooms_line" = some (.ref f)) (c_is_name : Cal P w K mg base 1 "is_name" spIsName) (m_all : mg "all" = none) (m_len : mg "len" = none) (m_set : mg "set" = none) (g_ROOMS : ∃ t, mg "ROOMS" = some (.int 8 t)) :
    Cal P w K mg base 2 "_is_rooms_line" spRoomsG := by
  refine cal_of (F.ok sc_is_rooms_line (fun vs H Q E h => ?_) (fun cdv A outer s H vs Q E hr h => ?_)) hm F.kp (F.bindsN (ps := ["words"]) fun _ _ _ _ _ _ us hl => match us, hl with | [_], _ => rfl)
  · obtain ⟨l, ws, rfl, hl, hne, hbig, hb, q⟩ := h
    rfl
  obtain ⟨l, ws, rfl, hl, hne, hbig, hb, q⟩ := h
  have nd := sc_is_rooms_line.nd
  refine ⟨_, PSs.nox (pss_cons (ps_set (i := 1) nd rfl (Or.inl rfl) (pe_slice (r := rSlL K) sl_list (pv 0) (po_some pe_int) po_none))
    (pss_cons (ps_if (PW.pt (pw_or (pt_cmpR op_ne (pe_ix (r := rIxL K) ix_list (pv 0) pe_int (fun _ _ => rfl)) pe_str (nomark _)) (pw_or1 (pt_not (pt_chain op_le op_le pe_int (pe_callB (r := rLn K) call_len_seq (by rfl) m_len PySem.boot_len (pa_cons (pv 1) pa_nil)) (pe_gint (by rfl) g_ROOMS)))))) (pss_one (ps_ret pe_bl)) pss_nil)
    (pss_one (ps_ret (pe_and (pe_cmpR op_eq (pe_lenSetG (by rfl) m_len (by rfl) m_set (pv 1)) (pe_callB (r := rLn K) call_len_seq (by rfl) m_len PySem.boot_len (pa_cons (pv 1) pa_nil)) (nomark _)) (pe_one (pe_callB (r := rAll K) (cr_all rfl) (by rfl) m_all (by decide +kernel) (pa_cons (pe_lc (own := [("room", 2)]) (g := (gName 2)) (by rfl) nd (pi_list (pv 1)) (blkOk_by (own := [("room", 2)]) (N := n_is_rooms_line) (sc := defScope s_is_rooms_line) (by decide +kernel)) (fun _ _ _ _ _ => (pg_name (i := 2) nd rfl (Or.inl rfl))) (fun _ _ _ _ _ => pts_nil) (fun _ _ _ _ _ => (C8.pe_c c_is_name hr (by omega) (by rfl) (pa_cons (pv 2) pa_nil)))) pa_nil)))))))), ?_⟩
  obtain ⟨k, rooms, rfl⟩ : ∃ k rooms, ws = k :: rooms := by
    cases ws with
    | nil => exact absurd rfl hne
    | cons k rooms => exact ⟨k, rooms, rfl⟩
  have szb : ∀ {n : Nat}, n ≤ 200000 → n < sizeLine := fun h => Nat.lt_of_le_of_lt h (by decide)
  have hll : (((k :: rooms).map V.str).drop 1) = rooms.map V.str := rfl
  have hrl : (rooms.map V.str).length = rooms.length := List.length_map _
  refine ⟨_, rfl, _, rfl, l, _, rfl, SqL.of hl, fun p hp => ?_⟩
  rw [cut_from1, hll]
  have s1 := same_new hp (.lst (rooms.map V.str))
  have hp1 : (upd H p (.lst (rooms.map V.str))) p = some (.lst (rooms.map V.str)) := upd_same
  generalize upd H p (.lst (rooms.map V.str)) = H1 at s1 hp1 ⊢
  refine ⟨_, rfl, l, _, _, _, rfl, rfl, SqL.of (s1 _ _ hl), atI_nat (j := 0) rfl, rfl, _, rfl, ?_⟩
  by_cases hk : k = "rooms"
  case neg =>
    rw [neF (fun z => hk (by injection z))]
    have no : rmB (k :: rooms) = false := by
      unfold rmB
      rw [decide_eq_false (show ¬ (k :: rooms).headD "" = "rooms" from hk)]
      rfl
    rw [no] at q
    exact iteT (iteT (q _ s1))
  subst hk
  refine iteNS rfl ?_
  have len_ : ¬ (1 ≤ rooms.length ∧ rooms.length ≤ 8) → Q (.bl false) H1 := fun h => by
    have no : rmB ("rooms" :: rooms) = false := by
      unfold rmB
      rw [decide_eq_false (show ¬ (1 ≤ (("rooms" : Str) :: rooms).tail.length ∧ (("rooms" : Str) :: rooms).tail.length ≤ 8) from h)]
      simp
    rw [no] at q
    exact q _ s1
  refine ⟨_, rfl, p, _, rfl, .inl (SqL.of hp1), _, _, rfl, rfl, _, rfl, ?_⟩
  rw [hrl]
  by_cases g1 : (1 : Int) ≤ (rooms.length : Int)
  case neg =>
    rw [decide_eq_false g1]
    refine iteF ⟨_, rfl, ?_⟩
    exact iteT (len_ fun z => g1 (by omega))
  rw [decide_eq_true g1]
  refine iteT ⟨_, _, rfl, rfl, _, rfl, ?_⟩
  by_cases g2 : (rooms.length : Int) ≤ 8
  case neg =>
    rw [decide_eq_false g2]
    exact iteT (len_ fun z => g2 (by omega))
  rw [decide_eq_true g2]
  refine iteF ?_
  have fin : ∀ v : Bool, v = (decide rooms.Nodup && rooms.all fun x => decide (Nm x)) → ∀ H', Same H H' → Q (.bl v) H' := fun v hv H' s' => by
    have e : rmB ("rooms" :: rooms) = v := by
      unfold rmB
      rw [decide_eq_true (show (("rooms" : Str) :: rooms).headD "" = "rooms" from rfl), decide_eq_true (show (1 ≤ (("rooms" : Str) :: rooms).tail.length ∧ (("rooms" : Str) :: rooms).tail.length ≤ 8) from ⟨by show 1 ≤ rooms.length; omega, by show rooms.length ≤ 8; omega⟩), hv]
      rfl
    rw [e] at q
    exact q H' s'
  refine ⟨_, rfl, p, rooms, rfl, SqL.of hp1, by omega, _, rfl, p, _, rfl, .inl (SqL.of hp1), rfl, _, rfl, ?_⟩
  rw [hrl, dc_eq]
  by_cases hnd : rooms.Nodup
  case neg =>
    rw [decide_eq_false hnd]
    exact iteF (fin false (by rw [decide_eq_false hnd]; rfl) _ s1)
  rw [decide_eq_true hnd]
  refine iteT ?_
  refine ⟨_, rfl, p, rfl, ⟨_, SqL.of hp1⟩, fun D hD => ?_⟩
  refine lc_list (K := K) (a := p) (xs := rooms.map V.str) (fun i Hx => Same H1 Hx ∧ Hx D = some (.lst (((rooms.take i).map fun x => decide (Nm x)).map V.bl))) ⟨same_new hD _, upd_same⟩ (fun i Hx _ ⟨sx, _⟩ => SqL.of (sx _ _ hp1)) (fun i x Hx hx ⟨sx, hDx⟩ => ?_) (fun Hx ⟨sx, hDx⟩ => ?_)
  · obtain ⟨t, ht, rfl⟩ := str_at hx
    have hm := List.mem_of_getElem? ht
    have hil : i < rooms.length := (List.getElem?_eq_some_iff.mp ht).1
    refine ⟨rfl, lcY ?_⟩
    refine ⟨_, rfl, t, rfl, hb t (List.mem_cons_of_mem _ hm), fun H' s' => ⟨_, s' _ _ hDx, ?_, same_mut (sx.trans s') hD _, ?_⟩⟩
    · rw [List.length_map, List.length_map, List.length_take]
      exact sz100 (by omega)
    · rw [upd_same, take_snoc ht, List.map_append, List.map_append]
      rfl
  rw [hrl, List.take_length] at hDx
  refine ⟨D, _, rfl, SqL.of hDx, ?_⟩
  refine fin _ ?_ _ (s1.trans sx)
  rw [decide_eq_true hnd, List.all_map]
  rfl
abbrev s_is_door_line : Stmt := top 12
abbrev n_is_door_line : List Str := ["words", "rooms", "names", "name", "one", "other"]
theorem sc_is_door_line : FnScope n_is_door_line ["words", "rooms", "names"] (defScope s_is_door_line) := ⟨rfl, rfl, rfl, by decide +kernel, rfl, by decide +kernel, by decide +kernel⟩
theorem ok_is_door_line (F : FnP K "_is_door_line" s_is_door_line f fd) (hm : mg "_is_door_line" = some (.ref f)) (c_is_name : Cal P w K mg base 1 "is_name" spIsName) (m_len : mg "len" = none) :
    Cal P w K mg base 2 "_is_door_line" spDoorG := by
  refine cal_of (F.ok sc_is_door_line (fun vs H Q E h => ?_) (fun cdv A outer s H vs Q E hr h => ?_)) hm F.kp (F.bindsN (ps := ["words", "rooms", "names"]) fun _ _ _ _ _ _ us hl => match us, hl with | [_, _, _], _ => rfl)
  · obtain ⟨l, r, nl, ws, rooms, names, rfl, hl, hne, hb, hrr, hn, q⟩ := h
    rfl
  obtain ⟨l, r, nl, ws, rooms, names, rfl, hl, hne, hb, hrr, hn, q⟩ := h
  have nd := sc_is_door_line.nd
  refine ⟨_, PSs.nox (pss_cons (ps_if (PW.pt (pw_or (pt_cmpR op_ne (pe_callB (r := rLn K) call_len_seq (by rfl) m_len PySem.boot_len (pa_cons (pv 0) pa_nil)) pe_int (nomark _)) (pw_or1 (pt_cmpR op_ne (pe_ix (r := rIxL K) ix_list (pv 0) pe_int (fun _ _ => rfl)) pe_str (nomark _))))) (pss_one (ps_ret pe_bl)) pss_nil)
    (pss_cons (ps_asg (pe_slice (r := rSlL K) sl_list (pv 0) (po_some pe_int) po_none) (pg_unl (by rfl) (pgs_cons (pg_name (i := 3) nd rfl (Or.inl rfl)) (pgs_cons (pg_name (i := 4) nd rfl (Or.inl rfl)) (pgs_cons (pg_name (i := 5) nd rfl (Or.inl rfl)) pgs_nil)))))
    (pss_cons (ps_if (PW.pt (pw_or (pt_not (pt_val (C8.pe_c c_is_name hr (by omega) (by rfl) (pa_cons (pv 3) pa_nil)))) (pw_or1 (pt_cmpR (r := rIn K false) op_in_seq (pv 3) (pv 2) (by rfl))))) (pss_one (ps_ret pe_bl)) pss_nil)
    (pss_one (ps_ret (pe_and (pe_cmpR op_ne (pv 4) (pv 5) (nomark _)) (pe_and (pe_cmpR (r := rIn K false) op_in_seq (pv 4) (pv 1) (by rfl)) (pe_one (pe_cmpR (r := rIn K false) op_in_seq (pv 5) (pv 1) (by rfl)))))))))), ?_⟩
  have hwl : (ws.map V.str).length = ws.length := List.length_map _
  refine ⟨_, rfl, l, _, rfl, .inl (SqL.of hl), rfl, _, rfl, ?_⟩
  by_cases h4 : ws.length = 4
  · obtain ⟨k, n, a, b, rfl⟩ : ∃ k n a b, ws = [k, n, a, b] := by
      match ws, h4 with
      | [a, b, c, d], _ => exact ⟨a, b, c, d, rfl⟩
    refine iteNS rfl ?_
    refine ⟨_, rfl, l, _, _, _, rfl, rfl, SqL.of hl, atI_nat (j := 0) rfl, rfl, _, rfl, ?_⟩
    by_cases hk : k = "door"
    · subst hk
      refine iteNS rfl ?_
      refine ⟨_, rfl, _, rfl, l, _, rfl, SqL.of hl, fun p hp => ?_⟩
      rw [cut_from1]
      have s1 := same_new hp (.lst ((([("door" : Str), n, a, b] : List Str).map V.str).drop 1))
      refine ⟨p, _, rfl, SqL.of upd_same, rfl, _, _, rfl, _, _, rfl, _, _, rfl, rfl, ?_⟩
      generalize upd H p (.lst ((([("door" : Str), n, a, b] : List Str).map V.str).drop 1)) = H1 at s1 ⊢
      have hxl := hb n (List.mem_cons_of_mem _ (List.mem_cons_self ..))
      rw [drB_eq] at q
      refine ⟨_, rfl, n, rfl, hxl, fun H2 s2 => ⟨_, rfl, ?_⟩⟩
      have s02 := s1.trans s2
      by_cases h1 : Nm n
      · rw [decide_eq_true h1] at q ⊢
        refine iteF ?_
        refine ⟨_, rfl, _, rfl, nl, _, rfl, .inl (SqL.of (s02 _ _ hn)), rfl, flat_strs _, _, rfl, ?_⟩
        rw [inV_str]
        by_cases h2 : n ∈ names
        · rw [decide_eq_true h2] at q ⊢
          exact iteT (q _ s02)
        rw [decide_eq_false h2] at q ⊢
        refine iteF ?_
        refine ⟨_, rfl, _, rfl, rfl, _, rfl, ?_⟩
        by_cases h3 : a = b
        · rw [decide_eq_true h3] at q
          rw [decide_eq_true (show V.str a = V.str b by rw [h3])]
          exact iteF (q _ s02)
        rw [decide_eq_false h3] at q
        rw [decide_eq_false (fun e : V.str a = V.str b => h3 (by injection e))]
        refine iteT ?_
        refine ⟨_, rfl, _, rfl, r, _, rfl, .inr (SqT.of (s02 _ _ hrr)), rfl, flat_strs _, _, rfl, ?_⟩
        rw [inV_str]
        by_cases h5 : a ∈ rooms
        · rw [decide_eq_true h5] at q ⊢
          refine iteT ?_
          refine ⟨_, rfl, _, rfl, r, _, rfl, .inr (SqT.of (s02 _ _ hrr)), rfl, flat_strs _, ?_⟩
          rw [inV_str]
          exact q _ s02
        · rw [decide_eq_false h5] at q ⊢
          exact iteF (q _ s02)
      · rw [decide_eq_false h1] at q ⊢
        exact iteT (q _ s02)
    · rw [neF (fun z => hk (by injection z))]
      have no : drB [k, n, a, b] names rooms = false := by
        unfold drB
        rw [decide_eq_false (show ¬ ([k, n, a, b] : List Str).headD "" = "door" from hk)]
        simp
      rw [no] at q
      exact iteT (q _ (Same.refl H))
  · rw [hwl, neF (fun z => h4 (by injection z with z; omega))]
    have no : drB ws names rooms = false := by
      unfold drB
      rw [decide_eq_false h4]
      rfl
    rw [no] at q
    exact iteT (iteT (q _ (Same.refl H)))
end
end Td
set_option maxHeartbeats 4000000
namespace Td
open PySem PySem.Spec PyProof.Rows L2
/-! ### xs == [], xs != [], whatever stands in xs -/
def rEqE (K : PySem.W.Frag) : R2 := fun x y H Q => ∃ (a b : Addr) (xs : List V), x = .ref a ∧ y = .ref b ∧ SqL K H a xs ∧ SqL K H b [] ∧ Q (.bl xs.isEmpty) H
def rNeE (K : PySem.W.Frag) : R2 := fun x y H Q => ∃ (a b : Addr) (xs : List V), x = .ref a ∧ y = .ref b ∧ SqL K H a xs ∧ SqL K H b [] ∧ Q (.bl (!xs.isEmpty)) H
section
variable {X : Cx}
theorem op_eqE (hu : X.A.units + 64 < cLine) : OpR X (compareOp .Eq) (rEqE X.K) := by
  intro pins s σ H x y v u Q I rx ry h
  obtain ⟨a, b, xs, rfl, rfl, ha, hb, q⟩ := h
  cases rx
  cases ry
  obtain ⟨i1, r1, p1, _⟩ := I.list ha
  obtain ⟨i2, r2, p2, _⟩ := I.list hb
  have l1 := r1.length
  have l2 := r2.length
  cases xs with
  | nil =>
    have e : i1.toArray.size = i2.toArray.size := by rw [List.size_toArray, List.size_toArray, ← l1, ← l2]
    refine SeqAt.RcAt.lists (e := fun _ => true) p1.isList p2.isList e (by omega) (fun j h1 h2 => ?_) X.prog X.w _ _ ⟨.bl true, H, I, ?_, q⟩
    · rw [List.size_toArray, ← l1] at h1
      cases h1
    · show Value.bool _ = Value.bool true
      rw [List.size_toArray, ← l1]
      rfl
  | cons x xs =>
    refine SeqAt.RcAt.lists_lengths p1.isList p2.isList ?_ (by omega) X.prog X.w _ _ ⟨.bl false, H, I, rfl, q⟩
    rw [List.size_toArray, List.size_toArray, ← l1, ← l2]
    rfl
theorem op_neE (hu : X.A.units + 64 < cLine) : OpR X (compareOp .NotEq) (rNeE X.K) := by
  intro pins s σ H x y v u Q I rx ry h
  obtain ⟨a, b, xs, rfl, rfl, ha, hb, q⟩ := h
  cases rx
  cases ry
  obtain ⟨i1, r1, p1, _⟩ := I.list ha
  obtain ⟨i2, r2, p2, _⟩ := I.list hb
  have l1 := r1.length
  have l2 := r2.length
  cases xs with
  | nil =>
    have e : i1.toArray.size = i2.toArray.size := by rw [List.size_toArray, List.size_toArray, ← l1, ← l2]
    refine SeqAt.RcNeAt.lists (e := fun _ => true) p1.isList p2.isList e (by omega) (fun j h1 h2 => ?_) X.prog X.w _ _ ⟨.bl false, H, I, ?_, q⟩
    · rw [List.size_toArray, ← l1] at h1
      cases h1
    · show Value.bool _ = Value.bool false
      rw [List.size_toArray, ← l1]
      rfl
  | cons x xs =>
    refine SeqAt.RcNeAt.lists_lengths p1.isList p2.isList ?_ (by omega) X.prog X.w _ _ ⟨.bl true, H, I, rfl, q⟩
    rw [List.size_toArray, List.size_toArray, ← l1, ← l2]
    rfl
end
end Td
set_option maxHeartbeats 4000000
namespace Td
open PySem PySem.Spec PyProof.Rows L2
section
variable {P : Program} {w : World} {K : PySem.W.Frag} {mg : Str → Option Value} {base : Heap} {f : Addr} {fd : FuncData}
abbrev s_parse_hall : Stmt := top 9
abbrev n_parse_hall : List Str := ["text", "lines", "rooms", "doors", "index", "words", "names", "door"]
theorem sc_parse_hall : FnScope n_parse_hall ["text"] (defScope s_parse_hall) := ⟨rfl, rfl, rfl, by decide +kernel, rfl, by decide +kernel, by decide +kernel⟩
theorem ok_parse_hall (F : FnP K "parse_hall" s_parse_hall f fd) (hm : mg "parse_hall" = some (.ref f)) (M_InvalidText : ErrMV P w K mg base "InvalidText" "line") (c_is_door_line : Cal P w K mg base 2 "_is_door_line" spDoorG) (c_is_rooms_line : Cal P w K mg base 2 "_is_rooms_line" spRoomsG) (c_split_lines : Cal P w K mg base 1 "_split_lines" spSplitG) (m_enumerate : mg "enumerate" = none) (m_tuple : mg "tuple" = none) (g_DOORS : ∃ t, mg "DOORS" = some (.int 12 t)) :
    CalX P w K mg base 3 "parse_hall" (spParseH K) := by
  refine ⟨f, fd, ["text"], F.ok (CX := L2.CX P w) sc_parse_hall (fun vs H Q E h => ?_) (fun cdv A outer s H vs Q E hr h => ?_), hm, F.kp, F.bindsN (ps := ["text"]) fun _ _ _ _ _ _ us hl => match us, hl with | [_], _ => rfl⟩
  · obtain ⟨t, rfl, hL, q1, q2⟩ := h
    rfl
  obtain ⟨t, rfl, hL, q1, q2⟩ := h
  have nd := sc_parse_hall.nd
  refine ⟨_, (pss_cons (ps_set (i := 1) nd rfl (Or.inl rfl) (C8.pe_c c_split_lines hr (by omega) (by rfl) (pa_cons (pv 0) pa_nil)))
    (pss_cons (ps_if (pt_not (pt_val (C8.pe_c c_is_rooms_line hr (by omega) (by rfl) (pa_cons (pe_ix (r := rIxL K) ix_list (pv 1) pe_int (fun _ _ => rfl)) pa_nil)))) (pss_one (ps_raise rfl (takes_of rfl rfl rfl rfl) (pmk_errV M_InvalidText hr (by omega) (by rfl) (pa_cons pe_int pa_nil)))) pss_nil)
    (pss_cons (ps_set (i := 2) nd rfl (Or.inl rfl) (pe_callTy (r := rTpOf K) call_tuple_of (by rfl) m_tuple (by decide +kernel) (pa_cons (pe_slice (r := rSlL K) sl_list (pe_ix (r := rIxL K) ix_list (pv 1) pe_int (fun _ _ => rfl)) (po_some pe_int) po_none) pa_nil)))
    (pss_cons (ps_set (i := 3) nd rfl (Or.inl rfl) (pe_lst pa_nil))
    (pss_cons (ps_for (passes_of rfl) rfl (pi_enumS (by rfl) m_enumerate (pa_cons (pe_slice (r := rSlL K) sl_list (pv 1) (po_some pe_int) po_none) pa_nil)) (pg_tup (by rfl) (pgs_cons (pg_name (i := 4) nd rfl (Or.inl rfl)) (pgs_cons (pg_name (i := 5) nd rfl (Or.inl rfl)) pgs_nil))) (pss_cons (ps_setLc (i := 6) (own := [("door", 7)]) (g := (gName 7)) (by rfl) nd rfl rfl (sw_true rfl rfl rfl (by decide +kernel)) (pi_list (pv 3)) (blkOk_by (own := [("door", 7)]) (N := n_parse_hall) (sc := defScope s_parse_hall) (by decide +kernel)) (fun _ _ _ _ _ => (pg_name (i := 7) nd rfl (Or.inl rfl))) (fun _ _ _ _ _ => pts_nil) (fun _ _ _ _ _ => (pe_ix (r := rIxT K) ix_tup (pv 7) pe_int (fun _ _ => rfl))))
    (pss_cons (ps_if (PW.pt (pw_or (pt_cmpR op_gt (pv 4) (pe_gint (by rfl) g_DOORS) (nomark _)) (pw_or1 (pt_not (pt_val (C8.pe_c c_is_door_line hr (by omega) (by rfl) (pa_cons (pv 5) (pa_cons (pv 2) (pa_cons (pv 6) pa_nil))))))))) (pss_one (ps_raise rfl (takes_of rfl rfl rfl rfl) (pmk_errV M_InvalidText hr (by omega) (by rfl) (pa_cons (pv 4) pa_nil)))) pss_nil)
    (pss_one (ps_expr (show PE _ _ (tBM K _ _ _ _) from pe_bm PySem.F.plainAttrs_list PySem.F.slot_list_append PySem.F.type_list_append mt_append (pv 3) (pa_cons (pe_callTy (r := rTpOf K) call_tuple_of (by rfl) m_tuple (by decide +kernel) (pa_cons (pe_slice (r := rSlL K) sl_list (pv 5) (po_some pe_int) po_none) pa_nil)) pa_nil)))))))
    (pss_one (ps_ret (pe_tup (pa_cons (pv 2) (pa_cons (pe_callTy (r := rTpOf K) call_tuple_of (by rfl) m_tuple (by decide +kernel) (pa_cons (pv 3) pa_nil)) pa_nil)))))))))), ?_⟩
  have szb : ∀ {n : Nat}, n ≤ 200000 → n < sizeLine := fun h => Nat.lt_of_le_of_lt h (by decide)
  have W := wOk t
  refine ⟨_, rfl, t, rfl, hL, fun lp as H1 s1 hlp hA => ?_⟩
  have wne := W.ne
  have wln := W.len
  have wok := W.ok
  generalize wordsOf t = ls at q1 q2 hA wne wln wok
  obtain ⟨l0, lt, rfl⟩ : ∃ l0 lt, ls = l0 :: lt := by
    cases ls with
    | nil => exact absurd rfl wne
    | cons l0 lt => exact ⟨l0, lt, rfl⟩
  obtain ⟨a0, at_, rfl⟩ : ∃ a0 at_, as = a0 :: at_ := by
    cases as with
    | nil => exact absurd hA.1 (by simp)
    | cons a0 at_ => exact ⟨a0, at_, rfl⟩
  have ha0 := hA.2 0 a0 _ rfl rfl
  have hat : at_.length = lt.length := by
    have z := hA.1
    rw [List.length_cons, List.length_cons] at z
    omega
  rw [List.length_cons] at wln
  obtain ⟨ne0, ln0, bn0⟩ := wok l0 (List.mem_cons_self ..)
  have e0 : rdH (l0 :: lt) = if rmB l0 then (goH l0.tail 1 [] lt).pre l0.tail [] else .line 0 := rfl
  rw [e0] at q1 q2
  refine ⟨_, rfl, lp, _, _, _, rfl, rfl, SqL.of hlp, atI_nat (j := 0) rfl, a0, l0, rfl, ha0, ne0, by omega, (fun x hx => Nat.le_trans (bn0 x hx) hL), fun H2 s2 => ⟨_, rfl, ?_⟩⟩
  cases hf : rmB l0 with
  | false =>
    rw [hf] at q2
    refine iteT ?_
    exact mk_end_v fun d hd => q2 0 rfl H2 (s1.trans s2) d hd
  | true =>
    rw [hf, if_pos rfl] at q1 q2
    refine iteF ?_
    have l0d : ((l0.map V.str).drop 1) = l0.tail.map V.str := by rw [List.drop_one, List.map_tail]
    have e8 : l0.tail.length ≤ 8 := by
      unfold rmB at hf
      simp only [Bool.and_eq_true, decide_eq_true_eq] at hf
      exact hf.2.1.2
    generalize l0.tail = rooms at q1 q2 l0d e8
    refine ⟨_, rfl, lp, _, _, _, rfl, rfl, SqL.of (s2 _ _ hlp), atI_nat (j := 0) rfl, _, rfl, a0, _, rfl, SqL.of (s2 _ _ ha0), fun p hp => ?_⟩
    rw [cut_from1, l0d]
    have s3 := same_new hp (.lst (rooms.map V.str))
    refine ⟨p, _, rfl, .inl ⟨SqL.of upd_same, fun tt htt => ?_⟩⟩
    have s4 := same_new htt (.tup (rooms.map V.str))
    have ht4 : upd (upd H2 p (.lst (rooms.map V.str))) tt (.tup (rooms.map V.str)) tt = some (.tup (rooms.map V.str)) := upd_same
    have s24 := s3.trans s4
    generalize upd (upd H2 p (.lst (rooms.map V.str))) tt (.tup (rooms.map V.str)) = H4 at s24 ht4 ⊢
    clear s3 s4
    have s14 : Same H1 H4 := s2.trans s24
    -- doors = []
    refine ⟨(by show 0 ≤ sizeLine; decide), fun dp hdp => ?_⟩
    have s5 := same_new hdp (.lst [])
    refine ⟨_, rfl, _, rfl, lp, _, rfl, SqL.of (s5 _ _ (s14 _ _ hlp)), fun sp hsp => ?_⟩
    rw [cut_from1]
    have hdp5 : upd (upd H4 dp (.lst [])) sp (.lst (((a0 :: at_).map V.ref).drop 1)) dp = some (.lst []) := same_new hsp _ _ _ upd_same
    have hsp5 : upd (upd H4 dp (.lst [])) sp (.lst (((a0 :: at_).map V.ref).drop 1)) sp = some (.lst (at_.map V.ref)) := upd_same
    have nsd : sp ≠ dp := fun e => by
      rw [e, upd_same] at hsp
      cases hsp
    have s45 : Same H4 (upd (upd H4 dp (.lst [])) sp (.lst (((a0 :: at_).map V.ref).drop 1))) := s5.trans (same_new hsp _)
    refine ⟨sp, _, rfl, SqL.of upd_same, ?_⟩
    generalize upd (upd H4 dp (.lst [])) sp (.lst (((a0 :: at_).map V.ref).drop 1)) = H5 at s45 hdp5 hsp5 ⊢
    refine for_gen (n := lt.length) (fun i σ' H' => ∃ (v4 v5 v6 : Option V) (das : List Addr) (pl : List (List Str)), σ' = [some (.str t), some (.ref lp), some (.ref tt), some (.ref dp), v4, v5, v6, none] ∧ Same H4 H' ∧
      H' sp = some (.lst (at_.map V.ref)) ∧ H' dp = some (.lst (das.map V.ref)) ∧ RowsAt H' das pl ∧ pl.length = i ∧ (∀ r ∈ pl, r ≠ []) ∧ goH rooms 1 [] lt = (goH rooms (i + 1) (pl.map fun r => r.headD "") (lt.drop i)).pre [] pl)
      ⟨none, none, none, [], [], rfl, s45, hsp5, hdp5, RowsAt.nil, rfl, (fun r hr => by cases hr), by
        show goH rooms 1 [] lt = (goH rooms 1 [] lt).pre [] []
        rw [goH_nil]⟩ (fun i σ' H' hi hP => ?_) (fun σ' H' hP => ?_)
    · obtain ⟨v4, v5, v6, das, pl, rfl, s4', hsp', hdp', hRA, hpl, hpn, hgo⟩ := hP
      have hai : at_[i]? = some (at_[i]'(by omega)) := List.getElem?_eq_getElem (by omega)
      have ex : (at_.map V.ref)[i]? = some (.ref (at_[i]'(by omega))) := by rw [List.getElem?_map, hai]; rfl
      have hri : lt[i]? = some lt[i] := List.getElem?_eq_getElem hi
      have hline : H1 (at_[i]'(by omega)) = some (.lst (lt[i].map V.str)) := hA.2 (i + 1) _ _ (by rw [List.getElem?_cons_succ]; exact hai) (by rw [List.getElem?_cons_succ]; exact hri)
      obtain ⟨nei, lni, bni⟩ := wok _ (List.mem_cons_of_mem _ (List.getElem_mem hi))
      rw [List.drop_eq_getElem_cons hi] at hgo
      refine ⟨⟨_, _, SqL.of hsp', ex⟩, ?_⟩
      rintro _ _ ⟨T, v1, rfl, hT, rfl, f1⟩
      have g1 := (f1 _ (SqL.of hsp')).symm.trans ex
      cases g1
      have sT := same_new hT (.tup [.int (1 + (i : Int)), .ref (at_[i]'(by omega))])
      have hsp6 := sT _ _ hsp'
      have hdp6 := sT _ _ hdp'
      have hRA6 := hRA.tu (Tu.same sT)
      refine ⟨T, _, rfl, SqT.of upd_same, rfl, _, _, rfl, _, _, rfl, rfl, ?_⟩
      have s46 := s4'.trans sT
      generalize upd H' T (.tup [.int (1 + (i : Int)), .ref (at_[i]'(by omega))]) = H6 at hsp6 hdp6 hRA6 s46 ⊢
      have hli := s46 _ _ (s14 _ _ hline)
      have ei : (1 + (i : Int)) = ((i + 1 : Nat) : Int) := by omega
      generalize lt[i] = wd at hline nei bni hgo hli
      -- names
      have hdl : (das.map V.ref).length = pl.length := by rw [List.length_map]; exact hRA6.1
      refine ⟨_, rfl, dp, rfl, ⟨_, SqL.of hdp6⟩, fun D hD => ?_⟩
      have nDd : dp ≠ D := ne_of_none hdp6 hD
      refine lc_list (K := K) (a := dp) (xs := das.map V.ref) (fun j Hy => Hy = upd H6 D (.lst (((pl.take j).map fun r => r.headD "").map V.str))) rfl (fun j Hy _ e => by subst e; exact SqL.of (by rw [upd_ne nDd]; exact hdp6)) (fun j z Hy hz e => ?_) (fun Hy e => ?_)
      · subst e
        obtain ⟨a, r, rfl, hrj, har⟩ := hRA6.row hz
        obtain ⟨r0, rr, er⟩ : ∃ r0 rr, r = r0 :: rr := by
          cases r with
          | nil => exact absurd rfl (hpn _ (List.mem_of_getElem? hrj))
          | cons a b => exact ⟨a, b, rfl⟩
        subst er
        refine ⟨rfl, lcY ?_⟩
        refine ⟨_, rfl, a, _, _, _, rfl, rfl, SqT.of (Tu.new hD _ _ _ har), atI_nat (j := 0) rfl, _, upd_same, ?_, ?_⟩
        · rw [List.length_map, List.length_map, List.length_take]
          exact szb (by omega)
        · rw [upd_upd, take_snoc hrj, List.map_append, List.map_append]
          rfl
      subst e
      rw [hdl, List.take_length]
      have s7 := same_new hD (.lst ((pl.map fun r => r.headD "").map V.str))
      have hD7 : upd H6 D (.lst ((pl.map fun r => r.headD "").map V.str)) D = some (.lst ((pl.map fun r => r.headD "").map V.str)) := upd_same
      have hdp7 := s7 _ _ hdp6
      have hsp7 := s7 _ _ hsp6
      have hRA7 := hRA6.tu (Tu.same s7)
      have s47 := s46.trans s7
      have hli7 := s7 _ _ hli
      generalize upd H6 D (.lst ((pl.map fun r => r.headD "").map V.str)) = H7 at s7 hD7 hdp7 hsp7 hRA7 s47 hli7 ⊢
      refine ⟨_, rfl, _, _, rfl, rfl, _, rfl, ?_⟩
      by_cases h12 : (12 : Int) < 1 + (i : Int)
      · rw [decide_eq_true h12]
        refine iteT (iteT ?_)
        rw [goH_stop (.inl (by omega))] at hgo
        refine ⟨_, rfl, ?_⟩
        rw [ei]
        exact mk_end_v fun d hd => q2 (i + 1) (by rw [hgo]; rfl) H7 ((s1.trans s14).trans s47) d hd
      rw [decide_eq_false h12]
      refine iteF ?_
      refine ⟨_, rfl, _, rfl, _, rfl, _, _, D, wd, rooms, _, rfl, hli7, nei, (fun x hx => Nat.le_trans (bni x hx) hL), s47 _ _ ht4, hD7, fun H8 s8 => ⟨_, rfl, ?_⟩⟩
      cases hw : drB wd (pl.map fun r => r.headD "") rooms with
      | false =>
        refine iteT ?_
        rw [goH_stop (.inr hw)] at hgo
        refine ⟨_, rfl, ?_⟩
        rw [ei]
        exact mk_end_v fun d hd => q2 (i + 1) (by rw [hgo]; rfl) H8 (((s1.trans s14).trans s47).trans s8) d hd
      | true =>
        obtain ⟨n, x, y, rfl⟩ := dr_shape hw
        rw [goH_step (by omega) hw, Rd.pre_pre'] at hgo
        refine iteF ?_
        refine ⟨_, rfl, .inl ⟨rfl, _, SqL.of (s8 _ _ hdp7)⟩, _, rfl, _, rfl, _, _, rfl, SqL.of (s8 _ _ hli7), fun p2 hp2 => ?_⟩
        rw [cut_from1]
        have s9 := same_new hp2 (.lst (([("door" : Str), n, x, y].map V.str).drop 1))
        refine ⟨p2, _, rfl, .inl ⟨SqL.of upd_same, fun t2 ht2 => ?_⟩⟩
        have s10 := same_new ht2 (.tup (([("door" : Str), n, x, y].map V.str).drop 1))
        have s8a := (s8.trans s9).trans s10
        have ht2' : upd (upd H8 p2 (.lst (([("door" : Str), n, x, y].map V.str).drop 1))) t2 (.tup (([("door" : Str), n, x, y].map V.str).drop 1)) t2 = some (.tup (([n, x, y] : List Str).map V.str)) := by rw [upd_same]; rfl
        generalize upd (upd H8 p2 (.lst (([("door" : Str), n, x, y].map V.str).drop 1))) t2 (.tup (([("door" : Str), n, x, y].map V.str).drop 1)) = Ha at s8a ht2' ⊢
        have hdpa := s8a _ _ hdp7
        have hll := hRA7.1
        refine ⟨dp, _, _, rfl, rfl, hdpa, ?_, ?_⟩
        · rw [List.length_map, hll, hpl]
          exact szb (by omega)
        have tum : Tu Ha (upd Ha dp (.lst (das.map V.ref ++ [.ref t2]))) := fun a xs h => by
          rw [upd_ne (fun e => by rw [e, hdpa] at h; cases h)]
          exact h
        have hnm : (pl ++ [[n, x, y]]).map (fun r => r.headD "") = pl.map (fun r => r.headD "") ++ [n] := by rw [List.map_append]; rfl
        refine ⟨_, _, _, das ++ [t2], pl ++ [[n, x, y]], rfl, same_mut (s47.trans s8a) hdp _, ?_, ?_, ?_, ?_, ?_, by rw [hnm]; exact hgo⟩
        · rw [upd_ne nsd]
          exact s8a _ _ hsp7
        · rw [upd_same, List.map_append]
          rfl
        · exact ((hRA7.tu (Tu.same s8a)).tu tum).snoc (tum _ _ ht2')
        · rw [List.length_append, hpl]
          rfl
        · intro r hr
          rcases List.mem_append.mp hr with hr | hr
          · exact hpn r hr
          · rw [List.mem_singleton.mp hr]
            exact List.cons_ne_nil _ _
    · obtain ⟨v4, v5, v6, das, pl, rfl, s4', hsp', hdp', hRA, hpl, hpn, hgo⟩ := hP
      have hatl : (at_.map V.ref).length ≤ lt.length := by rw [List.length_map]; omega
      refine ⟨⟨_, SqL.of hsp', hatl⟩, ?_⟩
      have sl : Same H1 H' := s14.trans s4'
      rw [List.drop_length] at hgo
      have fin : (goH rooms 1 [] lt).pre rooms [] = .data rooms pl := by
        rw [hgo]
        show Rd.data rooms ([] ++ (pl ++ [])) = _
        rw [List.nil_append, List.append_nil]
      refine ⟨_, rfl, _, rfl, dp, _, rfl, .inl ⟨SqL.of hdp', fun t2 ht2 => ⟨(by show 2 ≤ sizeLine; decide), fun t3 ht3 => ?_⟩⟩⟩
      have sf := (same_new ht2 (.tup (das.map V.ref))).trans (same_new ht3 (.tup [.ref tt, .ref t2]))
      exact q1 _ _ fin t3 _ ((s1.trans sl).trans sf) ⟨tt, t2, upd_same, sf _ _ (s4' _ _ ht4), das, same_new ht3 _ _ _ upd_same, hRA.tu (Tu.same sf)⟩
abbrev s_law_hall_text : Stmt := top 20
abbrev n_law_hall_text : List Str := ["hall", "door"]
theorem sc_law_hall_text : FnScope n_law_hall_text ["hall"] (defScope s_law_hall_text) := ⟨rfl, rfl, rfl, by decide +kernel, rfl, by decide +kernel, by decide +kernel⟩
theorem ok_law_hall_text (F : FnP K "_law_hall_text" s_law_hall_text f fd) (hm : mg "_law_hall_text" = some (.ref f)) :
    Cal P w K mg base 1 "_law_hall_text" (spFmt "rooms" "door") := by
  refine cal_of (F.ok sc_law_hall_text (fun vs H Q E h => ?_) (fun cdv A outer s H vs Q E hr h => ?_)) hm F.kp (F.bindsN (ps := ["hall"]) fun _ _ _ _ _ _ us hl => match us, hl with | [_], _ => rfl)
  · obtain ⟨h, ss, rows, rfl, hH, hB, q⟩ := h
    rfl
  obtain ⟨h, ss, rows, rfl, hH, hB, q⟩ := h
  have nd := sc_law_hall_text.nd
  refine ⟨_, PSs.nox (pss_one (ps_ret (show PE _ _ (tM1 (rJn K) _ _) from pe_join pe_str (pe_op op_cat (pe_lst (pa_cons (show PE _ _ (tM1 (rJn K) _ _) from pe_join pe_str (pe_op (r := rCatA K) op_catA (pe_tup (pa_cons pe_str pa_nil)) (pe_ix (r := rIxT K) ix_tup (pv 0) pe_int (fun _ _ => rfl)))) pa_nil)) (pe_lc (own := [("door", 1)]) (g := (gName 1)) (by rfl) nd (pi_tup (pe_ix (r := rIxT K) ix_tup (pv 0) pe_int (fun _ _ => rfl))) (blkOk_by (own := [("door", 1)]) (N := n_law_hall_text) (sc := defScope s_law_hall_text) (by decide +kernel)) (fun _ _ _ _ _ => (pg_name (i := 1) nd rfl (Or.inl rfl))) (fun _ _ _ _ _ => pts_nil) (fun _ _ _ _ _ => (show PE _ _ (tM1 (rJn K) _ _) from pe_join pe_str (pe_op (r := rCatA K) op_catA (pe_tup (pa_cons pe_str pa_nil)) (pv 1))))))))), ?_⟩
  obtain ⟨r, d, h1, h2, as, hd, hRA⟩ := hH
  have s12 := hB.s12
  have r12 := hB.r12
  have hL := hB.ln nm_rooms nm_door
  have hal : (as.map V.ref).length = rows.length := by rw [List.length_map]; exact hRA.1
  refine ⟨⟨_, rfl⟩, ⟨_, rfl⟩, (by show 1 ≤ sizeLine; decide), fun t1 ht1 => ?_⟩
  have s1 := same_new ht1 (.tup [.str "rooms"])
  refine ⟨_, rfl, h, _, _, _, rfl, rfl, SqT.of (s1 _ _ h1), atI_nat (j := 0) rfl, ?_⟩
  refine catA_one upd_same (s1 _ _ h2) (by rw [List.length_map]; omega) fun p H2 s2 hp => ?_
  have s02 := s1.trans s2
  refine ⟨_, p, ("rooms" : Str) :: ss, rfl, rfl, .inr (SqT.of hp), join_sz (hB.first nm_rooms).1 (hB.first nm_rooms).2, ?_⟩
  refine ⟨(by show 1 ≤ sizeLine; decide), fun l1 hl1 => ?_⟩
  have s3 := same_new hl1 (.lst [.str (lineT (("rooms" : Str) :: ss))])
  have hl1' : upd H2 l1 (.lst [.str (lineT (("rooms" : Str) :: ss))]) l1 = some (.lst [.str (lineT (("rooms" : Str) :: ss))]) := upd_same
  have s03 := s02.trans s3
  change ∃ _, _
  generalize upd H2 l1 (.lst [.str (lineT (("rooms" : Str) :: ss))]) = H3 at s3 hl1' s03 ⊢
  refine ⟨_, rfl, h, _, _, _, rfl, rfl, SqT.of (s03 _ _ h1), atI_nat (j := 1) rfl, d, rfl, ⟨_, SqT.of (s03 _ _ hd)⟩, fun D hD => ?_⟩
  refine lc_tup (K := K) (a := d) (xs := as.map V.ref) (fun i Hx => Same H3 Hx ∧ Hx D = some (.lst (((rows.take i).map fun r => lineT (("door" : Str) :: r)).map V.str))) ⟨same_new hD _, upd_same⟩ (fun i Hx _ ⟨sx, _⟩ => SqT.of (sx _ _ (s03 _ _ hd))) (fun i x Hx hx ⟨sx, hDx⟩ => ?_) (fun Hx ⟨sx, hDx⟩ => ?_)
  · obtain ⟨a, r', rfl, hri, har⟩ := hRA.row hx
    have hil : i < rows.length := (List.getElem?_eq_some_iff.mp hri).1
    have hm := List.mem_of_getElem? hri
    have hb := hB.rn r' hm
    refine ⟨rfl, lcY ?_⟩
    refine ⟨⟨_, rfl⟩, (by show 1 ≤ sizeLine; decide), fun t2 ht2 => ⟨_, rfl, ?_⟩⟩
    have s4 := same_new ht2 (.tup [.str "door"])
    refine catA_one upd_same (s4 _ _ (sx _ _ (s03 _ _ har))) (by rw [List.length_map]; omega) fun p2 H5 s5 hp2 => ?_
    refine ⟨_, p2, ("door" : Str) :: r', rfl, rfl, .inr (SqT.of hp2), join_sz (hB.row nm_door hm).1 (hB.row nm_door hm).2, _, s5 _ _ (s4 _ _ hDx), ?_, same_mut ((sx.trans s4).trans s5) hD _, ?_⟩
    · rw [List.length_map, List.length_map, List.length_take]
      exact sz100 (by omega)
    · rw [upd_same, take_snoc hri, List.map_append, List.map_append]
      rfl
  rw [hal, List.take_length] at hDx
  have n1D : l1 ≠ D := ne_of_none hl1' hD
  refine ⟨l1, D, _, _, rfl, rfl, sx _ _ hl1', hDx, ?_, fun lp hlp => ?_⟩
  · rw [List.length_map, List.length_map]
    exact Nat.le_of_lt (sz100 (show 1 + rows.length ≤ 1000 by omega))
  have el : [V.str (lineT (("rooms" : Str) :: ss))] ++ (rows.map fun r => lineT (("door" : Str) :: r)).map V.str = ((lnOf "rooms" "door" ss rows).map lineT).map V.str := by
    have e0 : (rows.map fun r => lineT (("door" : Str) :: r)).map V.str = ((rows.map (("door" : Str) :: ·)).map lineT).map V.str := by rw [List.map_map, List.map_map, List.map_map]; rfl
    rw [List.singleton_append, e0]
    rfl
  rw [el]
  refine ⟨_, lp, (lnOf "rooms" "door" ss rows).map lineT, rfl, rfl, .inl (SqL.of upd_same), text_sz hL, ?_⟩
  exact q _ ((s03.trans sx).trans (same_new hlp _))
end
end Td
set_option maxHeartbeats 4000000
namespace Td
open PySem PySem.Spec PyProof.Rows L2
section
variable {P : Program} {w : World} {K : PySem.W.Frag} {mg : Str → Option Value} {base : Heap} {f : Addr} {fd : FuncData}
abbrev s_told : Stmt := top 22
abbrev n_told : List Str := ["text", "found", "e"]
theorem sc_told : FnScope n_told ["text"] (defScope s_told) := ⟨rfl, rfl, rfl, by decide +kernel, rfl, by decide +kernel, by decide +kernel⟩
theorem dr_line {H : Hp} {w : Str} {tt : Addr} {k : Nat} (h : H tt = some (.tup [.str "line", .int (k : Int)])) : DR H 5 (.ref tt) (dRd w (.line k)) := by
  refine .inr ⟨tt, _, _, rfl, rfl, h, ⟨rfl, by show 2 ≤ 1000; decide⟩, fun j v e a1 a2 => .inl ?_⟩
  match j with
  | 0 => cases a1; cases a2; exact .inl ⟨_, rfl, rfl⟩
  | 1 => cases a1; cases a2; exact .inr (.inr (.inl ⟨_, rfl, rfl⟩))
  | j + 2 => cases a1
theorem dr_data {H : Hp} {w : Str} {tt p : Addr} {ss : List Str} {rows : List (List Str)} (h : H tt = some (.tup [.str w, .ref p])) (d : DR H 4 (.ref p) (hsD ss rows)) : DR H 5 (.ref tt) (dRd w (.data ss rows)) := by
  refine .inr ⟨tt, _, _, rfl, rfl, h, ⟨rfl, by show 2 ≤ 1000; decide⟩, fun j v e a1 a2 => ?_⟩
  match j with
  | 0 => cases a1; cases a2; exact .inl (.inl ⟨_, rfl, rfl⟩)
  | 1 => cases a1; cases a2; exact d
  | j + 2 => cases a1
/-- such data, with few rows -/
theorem dr_hs {H : Hp} {h : Addr} {ss : List Str} {rows : List (List Str)} (x : HS H h ss rows) (h1 : ss.length ≤ 1000) (h2 : rows.length ≤ 1000) (h3 : ∀ r ∈ rows, r.length ≤ 1000) : DR H 4 (.ref h) (hsD ss rows) := by
  obtain ⟨r, d, e1, e2, as, e3, hR⟩ := x
  have str_ : ∀ {n : Nat} {l : List Str} (_ : l.length ≤ 1000) {a : Addr} (_ : H a = some (.tup (l.map V.str))), DR H (n + 2) (.ref a) (sD l) := fun {n l} hl a ha => by
    refine .inr ⟨a, _, _, rfl, rfl, ha, ⟨by rw [List.length_map, List.length_map], by rw [List.length_map]; exact hl⟩, fun i v e a1 a2 => .inl ?_⟩
    rw [List.getElem?_map] at a1 a2
    cases z : l[i]? with
    | none => rw [z] at a1; cases a1
    | some y => rw [z] at a1 a2; cases a1; cases a2; exact .inl ⟨y, rfl, rfl⟩
  refine .inr ⟨h, _, _, rfl, rfl, e1, ⟨rfl, by show 2 ≤ 1000; decide⟩, fun j v e a1 a2 => ?_⟩
  match j with
  | 0 => cases a1; cases a2; exact str_ h1 e2
  | 1 =>
    cases a1; cases a2
    refine .inr ⟨d, _, _, rfl, rfl, e3, ⟨by rw [List.length_map, List.length_map]; exact hR.1, by rw [List.length_map]; exact h2⟩, fun i v e a1 a2 => ?_⟩
    rw [List.getElem?_map] at a1 a2
    cases z : as[i]? with
    | none => rw [z] at a1; cases a1
    | some a =>
      cases y : rows[i]? with
      | none => rw [y] at a2; cases a2
      | some l =>
        rw [z] at a1
        rw [y] at a2
        cases a1; cases a2
        exact str_ (h3 l (List.mem_of_getElem? y)) (hR.2 i a l z y)
  | j + 2 => cases a1
theorem ok_told (F : FnP K "_law_told" s_told f fd) (hm : mg "_law_told" = some (.ref f)) (c_parse_hall : CalX P w K mg base 3 "parse_hall" (spParseH K)) (MV : ErrMV P w K mg base "InvalidText" "line") : Cal P w K mg base 4 "_law_told" spReadH := by
  refine cal_of (F.ok sc_told (fun vs H Q E h => ?_) (fun cdv A outer s H vs Q E hr h => ?_)) hm F.kp (F.bindsN (ps := ["text"]) fun _ _ _ _ _ _ us hl => match us, hl with | [_], _ => rfl)
  · obtain ⟨t, rfl, hL, q⟩ := h
    rfl
  obtain ⟨t, rfl, hL, q⟩ := h
  have nd := sc_told.nd
  refine ⟨_, (pss_cons (ps_set (i := 1) nd rfl (Or.inl rfl) (pe_tup (pa_cons pe_str (pa_cons pe_int pa_nil))))
    (pss_cons (ps_try_seq (tb := fun W => tAsg (tTup (tCons (tC (.str "hall")) (tCons (tCallS (spParseH K) (WE W) (tCons (tVar 0) tNil)) tNil))) (gName 1)) rfl rfl nd
      (fun W pn xe tk _ => pss_one (ps_set (i := 1) nd rfl (Or.inl rfl) (pe_tup (pa_cons pe_str (pa_cons (pe_cX c_parse_hall hr (by omega) (fun σ => passAt tk σ) (by rfl) (pa_cons (pv 0) pa_nil)) pa_nil)))))
      (.cons (i := 2) ⟨by rfl, by decide, Or.inl MV.g⟩ rfl rfl (fun a oe cls d pn hz hf => pss_one (ps_set (i := 1) nd rfl (Or.inl rfl) (pe_tup (pa_cons pe_str (pa_cons (pe_xf MV.t.xf MV.t.no hz hf (pv 2)) pa_nil))))) (.any _)))
    (pss_one (ps_ret (pv 1))))), ?_⟩
  refine ⟨(by show 2 ≤ sizeLine; decide), fun p0 hp0 => ?_⟩
  have s0 := same_new hp0 (.tup [.str "other", .int 0])
  generalize upd H p0 (.tup [.str "other", .int 0]) = H0 at s0 ⊢
  refine ⟨_, rfl, t, rfl, hL, fun ss pl he p H' s' hp => ?_, fun k hk H' s' d hd => ?_⟩
  · refine ⟨(by show 2 ≤ sizeLine; decide), fun tt htt => ⟨_, rfl, ?_⟩⟩
    have st := same_new htt (.tup [.str "hall", .ref p])
    refine q tt _ ((s0.trans s').trans st) ?_
    rw [he]
    obtain ⟨z1, z2, z3⟩ := rdH_data he
    exact dr_data upd_same (dr_hs (hp.tu (Tu.same st)) (by omega) (by omega) z3)
  · refine .inl ⟨MV.t.me, fun a ha => ?_⟩
    refine ⟨_, rfl, rfl, rfl, d, _, .int (k : Nat), rfl, upd_same, by simp [List.lookup], (by show 2 ≤ sizeLine; decide), fun tt htt => ⟨_, rfl, ?_⟩⟩
    refine q tt _ (((s0.trans s').trans (same_new hd _)).trans (same_new htt _)) ?_
    rw [hk]
    exact dr_line upd_same
end
end Td
set_option maxHeartbeats 4000000
namespace Td
open PySem PySem.Spec PyProof.Rows L2
section
variable {P : Program} {w : World} {K : PySem.W.Frag} {mg : Str → Option Value} {base : Heap} {f : Addr} {fd : FuncData}
theorem lettersL : ("abcdefghijklmnopqrstuvwxyz" : Str).cps.toList = List.range' 97 26 := by decide +kernel
theorem letter_iff (c : Nat) : (!decide (c ∈ ("abcdefghijklmnopqrstuvwxyz" : Str).cps.toList)) = !(decide (97 ≤ c) && decide (c ≤ 122)) := by
  rw [lettersL]
  by_cases h : 97 ≤ c ∧ c ≤ 122
  · rw [decide_eq_true (List.mem_range'.mpr ⟨c - 97, by omega, by omega⟩), decide_eq_true h.1, decide_eq_true h.2]
    rfl
  · have n : ¬ c ∈ List.range' 97 26 := fun z => by
      obtain ⟨i, h1, h2⟩ := List.mem_range'.mp z
      exact h ⟨by omega, by omega⟩
    rw [decide_eq_false n]
    by_cases h1 : 97 ≤ c
    · rw [decide_eq_false (fun z => h ⟨h1, z⟩), Bool.and_false]
    · rw [decide_eq_false h1, Bool.false_and]
def badC (c : Nat) : Bool := !(decide (97 ≤ c) && decide (c ≤ 122))
abbrev s_law_is_name : Stmt := top 19
abbrev n_law_is_name : List Str := ["text", "letters", "sign"]
theorem sc_law_is_name : FnScope n_law_is_name ["text"] (defScope s_law_is_name) := ⟨rfl, rfl, rfl, by decide +kernel, rfl, by decide +kernel, by decide +kernel⟩
theorem ok_law_is_name (F : FnP K "_law_is_name" s_law_is_name f fd) (hm : mg "_law_is_name" = some (.ref f)) (m_len : mg "len" = none) :
    Cal P w K mg base 1 "_law_is_name" spLawNm := by
  refine cal_of (F.ok sc_law_is_name (fun vs H Q E h => ?_) (fun cdv A outer s H vs Q E hr h => ?_)) hm F.kp (F.bindsN (ps := ["text"]) fun _ _ _ _ _ _ us hl => match us, hl with | [_], _ => rfl)
  · obtain ⟨x, rfl, hl, q⟩ := h
    rfl
  obtain ⟨x, rfl, hl, q⟩ := h
  have nd := sc_law_is_name.nd
  refine ⟨_, PSs.nox (pss_cons (ps_set (i := 1) nd rfl (Or.inr rfl) pe_str)
    (pss_one (ps_ret (pe_and (pe_chain op_lt op_lt pe_int (pe_callB call_len_str (by rfl) m_len PySem.boot_len (pa_cons (pv 0) pa_nil)) pe_int) (pe_one (pe_cmpR (r := rEqE K) (op_eqE hr.units) (pe_lc (own := [("sign", 2)]) (g := (gName 2)) (by rfl) nd (pi_str (pv 0)) (blkOk_by (own := [("sign", 2)]) (N := n_law_is_name) (sc := defScope s_law_is_name) (by decide +kernel)) (fun _ _ _ _ _ => (pg_name (i := 2) nd rfl (Or.inl rfl))) (fun _ _ _ _ _ => (pts_one (pt_cmpR op_notIn_sign (pv 2) (pv 1) (by rfl)))) (fun _ _ _ _ _ => (pv 2))) (pe_lst pa_nil) (nomark _))))))), ?_⟩
  have no : ¬ (1 ≤ x.length ∧ x.length ≤ 6) → Q (.bl false) H := fun h => by
    have e : decide (Nm x) = false := decide_eq_false fun z => h ⟨z.1, z.2.1⟩
    have z := q H (Same.refl H)
    rw [e] at z
    exact z
  refine ⟨_, rfl, x, rfl, Nat.le_trans hl (by decide), _, _, rfl, rfl, _, rfl, ?_⟩
  by_cases g1 : (0 : Int) < (x.length : Int)
  · rw [decide_eq_true g1]
    refine iteT ⟨_, _, rfl, rfl, _, rfl, ?_⟩
    by_cases g2 : (x.length : Int) < 7
    · rw [decide_eq_true g2]
      refine iteT ?_
      have hx : x.cps.size ≤ 6 := by
        have e : x.length = x.cps.size := rfl
        omega
      refine ⟨_, rfl, _, rfl, fun D hD => ?_⟩
      refine lc_gen (n := x.cps.size) (fun i Hx => Hx = upd H D (.lst (((x.cps.toList.take i).filter badC).map fun c => V.str ⟨#[c]⟩))) rfl (fun i Hx hi e => ⟨hi, ?_⟩) (fun Hx e => ⟨Nat.le_refl _, ?_⟩)
      · rintro _ _ ⟨rfl, c, hc, rfl⟩
        subst e
        have hc2 : x.cps.toList[i]? = some c := by rw [Array.getElem?_toList]; exact hc
        refine ⟨rfl, ?_⟩
        refine ⟨_, rfl, _, rfl, c, _, rfl, rfl, _, rfl, ?_⟩
        rw [letter_iff]
        have step : (x.cps.toList.take (i + 1)).filter badC = (x.cps.toList.take i).filter badC ++ [c].filter badC := by rw [take_snoc hc2, List.filter_append]
        cases hb : badC c with
        | true =>
          have hb' : (!(decide (97 ≤ c) && decide (c ≤ 122))) = true := hb
          rw [hb']
          refine iteT ⟨_, rfl, _, upd_same, ?_, ?_⟩
          · rw [List.length_map]
            exact sz100 (Nat.le_trans (List.length_filter_le _ _) (by rw [List.length_take]; omega))
          · rw [upd_upd, step, List.filter_cons_of_pos hb, List.map_append]
            rfl
        | false =>
          have hb' : (!(decide (97 ≤ c) && decide (c ≤ 122))) = false := hb
          rw [hb']
          refine iteF ?_
          rw [step, List.filter_cons_of_neg (by rw [hb]; exact Bool.false_ne_true), List.filter_nil, List.append_nil]
      · subst e
        have s1 := same_new hD (.lst (((x.cps.toList.take x.cps.size).filter badC).map fun c => V.str ⟨#[c]⟩))
        refine ⟨(by show 0 ≤ sizeLine; decide), fun e0 he0 => ?_⟩
        refine ⟨D, e0, _, rfl, rfl, SqL.of (same_new he0 _ _ _ upd_same), SqL.of upd_same, ?_⟩
        have e1 : x.cps.toList.take x.cps.size = x.cps.toList := List.take_of_length_le (by rw [Array.length_toList]; exact Nat.le_refl _)
        have et : (((x.cps.toList.take x.cps.size).filter badC).map fun c => V.str ⟨#[c]⟩).isEmpty = decide (Nm x) := by
          rw [e1]
          by_cases h : ∀ c ∈ x.cps.toList, 97 ≤ c ∧ c ≤ 122
          · have hn : Nm x := ⟨by omega, by omega, h⟩
            have ef : x.cps.toList.filter badC = [] := List.filter_eq_nil_iff.mpr fun c hc => by
              obtain ⟨h1, h2⟩ := h c hc
              unfold badC
              rw [decide_eq_true h1, decide_eq_true h2]
              decide
            rw [decide_eq_true hn, ef]
            rfl
          · have hn : ¬ Nm x := fun z => h z.2.2
            rw [decide_eq_false hn]
            cases hf : x.cps.toList.filter badC with
            | cons a r => rfl
            | nil =>
              refine absurd (fun c hc => ?_) h
              have z := List.filter_eq_nil_iff.mp hf c hc
              unfold badC at z
              simp only [Bool.not_eq_true', Bool.not_eq_false, Bool.and_eq_true, decide_eq_true_eq] at z
              exact z
        rw [et]
        exact q _ (s1.trans (same_new he0 _))
    · rw [decide_eq_false g2]
      exact iteF (no fun z => g2 (by omega))
  · rw [decide_eq_false g1]
    refine iteF ⟨_, rfl, ?_⟩
    exact iteF (no fun z => g1 (by omega))
abbrev s_law_read : Stmt := top 21
abbrev n_law_read : List Str := ["text", "listed", "lines", "known", "k", "words", "line", "name", "door"]
theorem sc_law_read : FnScope n_law_read ["text"] (defScope s_law_read) := ⟨rfl, rfl, rfl, by decide +kernel, rfl, by decide +kernel, by decide +kernel⟩
theorem ok_law_read (F : FnP K "_law_read" s_law_read f fd) (hm : mg "_law_read" = some (.ref f)) (c_law_is_name : Cal P w K mg base 1 "_law_is_name" spLawNm) (m_enumerate : mg "enumerate" = none) (m_len : mg "len" = none) (m_tuple : mg "tuple" = none) :
    Cal P w K mg base 2 "_law_read" spReadH := by
  refine cal_of (F.ok sc_law_read (fun vs H Q E h => ?_) (fun cdv A outer s H vs Q E hr h => ?_)) hm F.kp (F.bindsN (ps := ["text"]) fun _ _ _ _ _ _ us hl => match us, hl with | [_], _ => rfl)
  · obtain ⟨t, rfl, hL, q⟩ := h
    rfl
  obtain ⟨t, rfl, hL, q⟩ := h
  have nd := sc_law_read.nd
  refine ⟨_, PSs.nox (pss_cons (ps_par (i := 2) (j := 3) (by rfl) nd rfl rfl (by decide) rfl rfl (pa_cons (pe_lc (own := [("line", 6)]) (g := (gName 6)) (by rfl) nd (pi_list (pe_split (pv 0) pe_str)) (blkOk_by (own := [("line", 6)]) (N := n_law_read) (sc := defScope s_law_read) (by decide +kernel)) (fun _ _ _ _ _ => (pg_name (i := 6) nd rfl (Or.inl rfl))) (fun _ _ _ _ _ => pts_nil) (fun _ _ _ _ _ => (pe_split (pv 6) pe_str))) (pa_cons (pe_lst pa_nil) pa_nil)) (by rfl))
    (pss_cons (ps_set (i := 1) nd rfl (Or.inr rfl) (pe_slice (r := rSlL K) sl_list (pe_ix (r := rIxL K) ix_list (pv 2) pe_int (fun _ _ => rfl)) (po_some pe_int) po_none))
    (pss_cons (ps_if (PW.pt (pw_or (pt_cmpR op_ne (pe_ix (r := rIxL K) ix_list (pe_ix (r := rIxL K) ix_list (pv 2) pe_int (fun _ _ => rfl)) pe_int (fun _ _ => rfl)) pe_str (nomark _)) (pw_or1 (pt_not (pt_chain op_lt op_lt pe_int (pe_callB (r := rLn K) call_len_seq (by rfl) m_len PySem.boot_len (pa_cons (pv 1) pa_nil)) pe_int))))) (pss_one (ps_ret (pe_tup (pa_cons pe_str (pa_cons pe_int pa_nil))))) pss_nil)
    (pss_cons (ps_if (pt_cmpR (r := rNeE K) (op_neE hr.units) (pe_lc (own := [("name", 7)]) (g := (gName 7)) (by rfl) nd (pi_list (pv 1)) (blkOk_by (own := [("name", 7)]) (N := n_law_read) (sc := defScope s_law_read) (by decide +kernel)) (fun _ _ _ _ _ => (pg_name (i := 7) nd rfl (Or.inl rfl))) (fun _ _ _ _ _ => (pts_one (PW.pt (pw_or (pt_not (pt_val (C8.pe_c c_law_is_name hr (by omega) (by rfl) (pa_cons (pv 7) pa_nil)))) (pw_or1 (pt_cmpR op_gt (show PE _ _ (tBM K _ _ _ _) from pe_bm PySem.F.plainAttrs_list PySem.F.slot_list_count PySem.F.type_list_count (r := rCntS K) mt_countS (pv 1) (pa_cons (pv 7) pa_nil)) pe_int (nomark _))))))) (fun _ _ _ _ _ => (pv 7))) (pe_lst pa_nil) (nomark _)) (pss_one (ps_ret (pe_tup (pa_cons pe_str (pa_cons pe_int pa_nil))))) pss_nil)
    (pss_cons (ps_for PassesOwn.never rfl (pi_enum (by rfl) m_enumerate (pa_cons (pv 2) pa_nil)) (pg_tup (by rfl) (pgs_cons (pg_name (i := 4) nd rfl (Or.inl rfl)) (pgs_cons (pg_name (i := 5) nd rfl (Or.inl rfl)) pgs_nil))) (pss_one (ps_if (pt_cmpR op_gt (pv 4) pe_int (nomark _)) (pss_cons (ps_if (PW.pt (pw_or (pt_cmpR op_ne (pe_callB (r := rLn K) call_len_seq (by rfl) m_len PySem.boot_len (pa_cons (pv 5) pa_nil)) pe_int (nomark _)) (pw_or (pt_cmpR op_ne (pe_ix (r := rIxL K) ix_list (pv 5) pe_int (fun _ _ => rfl)) pe_str (nomark _)) (pw_or (pt_not (pt_val (C8.pe_c c_law_is_name hr (by omega) (by rfl) (pa_cons (pe_ix (r := rIxL K) ix_list (pv 5) pe_int (fun _ _ => rfl)) pa_nil)))) (pw_or1 (pt_cmpR op_eq (pe_callB (r := rLn K) call_len_seq (by rfl) m_len PySem.boot_len (pa_cons (pv 3) pa_nil)) pe_int (nomark _))))))) (pss_one (ps_ret (pe_tup (pa_cons pe_str (pa_cons (pv 4) pa_nil))))) pss_nil)
    (pss_cons (ps_if (PW.pt (pw_or (pt_cmpR (r := rIn K false) op_in_seq (pe_ix (r := rIxL K) ix_list (pv 5) pe_int (fun _ _ => rfl)) (pe_lc (own := [("door", 8)]) (g := (gName 8)) (by rfl) nd (pi_list (pv 3)) (blkOk_by (own := [("door", 8)]) (N := n_law_read) (sc := defScope s_law_read) (by decide +kernel)) (fun _ _ _ _ _ => (pg_name (i := 8) nd rfl (Or.inl rfl))) (fun _ _ _ _ _ => pts_nil) (fun _ _ _ _ _ => (pe_ix (r := rIxT K) ix_tup (pv 8) pe_int (fun _ _ => rfl)))) (by rfl)) (pw_or1 (pt_cmpR op_eq (pe_ix (r := rIxL K) ix_list (pv 5) pe_int (fun _ _ => rfl)) (pe_ix (r := rIxL K) ix_list (pv 5) pe_int (fun _ _ => rfl)) (nomark _))))) (pss_one (ps_ret (pe_tup (pa_cons pe_str (pa_cons (pv 4) pa_nil))))) pss_nil)
    (pss_cons (ps_if (PW.pt (pw_or (pt_cmpR (r := rIn K true) op_notIn_seq (pe_ix (r := rIxL K) ix_list (pv 5) pe_int (fun _ _ => rfl)) (pv 1) (by rfl)) (pw_or1 (pt_cmpR (r := rIn K true) op_notIn_seq (pe_ix (r := rIxL K) ix_list (pv 5) pe_int (fun _ _ => rfl)) (pv 1) (by rfl))))) (pss_one (ps_ret (pe_tup (pa_cons pe_str (pa_cons (pv 4) pa_nil))))) pss_nil)
    (pss_one (ps_expr (show PE _ _ (tBM K _ _ _ _) from pe_bm PySem.F.plainAttrs_list PySem.F.slot_list_append PySem.F.type_list_append mt_append (pv 3) (pa_cons (pe_callTy (r := rTpOf K) call_tuple_of (by rfl) m_tuple (by decide +kernel) (pa_cons (pe_slice (r := rSlL K) sl_list (pv 5) (po_some pe_int) po_none) pa_nil)) pa_nil))))))) pss_nil)))
    (pss_one (ps_ret (pe_tup (pa_cons pe_str (pa_cons (pe_tup (pa_cons (pe_callTy (r := rTpOf K) call_tuple_of (by rfl) m_tuple (by decide +kernel) (pa_cons (pv 1) pa_nil)) (pa_cons (pe_callTy (r := rTpOf K) call_tuple_of (by rfl) m_tuple (by decide +kernel) (pa_cons (pv 3) pa_nil)) pa_nil))) pa_nil)))))))))), ?_⟩
  have W := wOk t
  have big : ∀ {n : Nat}, n ≤ 200000 → n ≤ sizeLine := fun h => Nat.le_trans h (by decide)
  have szb : ∀ {n : Nat}, n ≤ 200000 → n < sizeLine := fun h => Nat.lt_of_le_of_lt h (by decide)
  have wl : (wordsOf t).length = (linesT t).length := List.length_map _
  have ln := W.len
  refine ⟨_, rfl, ⟨_, rfl⟩, _, _, rfl, rfl, (by decide), big (by omega), fun p hp => ?_⟩
  have s1 := same_new hp (.lst ((linesT t).map V.str))
  have hp1 : (upd H p (.lst ((linesT t).map V.str))) p = some (.lst ((linesT t).map V.str)) := upd_same
  refine ⟨p, rfl, ⟨_, SqL.of upd_same⟩, fun D hD => ?_⟩
  replace hD : upd H p (.lst ((linesT t).map V.str)) D = none := hD
  show ∃ W : Nat → Nat → Hp → Prop, (∃ m, W 0 m (upd (upd H p (.lst ((linesT t).map V.str))) D (.lst []))) ∧ _
  generalize upd H p (.lst ((linesT t).map V.str)) = H1 at s1 hp1 hD ⊢
  have hml : ((linesT t).map V.str).length = (linesT t).length := List.length_map _
  refine lc_list (K := K) (a := p) (xs := (linesT t).map V.str) (fun i Hx => Same H1 Hx ∧ ∃ as : List Addr, Hx D = some (.lst (as.map V.ref)) ∧ LinesAt Hx as ((wordsOf t).take i) ∧ D ∉ as) ⟨same_new hD _, [], upd_same, ⟨rfl, fun i a l e => by cases e⟩, by simp⟩
    (fun i Hx _ ⟨sx, _⟩ => SqL.of (sx _ _ hp1)) (fun i x Hx hx ⟨sx, as, hDx, hLs, nD⟩ => ?_) (fun Hx ⟨sx, as, hDx, hLs, nD⟩ => ?_)
  · obtain ⟨y, hy, rfl⟩ := str_at hx
    have hil : i < (linesT t).length := (List.getElem?_eq_some_iff.mp hy).1
    have hl : (wordsOf t)[i]? = some (wordsL y) := by
      unfold wordsOf
      rw [List.getElem?_map, hy]
      rfl
    have yl : y.length ≤ t.length := by
      have e1 := tot_mem (List.mem_of_getElem? hy)
      have e2 := (linesT_tot t).2
      omega
    refine ⟨rfl, lcY ?_⟩
    refine ⟨_, rfl, ⟨_, rfl⟩, _, _, rfl, rfl, (by decide), big (by omega), fun a ha => ?_⟩
    show ∃ acc, upd Hx a (.lst ((wordsL y).map V.str)) D = some (.lst acc) ∧ _
    have naD : D ≠ a := ne_of_none hDx ha
    have hll := hLs.1
    rw [List.length_take, Nat.min_eq_left (by omega)] at hll
    refine ⟨_, same_new ha _ _ _ hDx, ?_, same_mut (sx.trans (same_new ha _)) hD _, as ++ [a], ?_, ?_, ?_⟩
    · rw [List.length_map, hll]
      exact szb (by omega)
    · rw [upd_same, List.map_append]
      rfl
    · rw [take_snoc hl]
      have hl2 := hLs.1
      refine ⟨by rw [List.length_append, List.length_append, hl2]; rfl, fun j b k e1 e2 => ?_⟩
      by_cases hj : j < as.length
      · rw [List.getElem?_append_left hj] at e1
        rw [List.getElem?_append_left (by omega)] at e2
        rw [upd_ne (fun e => nD (by rw [← e]; exact List.mem_of_getElem? e1))]
        exact same_new ha _ _ _ (hLs.2 j b k e1 e2)
      · rw [List.getElem?_append_right (by omega)] at e1 e2
        have hj2 : j = as.length := by
          have z := (List.getElem?_eq_some_iff.mp e1).1
          rw [List.length_singleton] at z
          omega
        subst hj2
        rw [Nat.sub_self] at e1
        rw [hl2, Nat.sub_self] at e2
        cases e1
        cases e2
        rw [upd_ne naD.symm]
        exact upd_same
    · intro hm
      rcases List.mem_append.mp hm with hm | hm
      · exact nD hm
      · exact naD (List.mem_singleton.mp hm)
  rw [hml, ← wl, List.take_length] at hLs
  have s1x := s1.trans sx
  clear hp1 s1 sx hD
  have wne := W.ne
  have wok := W.ok
  generalize wordsOf t = ls at hLs wne wok ln q wl
  obtain ⟨l0, lt, rfl⟩ : ∃ l0 lt, ls = l0 :: lt := by
    cases ls with
    | nil => exact absurd rfl wne
    | cons l0 lt => exact ⟨l0, lt, rfl⟩
  obtain ⟨a0, at_, rfl⟩ : ∃ a0 at_, as = a0 :: at_ := by
    cases as with
    | nil => exact absurd hLs.1 (by simp)
    | cons a0 at_ => exact ⟨a0, at_, rfl⟩
  have ha0 := hLs.2 0 a0 _ rfl rfl
  obtain ⟨ne0, ln0, bn0⟩ := wok l0 (List.mem_cons_self ..)
  obtain ⟨k0, listed, rfl⟩ : ∃ k0 listed, l0 = k0 :: listed := by
    cases l0 with
    | nil => exact absurd rfl ne0
    | cons a b => exact ⟨a, b, rfl⟩
  rw [List.length_cons] at ln ln0
  have e0 : rdH ((k0 :: listed) :: lt) = if rmB (k0 :: listed) then (goH listed 1 [] lt).pre listed [] else .line 0 := rfl
  rw [e0] at q
  refine ⟨(by show 0 ≤ sizeLine; decide), fun pp hpp => ⟨_, _, rfl, ?_⟩⟩
  have nHp : H pp = none := by
    cases z : H pp with
    | none => rfl
    | some o =>
      have y := s1x _ _ z
      rw [hpp] at y
      cases y
  have s2 := same_new hpp (.lst [])
  have npD : D ≠ pp := ne_of_none hDx hpp
  have hDx2 := s2 _ _ hDx
  have ha02 := s2 _ _ ha0
  have hpp2 : upd Hx pp (.lst []) pp = some (.lst []) := upd_same
  have hLs2 := hLs.same s2
  have s12 := s1x.trans s2
  clear s2 hLs ha0 hDx s1x
  generalize upd Hx pp (.lst []) = H2 at hDx2 ha02 hpp2 hLs2 s12 ⊢
  refine ⟨_, rfl, D, _, _, _, rfl, rfl, SqL.of hDx2, atI_nat (j := 0) rfl, _, rfl, a0, _, rfl, SqL.of ha02, fun fp hfp => ?_⟩
  rw [cut_from1]
  have hll : (((k0 :: listed).map V.str).drop 1) = listed.map V.str := rfl
  rw [hll]
  have s3 := same_new hfp (.lst (listed.map V.str))
  have hfp3 : upd H2 fp (.lst (listed.map V.str)) fp = some (.lst (listed.map V.str)) := upd_same
  have nfp : fp ≠ pp := fun z => by
    rw [z, hpp2] at hfp
    cases hfp
  have hDx3 := s3 _ _ hDx2
  have ha03 := s3 _ _ ha02
  have hpp3 := s3 _ _ hpp2
  have hLs3 := hLs2.same s3
  have s13 := s12.trans s3
  clear hDx2 ha02 hLs2 s12 s3
  generalize upd H2 fp (.lst (listed.map V.str)) = H3 at hfp3 hDx3 ha03 hpp3 hLs3 s13 ⊢
  have hfl : (listed.map V.str).length = listed.length := List.length_map _
  have stop : ∀ (Hy : Hp) (k : Nat) (i : Int), i = (k : Int) → Same H Hy → (if rmB (k0 :: listed) then (goH listed 1 [] lt).pre listed [] else .line 0) = .line k → ∀ tt, Hy tt = none → Q (.ref tt) (upd Hy tt (.tup [.str "line", .int i])) := fun Hy k i hi sy hk tt htt => by
    subst hi
    rw [hk] at q
    exact q tt _ (sy.trans (same_new htt _)) (dr_line upd_same)
  refine ⟨_, rfl, D, _, _, _, rfl, rfl, SqL.of hDx3, atI_nat (j := 0) rfl, a0, _, _, _, rfl, rfl, SqL.of ha03, atI_nat (j := 0) rfl, rfl, _, rfl, ?_⟩
  by_cases hk : k0 = "rooms"
  case neg =>
    rw [neF (fun z => hk (by injection z))]
    have nf : rmB (k0 :: listed) = false := by
      unfold rmB
      rw [decide_eq_false (show ¬ (k0 :: listed).headD "" = "rooms" from hk)]
      rfl
    refine iteT (iteT ?_)
    exact ⟨(by show 2 ≤ sizeLine; decide), fun tt htt => stop H3 0 0 rfl s13 (by rw [nf]; rfl) tt htt⟩
  subst hk
  refine iteNS rfl ?_
  have lenN : ¬ (1 ≤ listed.length ∧ listed.length ≤ 8) → rmB ("rooms" :: listed) = false := fun h => by
    unfold rmB
    rw [decide_eq_false (show ¬ (1 ≤ (("rooms" : Str) :: listed).tail.length ∧ (("rooms" : Str) :: listed).tail.length ≤ 8) from h)]
    simp
  refine ⟨_, rfl, fp, _, rfl, .inl (SqL.of hfp3), _, _, rfl, rfl, _, rfl, ?_⟩
  rw [hfl]
  by_cases g1 : (0 : Int) < (listed.length : Int)
  case neg =>
    rw [decide_eq_false g1]
    refine iteF ⟨_, rfl, ?_⟩
    exact iteT ⟨(by show 2 ≤ sizeLine; decide), fun tt htt => stop H3 0 0 rfl s13 (by rw [lenN (fun z => g1 (by omega))]; rfl) tt htt⟩
  rw [decide_eq_true g1]
  refine iteT ⟨_, _, rfl, rfl, _, rfl, ?_⟩
  by_cases g2 : (listed.length : Int) < 9
  case neg =>
    rw [decide_eq_false g2]
    exact iteT ⟨(by show 2 ≤ sizeLine; decide), fun tt htt => stop H3 0 0 rfl s13 (by rw [lenN (fun z => g2 (by omega))]; rfl) tt htt⟩
  rw [decide_eq_true g2]
  refine iteF ?_
  refine ⟨_, rfl, fp, rfl, ⟨_, SqL.of hfp3⟩, fun D2 hD2 => ?_⟩
  refine lc_list (K := K) (a := fp) (xs := listed.map V.str) (fun i Hx => Same H3 Hx ∧ Hx D2 = some (.lst (((listed.take i).filter (badN listed)).map V.str))) ⟨same_new hD2 _, upd_same⟩ (fun i Hx _ ⟨sx, _⟩ => SqL.of (sx _ _ hfp3)) (fun i x Hx hx ⟨sx, hDx⟩ => ?_) (fun Hx ⟨sx, hDx⟩ => ?_)
  · obtain ⟨nm, hnm, rfl⟩ := str_at hx
    have hm := List.mem_of_getElem? hnm
    have bl := bn0 nm (List.mem_cons_of_mem _ hm)
    refine ⟨rfl, ?_⟩
    refine ⟨_, rfl, nm, rfl, Nat.le_trans bl hL, fun H7 s7 => ⟨_, rfl, ?_⟩⟩
    have step : (listed.take (i + 1)).filter (badN listed) = (listed.take i).filter (badN listed) ++ (if badN listed nm = true then [nm] else []) := by
      rw [take_snoc hnm, List.filter_append]
      congr 1
      by_cases hz : badN listed nm = true
      · rw [if_pos hz, List.filter_cons_of_pos hz]
        rfl
      · rw [if_neg hz, List.filter_cons_of_neg hz]
        rfl
    have add : badN listed nm = true → ∃ acc, H7 D2 = some (.lst acc) ∧ acc.length < sizeLine ∧ Same H3 (upd H7 D2 (.lst (acc ++ [.str nm]))) ∧ upd H7 D2 (.lst (acc ++ [.str nm])) D2 = some (.lst (((listed.take (i + 1)).filter (badN listed)).map V.str)) := fun hz => by
      refine ⟨_, s7 _ _ hDx, ?_, same_mut (sx.trans s7) hD2 _, ?_⟩
      · rw [List.length_map]
        exact szb (Nat.le_trans (List.length_filter_le _ _) (by rw [List.length_take]; omega))
      · rw [upd_same, step, if_pos hz, List.map_append]
        rfl
    by_cases hn : Nm nm
    case neg =>
      rw [decide_eq_false hn]
      exact iteT (iteT ⟨_, rfl, add (by unfold badN; rw [decide_eq_false hn]; rfl)⟩)
    rw [decide_eq_true hn]
    refine iteF ?_
    refine ⟨_, rfl, .inl ⟨rfl, _, SqL.of (s7 _ _ (sx _ _ hfp3))⟩, _, rfl, fp, listed, nm, rfl, rfl, SqL.of (s7 _ _ (sx _ _ hfp3)), _, _, rfl, rfl, _, rfl, ?_⟩
    by_cases hc : (1 : Int) < ((listed.count nm : Nat) : Int)
    · rw [decide_eq_true hc]
      exact iteT ⟨_, rfl, add (by unfold badN; rw [decide_eq_true hn, decide_eq_true (show 1 < listed.count nm by omega)]; rfl)⟩
    · rw [decide_eq_false hc]
      refine iteF ?_
      have hz : ¬ badN listed nm = true := by unfold badN; rw [decide_eq_true hn, decide_eq_false (show ¬ 1 < listed.count nm by omega)]; exact Bool.false_ne_true
      rw [step, if_neg hz, List.append_nil]
      exact ⟨sx.trans s7, s7 _ _ hDx⟩
  rw [hfl, List.take_length] at hDx
  refine ⟨(by show 0 ≤ sizeLine; decide), fun e0 he0 => ?_⟩
  have s4 := same_new he0 (.lst [])
  refine ⟨D2, e0, _, rfl, rfl, SqL.of (s4 _ _ hDx), SqL.of upd_same, _, rfl, ?_⟩
  have fe : rmB ("rooms" :: listed) = ((listed.filter (badN listed)).map V.str).isEmpty := by
    have e2 : ((listed.filter (badN listed)).map V.str).isEmpty = (listed.filter (badN listed)).isEmpty := by
      cases listed.filter (badN listed) <;> rfl
    rw [e2, badN_nil]
    unfold rmB
    rw [decide_eq_true (show (("rooms" : Str) :: listed).headD "" = "rooms" from rfl), decide_eq_true (show (1 ≤ (("rooms" : Str) :: listed).tail.length ∧ (("rooms" : Str) :: listed).tail.length ≤ 8) from ⟨by show 1 ≤ listed.length; omega, by show listed.length ≤ 8; omega⟩)]
    rfl
  have s14 := (s13.trans sx).trans s4
  have hDx4 := (sx.trans s4) _ _ hDx3
  have hpp4 := (sx.trans s4) _ _ hpp3
  have hfp4 := (sx.trans s4) _ _ hfp3
  have hLs4 := hLs3.same (sx.trans s4)
  rw [← fe]
  clear hDx3 hpp3 hfp3 hLs3 ha03 s13 hDx
  generalize upd Hx e0 (.lst []) = H4 at s14 hDx4 hpp4 hfp4 hLs4 ⊢
  cases hf : rmB ("rooms" :: listed) with
  | false =>
    refine iteT ?_
    exact ⟨(by show 2 ≤ sizeLine; decide), fun tt htt => stop H4 0 0 rfl s14 (by rw [hf]; rfl) tt htt⟩
  | true =>
    refine iteF ?_
    rw [hf, if_pos rfl] at q
    have stop2 : ∀ (Hy : Hp) (k : Nat) (i : Int), i = (k : Int) → Same H Hy → (goH listed 1 [] lt).pre listed [] = .line k → ∀ tt, Hy tt = none → Q (.ref tt) (upd Hy tt (.tup [.str "line", .int i])) := fun Hy k i hi sy hk => stop Hy k i hi sy (by rw [hf, if_pos rfl]; exact hk)
    have hat : at_.length = lt.length := by
      have z := hLs4.1
      rw [List.length_cons, List.length_cons] at z
      omega
    refine ⟨_, rfl, D, _, rfl, SqL.of hDx4, ?_⟩
    refine for_gen (n := lt.length + 1) (fun i σ' H' => ∃ (v4 v5 : Option V) (das : List Addr) (pl : List (List Str)), σ' = [some (.str t), some (.ref fp), some (.ref D), some (.ref pp), v4, v5, none, none, none] ∧ Same H H' ∧ Tu H4 H' ∧
      H' fp = some (.lst (listed.map V.str)) ∧ H' D = some (.lst ((a0 :: at_).map V.ref)) ∧ H' pp = some (.lst (das.map V.ref)) ∧ LinesAt H' (a0 :: at_) (((("rooms" : Str) :: listed) :: lt)) ∧ RowsAt H' das pl ∧ (∀ r ∈ pl, r ≠ []) ∧ pl.length = i - 1 ∧ pl.length ≤ 12 ∧ goH listed 1 [] lt = (goH listed (i - 1 + 1) (pl.map fun r => r.headD "") (lt.drop (i - 1))).pre [] pl)
      ⟨none, none, [], [], rfl, s14, Tu.refl _, hfp4, hDx4, hpp4, hLs4, RowsAt.nil, (fun r hr => by cases hr), rfl, Nat.zero_le _, (goH_nil listed 1 [] lt).symm⟩ (fun i σ' H' hi hP => ?_) (fun σ' H' hP => ?_)
    · obtain ⟨v4, v5, das, pl, rfl, sH, tu, hfp', hD', hpp', hLn, hRA, hpn, hpl, hp5, hgo⟩ := hP
      have hai : (a0 :: at_)[i]? = some ((a0 :: at_)[i]'(by rw [List.length_cons]; omega)) := List.getElem?_eq_getElem _
      generalize (a0 :: at_)[i]'(by rw [List.length_cons]; omega) = ai at hai
      have ex : ((a0 :: at_).map V.ref)[i]? = some (.ref ai) := by rw [List.getElem?_map, hai]; rfl
      refine ⟨⟨_, _, SqL.of hD', ex⟩, ?_⟩
      rintro _ _ ⟨T, v1, rfl, hT, rfl, f1⟩
      have g1 := (f1 _ (SqL.of hD')).symm.trans ex
      cases g1
      have sT := same_new hT (.tup [.int (i : Nat), .ref ai])
      have npT : pp ≠ T := ne_of_none hpp' hT
      refine ⟨T, _, rfl, SqT.of upd_same, rfl, _, _, rfl, _, _, rfl, rfl, ?_⟩
      have sH6 := sH.trans sT
      have tu6 := tu.trans (Tu.same sT)
      have hfp6 := sT _ _ hfp'
      have hD6 := sT _ _ hD'
      have hpp6 := sT _ _ hpp'
      have hLn6 := hLn.same sT
      have hRA6 := hRA.tu (Tu.same sT)
      clear sH tu hfp' hD' hpp' hLn hRA sT f1
      generalize upd H' T (.tup [.int (i : Nat), .ref ai]) = H6 at sH6 tu6 hfp6 hD6 hpp6 hLn6 hRA6 ⊢
      refine ⟨_, rfl, _, _, rfl, rfl, _, rfl, ?_⟩
      cases i with
      | zero =>
        rw [decide_eq_false (show ¬ (0 : Int) < ((0 : Nat) : Int) by decide)]
        refine iteF ?_
        exact ⟨_, _, das, pl, rfl, sH6, tu6, hfp6, hD6, hpp6, hLn6, hRA6, hpn, hpl, hp5, hgo⟩
      | succ j =>
        rw [decide_eq_true (show (0 : Int) < ((j + 1 : Nat) : Int) by omega)]
        refine iteT ?_
        have hjl : j < lt.length := by omega
        have hlj : lt[j]? = some lt[j] := List.getElem?_eq_getElem hjl
        have hw := hLn6.2 (j + 1) ai _ hai (by rw [List.getElem?_cons_succ]; exact hlj)
        obtain ⟨nej, lnj, bnj⟩ := wok _ (List.mem_cons_of_mem _ (List.getElem_mem hjl))
        rw [Nat.add_sub_cancel] at hpl hgo
        rw [List.drop_eq_getElem_cons hjl] at hgo
        generalize lt[j] = wd at hw nej lnj bnj hgo
        have hwl : (wd.map V.str).length = wd.length := List.length_map _
        have halt : (12 < j + 1 ∨ drB wd (pl.map fun r => r.headD "") listed = false) → ∀ Hy, Same H Hy → (2 ≤ sizeLine) ∧ ∀ tt, Hy tt = none → Q (.ref tt) (upd Hy tt (.tup [.str "line", .int ((j + 1 : Nat) : Int)])) := fun hs Hy sy => ⟨by decide, fun tt htt => stop2 Hy (j + 1) _ rfl sy (by rw [hgo, goH_stop hs]; rfl) tt htt⟩
        refine ⟨_, rfl, ai, _, rfl, .inl (SqL.of hw), rfl, _, rfl, ?_⟩
        by_cases h4 : wd.length = 4
        case neg =>
          rw [hwl, neF (fun z => h4 (by injection z with z; omega))]
          have nw : drB wd (pl.map fun r => r.headD "") listed = false := by
            unfold drB
            rw [decide_eq_false h4]
            rfl
          exact iteT (iteT ⟨_, rfl, halt (.inr nw) H6 sH6⟩)
        obtain ⟨kw, n, x, y, rfl⟩ : ∃ k n x y, wd = [k, n, x, y] := by
          match wd, h4 with
          | [a, b, c, d], _ => exact ⟨a, b, c, d, rfl⟩
        refine iteNS rfl ?_
        refine ⟨_, rfl, ai, _, _, _, rfl, rfl, SqL.of hw, atI_nat (j := 0) rfl, rfl, _, rfl, ?_⟩
        by_cases hkw : kw = "door"
        case neg =>
          rw [neF (fun z => hkw (by injection z))]
          have nw : drB [kw, n, x, y] (pl.map fun r => r.headD "") listed = false := by
            unfold drB
            rw [decide_eq_false (show ¬ ([kw, n, x, y] : List Str).headD "" = "door" from hkw)]
            simp
          exact iteT (iteT ⟨_, rfl, halt (.inr nw) H6 sH6⟩)
        subst hkw
        refine iteNS rfl ?_
        have hdl : (das.map V.ref).length = pl.length := by rw [List.length_map]; exact hRA6.1
        have hxl := bnj n (List.mem_cons_of_mem _ (List.mem_cons_self ..))
        refine ⟨_, rfl, ai, _, _, _, rfl, rfl, SqL.of hw, atI_nat (j := 1) rfl, n, rfl, Nat.le_trans hxl hL, fun H7 s7 => ⟨_, rfl, ?_⟩⟩
        have sH7 := sH6.trans s7
        have hw7 := s7 _ _ hw
        have hpp7 := s7 _ _ hpp6
        by_cases hn : Nm n
        case neg =>
          have nw : drB ["door", n, x, y] (pl.map fun r => r.headD "") listed = false := by rw [drB_eq, decide_eq_false hn]; rfl
          rw [decide_eq_false hn]
          exact iteT (iteT ⟨_, rfl, halt (.inr nw) H7 sH7⟩)
        rw [decide_eq_true hn]
        refine iteF ?_
        refine ⟨_, rfl, pp, _, rfl, .inl (SqL.of hpp7), rfl, _, rfl, ?_⟩
        rw [hdl]
        by_cases hp5' : pl.length = 12
        case pos =>
          rw [decide_eq_true (show V.int ((pl.length : Nat) : Int) = V.int 12 by rw [hp5']; rfl)]
          exact iteT ⟨_, rfl, halt (.inl (by omega)) H7 sH7⟩
        rw [decide_eq_false (fun z => hp5' (by injection z with z; omega))]
        refine iteF ?_
        -- words[1] in [door[0] for door in known]
        have hRA7 := hRA6.tu (Tu.same s7)
        refine ⟨_, rfl, ai, _, _, _, rfl, rfl, SqL.of hw7, atI_nat (j := 1) rfl, _, rfl, pp, rfl, ⟨_, SqL.of hpp7⟩, fun D3 hD3 => ?_⟩
        have nDd : pp ≠ D3 := ne_of_none hpp7 hD3
        refine lc_list (K := K) (a := pp) (xs := das.map V.ref) (fun m Hy => Hy = upd H7 D3 (.lst (((pl.take m).map fun r => r.headD "").map V.str))) rfl (fun m Hy _ e => by subst e; exact SqL.of (by rw [upd_ne nDd]; exact hpp7)) (fun m z Hy hz e => ?_) (fun Hy e => ?_)
        · subst e
          obtain ⟨a, r, rfl, hrj, har⟩ := hRA7.row hz
          obtain ⟨r0, rr, er⟩ : ∃ r0 rr, r = r0 :: rr := by
            cases r with
            | nil => exact absurd rfl (hpn _ (List.mem_of_getElem? hrj))
            | cons a b => exact ⟨a, b, rfl⟩
          subst er
          refine ⟨rfl, lcY ?_⟩
          refine ⟨_, rfl, a, _, _, _, rfl, rfl, SqT.of (Tu.new hD3 _ _ _ har), atI_nat (j := 0) rfl, _, upd_same, ?_, ?_⟩
          · rw [List.length_map, List.length_map, List.length_take]
            exact sz100 (by omega)
          · rw [upd_upd, take_snoc hrj, List.map_append, List.map_append]
            rfl
        subst e
        rw [hdl, List.take_length]
        have s8 := same_new hD3 (.lst ((pl.map fun r => r.headD "").map V.str))
        have hD8 : upd H7 D3 (.lst ((pl.map fun r => r.headD "").map V.str)) D3 = some (.lst ((pl.map fun r => r.headD "").map V.str)) := upd_same
        have sH8 := sH7.trans s8
        have hw8 := s8 _ _ hw7
        have hpp8 := s8 _ _ hpp7
        have s68 := s7.trans s8
        have tu8 := tu6.trans (Tu.same s68)
        have hfp8 := s68 _ _ hfp6
        have hDL8 := s68 _ _ hD6
        have hLn8 := hLn6.same s68
        have hRA8 := hRA6.tu (Tu.same s68)
        clear hRA7 hRA6 hLn6 hD6 hfp6 hpp7 hpp6 hw7 hw s7 s8 s68 tu6 sH7 sH6
        generalize upd H7 D3 (.lst ((pl.map fun r => r.headD "").map V.str)) = H8 at hD8 sH8 hw8 hpp8 tu8 hfp8 hDL8 hLn8 hRA8 ⊢
        refine ⟨D3, _, rfl, .inl (SqL.of hD8), rfl, flat_strs _, _, rfl, ?_⟩
        rw [inV_str]
        by_cases hnn : n ∈ pl.map fun r => r.headD ""
        case pos =>
          have nw : drB ["door", n, x, y] (pl.map fun r => r.headD "") listed = false := by rw [drB_eq, decide_eq_true hn, decide_eq_true hnn]; rfl
          rw [decide_eq_true hnn]
          exact iteT (iteT ⟨_, rfl, halt (.inr nw) H8 sH8⟩)
        rw [decide_eq_false hnn]
        refine iteF ?_
        refine ⟨_, rfl, ai, _, _, _, rfl, rfl, SqL.of hw8, atI_nat (j := 2) rfl, _, rfl, ai, _, _, _, rfl, rfl, SqL.of hw8, atI_nat (j := 3) rfl, rfl, _, rfl, ?_⟩
        by_cases hxy : x = y
        case pos =>
          have nw : drB ["door", n, x, y] (pl.map fun r => r.headD "") listed = false := by rw [drB_eq, decide_eq_true hn, decide_eq_false hnn, decide_eq_true hxy]; rfl
          rw [decide_eq_true (show V.str x = V.str y by rw [hxy])]
          exact iteT ⟨_, rfl, halt (.inr nw) H8 sH8⟩
        rw [decide_eq_false (fun e : V.str x = V.str y => hxy (by injection e))]
        refine iteF ?_
        refine ⟨_, rfl, ai, _, _, _, rfl, rfl, SqL.of hw8, atI_nat (j := 2) rfl, _, rfl, fp, _, rfl, .inl (SqL.of hfp8), rfl, flat_strs _, _, rfl, ?_⟩
        have ng : ∀ z : Str, (if true = true then !inV (.str z) (listed.map V.str) else inV (.str z) (listed.map V.str)) = !decide (z ∈ listed) := fun z => by rw [if_pos rfl, inV_str]
        rw [ng]
        by_cases hmx : x ∈ listed
        case neg =>
          have nw : drB ["door", n, x, y] (pl.map fun r => r.headD "") listed = false := by rw [drB_eq, decide_eq_true hn, decide_eq_false hnn, decide_eq_false hxy, decide_eq_false hmx]; rfl
          rw [decide_eq_false hmx]
          exact iteT (iteT ⟨_, rfl, halt (.inr nw) H8 sH8⟩)
        rw [decide_eq_true hmx]
        refine iteF ?_
        refine ⟨_, rfl, ai, _, _, _, rfl, rfl, SqL.of hw8, atI_nat (j := 3) rfl, _, rfl, fp, _, rfl, .inl (SqL.of hfp8), rfl, flat_strs _, _, rfl, ?_⟩
        rw [ng]
        by_cases hmy : y ∈ listed
        case neg =>
          have nw : drB ["door", n, x, y] (pl.map fun r => r.headD "") listed = false := by rw [drB_eq, decide_eq_true hn, decide_eq_false hnn, decide_eq_false hxy, decide_eq_true hmx, decide_eq_false hmy]; rfl
          rw [decide_eq_false hmy]
          exact iteT ⟨_, rfl, halt (.inr nw) H8 sH8⟩
        have yw : drB ["door", n, x, y] (pl.map fun r => r.headD "") listed = true := by rw [drB_eq, decide_eq_true hn, decide_eq_false hnn, decide_eq_false hxy, decide_eq_true hmx, decide_eq_true hmy]; rfl
        rw [decide_eq_true hmy]
        refine iteF ?_
        rw [goH_step (by omega) yw, Rd.pre_pre'] at hgo
        refine ⟨_, rfl, .inl ⟨rfl, _, SqL.of hpp8⟩, _, rfl, _, rfl, _, _, rfl, SqL.of hw8, fun p2 hp2 => ?_⟩
        rw [cut_from1]
        have s9 := same_new hp2 (.lst (([("door" : Str), n, x, y].map V.str).drop 1))
        refine ⟨p2, _, rfl, .inl ⟨SqL.of upd_same, fun t2 ht2 => ?_⟩⟩
        have s10 := (s9.trans (same_new ht2 (.tup (([("door" : Str), n, x, y].map V.str).drop 1))))
        have ht2' : upd (upd H8 p2 (.lst (([("door" : Str), n, x, y].map V.str).drop 1))) t2 (.tup (([("door" : Str), n, x, y].map V.str).drop 1)) t2 = some (.tup (([n, x, y] : List Str).map V.str)) := by rw [upd_same]; rfl
        have hpp9 := s10 _ _ hpp8
        have sH9 := sH8.trans s10
        have tu9 := tu8.trans (Tu.same s10)
        have hfp9 := s10 _ _ hfp8
        have hD9 := s10 _ _ hDL8
        have hLn9 := hLn8.same s10
        have hRA9 := hRA8.tu (Tu.same s10)
        generalize upd (upd H8 p2 (.lst (([("door" : Str), n, x, y].map V.str).drop 1))) t2 (.tup (([("door" : Str), n, x, y].map V.str).drop 1)) = H9 at ht2' hpp9 sH9 tu9 hfp9 hD9 hLn9 hRA9 ⊢
        refine ⟨pp, _, _, rfl, rfl, hpp9, ?_, ?_⟩
        · rw [hdl]
          exact szb (by omega)
        have tum : Tu H9 (upd H9 pp (.lst (das.map V.ref ++ [.ref t2]))) := fun a xs h => by
          rw [upd_ne (fun e => by rw [e, hpp9] at h; cases h)]
          exact h
        have ln9 : LinesAt (upd H9 pp (.lst (das.map V.ref ++ [.ref t2]))) (a0 :: at_) ((("rooms" : Str) :: listed) :: lt) := by
          refine ⟨hLn9.1, fun i a l e1 e2 => ?_⟩
          have z := hLn9.2 i a l e1 e2
          rw [upd_ne (fun e => ?_)]
          · exact z
          · rw [e, hpp9] at z
            have z2 := Option.some.inj z
            injection z2 with z2
            have nel := (wok l (List.mem_of_getElem? e2)).1
            cases l with
            | nil => exact nel rfl
            | cons y ys =>
              cases das with
              | nil => cases z2
              | cons u us => cases z2
        have hnm : (pl ++ [[n, x, y]]).map (fun r => r.headD "") = pl.map (fun r => r.headD "") ++ [n] := by rw [List.map_append]; rfl
        refine ⟨_, _, das ++ [t2], pl ++ [[n, x, y]], rfl, same_mut sH9 nHp _, tu9.trans tum, ?_, ?_, ?_, ln9, (hRA9.tu tum).snoc (tum _ _ ht2'), ?_, ?_, ?_, by rw [hnm]; exact hgo⟩
        · rw [upd_ne nfp]
          exact hfp9
        · rw [upd_ne npD]
          exact hD9
        · rw [upd_same, List.map_append]
          rfl
        · intro r hr
          rcases List.mem_append.mp hr with hr | hr
          · exact hpn r hr
          · rw [List.mem_singleton.mp hr]
            exact List.cons_ne_nil _ _
        · rw [List.length_append, hpl]
          rfl
        · rw [List.length_append, List.length_singleton]
          omega
    · obtain ⟨v4, v5, das, pl, rfl, sH, tu, hfp', hD', hpp', hLn, hRA, hpn, hpl, hp5, hgo⟩ := hP
      refine ⟨⟨_, SqL.of hD', by rw [List.length_map, List.length_cons]; omega⟩, ?_⟩
      rw [Nat.add_sub_cancel, List.drop_length] at hgo
      have fin : (goH listed 1 [] lt).pre listed [] = .data listed pl := by
        rw [hgo]
        show Rd.data listed ([] ++ (pl ++ [])) = _
        rw [List.nil_append, List.append_nil]
      rw [fin] at q
      refine ⟨_, rfl, fp, _, rfl, .inl ⟨SqL.of hfp', fun t1 ht1 => ?_⟩⟩
      have x1 := same_new ht1 (.tup (listed.map V.str))
      refine ⟨_, rfl, pp, _, rfl, .inl ⟨SqL.of (x1 _ _ hpp'), fun t2 ht2 => ⟨(by show 2 ≤ sizeLine; decide), fun t3 ht3 => ⟨(by show 2 ≤ sizeLine; decide), fun t4 ht4 => ?_⟩⟩⟩⟩
      have x2 := same_new ht2 (.tup (das.map V.ref))
      have x3 := same_new ht3 (.tup [.ref t1, .ref t2])
      have x4 := same_new ht4 (.tup [.str "hall", .ref t3])
      refine q t4 _ ((((sH.trans x1).trans x2).trans x3).trans x4) (dr_data (p := t3) upd_same (dr_hs ⟨t1, t2, x4 _ _ upd_same, x4 _ _ (x3 _ _ (x2 _ _ upd_same)), das, x4 _ _ (x3 _ _ upd_same), hRA.tu (Tu.same (((x1.trans x2).trans x3).trans x4))⟩ (by omega) (by omega) fun r hr => ?_))
      have z := goH_rows lt 1 [] [] pl (by rw [hgo]; show Rd.data [] (pl ++ []) = _; rw [List.append_nil])
      exact z r hr
end
end Td
set_option maxHeartbeats 4000000
namespace Td
open PySem PySem.Spec PyProof.Rows L2
/-! ### how long texts get -/
theorem tot_cons (x : Str) (l : List Str) : tot (x :: l) = x.length + 1 + tot l := by unfold tot; rw [List.map_cons, List.sum_cons]
theorem tot_app (l m : List Str) : tot (l ++ m) = tot l + tot m := by unfold tot; rw [List.map_append, List.sum_append]
theorem tot_split (l : List Str) (n : Nat) : tot (l.take n) + tot (l.drop n) = tot l := by rw [← tot_app, List.take_append_drop]
theorem tot_take (l : List Str) (n : Nat) : tot (l.take n) ≤ tot l := by have := tot_split l n; omega
theorem tot_drop (l : List Str) (n : Nat) : tot (l.drop n) ≤ tot l := by have := tot_split l n; omega
theorem tot_drop_le (l : List Str) {m n : Nat} (h : m ≤ n) : tot (l.drop n) ≤ tot (l.drop m) := by
  obtain ⟨k, rfl⟩ : ∃ k, n = m + k := ⟨n - m, by omega⟩
  rw [← List.drop_drop]
  exact tot_drop _ _
theorem tot_rev (l : List Str) : tot l.reverse = tot l := by
  unfold tot
  rw [List.map_reverse, List.sum_reverse]
theorem tot_nil : tot [] = 0 := rfl
theorem tot_sum (l : List Str) : (l.map (·.length)).sum + l.length * 1 = tot l := by
  induction l with
  | nil => rfl
  | cons x l ih =>
    rw [tot_cons, List.map_cons, List.sum_cons, List.length_cons]
    omega
theorem joinL_le (c : Nat) : ∀ ps : List (List Nat), (TL.joinL [c] ps).length ≤ (ps.map fun p => p.length + 1).sum
  | [] => Nat.zero_le _
  | [p] => by
    show p.length ≤ _
    simp
  | p :: q :: r => by
    have ih := joinL_le c (q :: r)
    have e2 : (TL.joinL [c] (p :: q :: r)).length = p.length + (1 + (TL.joinL [c] (q :: r)).length) := by
      show (p ++ ([c] ++ TL.joinL [c] (q :: r))).length = _
      rw [List.length_append, List.length_append, List.length_singleton]
    rw [e2, List.map_cons, List.sum_cons]
    omega
theorem join_tot (c : Nat) (ys : List Str) : (Txt.join (SX.S [c]) ys).length ≤ tot ys := by
  rw [join_cs, SX.S_len]
  refine Nat.le_trans (joinL_le c _) ?_
  unfold tot
  rw [List.map_map]
  refine Nat.le_of_eq (congrArg List.sum (List.map_congr_left fun x _ => ?_))
  show (cs x).length + 1 = x.length + 1
  rw [cs_len]
theorem lineJ_tot (ys : List Str) : (Txt.join "\n" ys).length ≤ tot ys := by rw [nl_S]; exact join_tot 10 ys
theorem wordJ_tot (ys : List Str) : (Txt.join " " ys).length ≤ tot ys := by rw [sp_S]; exact join_tot 32 ys
/-- a cut of texts is texts -/
theorem cut_strs (ss : List Str) (lo hi : Option Int) : ∃ us : List Str, cutV (ss.map V.str) lo hi = us.map V.str ∧ tot us ≤ tot ss := by
  have e : ∀ i n : Nat, ((ss.map V.str).drop i).take n = ((ss.drop i).take n).map V.str := fun i n => by rw [List.map_take, List.map_drop]
  unfold cutV
  exact ⟨_, e _ _, Nat.le_trans (tot_take _ _) (tot_drop _ _)⟩
theorem cut_hi (ss : List Str) {n : Nat} (h : n ≤ ss.length) : cutV (ss.map V.str) none (some (n : Int)) = (ss.take n).map V.str := by
  rw [cut_to (by omega), Int.toNat_natCast, List.map_take]
theorem cut_lo (ss : List Str) (n : Nat) : cutV (ss.map V.str) (some (n : Int)) none = (ss.drop n).map V.str := by rw [cut_from, List.map_drop]
end Td
set_option maxHeartbeats 4000000
namespace Td
open PySem PySem.Spec PyProof.Rows L2
/-! ### list(a text): its signs -/
def signsV (z : Str) : List V := z.cps.toList.map fun c => V.str ⟨#[c]⟩
abbrev rLsStr : List V → Hp → VK → Prop := fun xs H Q => ∃ z : Str, xs = [.str z] ∧ z.cps.size ≤ sizeLine ∧ ∀ l, H l = none → Q (.ref l) (L2.upd H l (.lst (signsV z)))
theorem call_list_txt {X : Cx} (hc : X.calm = true) : CallR X (.type "list") rLsStr := by
  intro pins s σ H xs us Q I r h
  obtain ⟨z, rfl, hz, q⟩ := h
  obtain ⟨u, rfl, t, rfl⟩ := vals1 r
  refine call_list_str (I.ok.hd hc) z t (fun h' tk acc' c' kp e it => ?_) hz
  have hv : Vals (signsV z) acc'.toList := by
    refine vals_of_idx _ _ (by unfold signsV; rw [Array.length_toList, it.1, List.length_map, Array.length_toList]) fun j v hj => ?_
    rw [Array.getElem?_toList] at hj
    obtain ⟨c, tk, hc1, hv⟩ := it.2 j v hj
    refine ⟨.str ⟨#[c]⟩, ?_, ⟨tk, hv⟩⟩
    unfold signsV
    rw [List.getElem?_map, Array.getElem?_toList, hc1]
    rfl
  exact ⟨.ref s.heap.objs.size, _, I.laid (t' := tk) kp (Nat.le_refl _) (show ObjOk X.prog X.w _ h' _ (.lst (signsV z)) from ⟨by unfold signsV; rw [List.length_map, Array.length_toList]; exact hz, acc'.toList, c', hv, e⟩), rfl, q _ (I.hok.fresh (Nat.le_refl _))⟩
end Td
set_option maxHeartbeats 4000000
namespace Td
open PySem PySem.Spec PyProof.Rows L2
section
variable {P : Program} {w : World} {K : PySem.W.Frag} {mg : Str → Option Value} {base : Heap} {f : Addr} {fd : FuncData}
abbrev s_law_sign : Stmt := top 23
abbrev n_law_sign : List Str := ["box", "signs"]
theorem sc_law_sign : FnScope n_law_sign ["box"] (defScope s_law_sign) := ⟨rfl, rfl, rfl, by decide +kernel, rfl, by decide +kernel, by decide +kernel⟩
theorem ok_law_sign (F : FnP K "_law_sign" s_law_sign f fd) (hm : mg "_law_sign" = some (.ref f)) (c_law_take : Cal P w K mg base 1 "_law_take" spTake) (m_len : mg "len" = none) :
    Cal P w K mg base 2 "_law_sign" spSign := by
  refine cal_of (F.ok sc_law_sign (fun vs H Q E h => ?_) (fun cdv A outer s H vs Q E hr h => ?_)) hm F.kp (F.bindsN (ps := ["box"]) fun _ _ _ _ _ _ us hl => match us, hl with | [_], _ => rfl)
  · obtain ⟨b, rfl, hB, q⟩ := h
    rfl
  obtain ⟨b, rfl, hB, q⟩ := h
  have nd := sc_law_sign.nd
  refine ⟨_, PSs.nox (pss_cons (ps_set (i := 1) nd rfl (Or.inl rfl) pe_str)
    (pss_one (ps_ret (pe_ix ix_str (pv 1) (C8.pe_c c_law_take hr (by omega) (by rfl) (pa_cons (pv 0) (pa_cons (pe_callB call_len_str (by rfl) m_len PySem.boot_len (pa_cons (pv 1) pa_nil)) pa_nil))) (fun _ _ => rfl))))), ?_⟩
  refine ⟨_, rfl, _, rfl, _, rfl, _, rfl, (by decide), b, _, rfl, hB, by decide, by decide, fun r H1 r0 r1 B1 c1 => ?_⟩
  generalize hsg : ("!\"#$&'()*+,-./0123456789:;<=>?@ABCDEFGHIJKLMNOPQRSTUVWXYZ[\\]^_`{|}~" : Str) = sg at r1 ⊢
  obtain ⟨n, rfl⟩ : ∃ n : Nat, r = (n : Int) := ⟨r.toNat, by omega⟩
  have hn : n < sg.cps.toList.length := by
    rw [Array.length_toList]
    have e : sg.length = sg.cps.size := rfl
    omega
  refine ⟨sg, _, sg.cps.toList[n], rfl, rfl, (by rw [← hsg]; decide), atI_nat (j := n) (List.getElem?_eq_getElem hn), ?_⟩
  exact q _ _ (Nat.le_refl 1) B1 c1
theorem box_ne {H : Hp} {b l : Addr} {ss : List Str} (B : Box H b) (h : H l = some (.lst (ss.map V.str))) : l ≠ b := fun e => by
  obtain ⟨c, s, n, hb, _⟩ := B
  rw [e, hb] at h
  have z := Option.some.inj h
  injection z with z
  cases ss with
  | nil => cases z
  | cons x xs => cases z
theorem map_one (xs : List Str) (y : Str) : xs.map V.str ++ [V.str y] = (xs ++ [y]).map V.str := by rw [List.map_append]; rfl
theorem map_two (xs ys : List Str) : xs.map V.str ++ ys.map V.str = (xs ++ ys).map V.str := by rw [List.map_append]
/-- how a joined text comes back -/
theorem jn_end {K : PySem.W.Frag} {H : Hp} {l : Addr} {us : List Str} {Q : VK} {m : Nat} (h : H l = some (.lst (us.map V.str))) (hm : tot us ≤ m) (hs : m ≤ 1000000) (q : ∀ x : Str, x.length ≤ m → Q (.str x) H) : rJn K (.str "\n") [.ref l] H Q := by
  have e1 : ("\n" : Str).length = 1 := by decide
  refine ⟨_, l, us, rfl, rfl, .inl (SqL.of h), ?_, q _ (Nat.le_trans (lineJ_tot us) hm)⟩
  rw [e1, tot_sum]
  omega
theorem slE {K : PySem.W.Frag} {H : Hp} {l : Addr} {ss us : List Str} {lo hi : Option Int} {Q : VK} (h : H l = some (.lst (ss.map V.str))) (e : cutV (ss.map V.str) lo hi = us.map V.str) (q : ∀ p H', H' p = some (.lst (us.map V.str)) → Same H H' → Q (.ref p) H') : rSlL K (.ref l) lo hi H Q :=
  ⟨l, _, rfl, SqL.of h, fun p hp => q p _ (by rw [e]; exact upd_same) (same_new hp _)⟩
theorem slN {K : PySem.W.Frag} {σ : L2.St} {H : Hp} {l : Addr} {ss us : List Str} {lo : Option Int} {Q : VK} (h : H l = some (.lst (ss.map V.str))) (e : cutV (ss.map V.str) lo none = us.map V.str) (q : ∀ p H', H' p = some (.lst (us.map V.str)) → Same H H' → Q (.ref p) H') : tNoPart σ H (fun u H3 => rSlL K (.ref l) lo u H3 Q) := slE h e q
theorem catE {H : Hp} {a c : Addr} {us ws : List Str} {Q : VK} (ha : H a = some (.lst (us.map V.str))) (hc : H c = some (.lst (ws.map V.str))) (hz : tot us + tot ws ≤ 1000000) (q : ∀ p H', H' p = some (.lst ((us ++ ws).map V.str)) → Same H H' → Q (.ref p) H') : rCat (.ref a) (.ref c) H Q := by
  have h1 := tot_len us
  have h2 := tot_len ws
  refine ⟨a, c, _, _, rfl, rfl, ha, hc, ?_, fun p hp => q p _ (by rw [map_two]; exact upd_same) (same_new hp _)⟩
  rw [List.length_map, List.length_map]
  exact Nat.le_trans (show us.length + ws.length ≤ 1000000 by omega) (by decide)
theorem bxs {H H' : Hp} {b : Addr} (B : Box H b) (z : Same H H') : Box H' b := by
  obtain ⟨c, s, m, e, x⟩ := B
  exact ⟨c, s, m, z _ _ e, x⟩
theorem str_len_app (x y : Str) : (x ++ y).length = x.length + y.length := Array.size_append
theorem S_cs' (t : Str) : SX.S (cs t) = t := rfl
theorem sl_to_len (t : Str) {i : Int} (h : 0 ≤ i) : (Txt.slice t none (some i)).length ≤ t.length := by
  rw [← S_cs' t, SX.slice_to h, SX.S_len, SX.S_len, List.length_take]
  omega
theorem sl_fr_len (t : Str) {i : Int} (h : 0 ≤ i) : (Txt.slice t (some i) none).length ≤ t.length := by
  rw [← S_cs' t, SX.slice_from h, SX.S_len, SX.S_len, List.length_drop]
  omega
theorem int_nat {r m : Int} (h0 : 0 ≤ r) (h1 : r < m) : ∃ n : Nat, r = (n : Int) ∧ (n : Int) < m := ⟨r.toNat, by omega, by omega⟩
theorem dint_f {i j : Int} (h : i ≠ j) : decide (V.int i = V.int j) = false := by rw [dec_int]; exact beq_false_of_ne h
theorem dint_t {i j : Int} (h : i = j) : decide (V.int i = V.int j) = true := by rw [dec_int]; exact beq_iff_eq.mpr h
/-- one of two short texts -/
theorem pick {K : PySem.W.Frag} {H : Hp} {p : Addr} {a c : Str} {n : Nat} {Q : VK} {m : Nat} (h : H p = some (.lst [V.str a, V.str c])) (hn : (n : Int) < 2) (ha : a.length ≤ m) (hc : c.length ≤ m) (q : ∀ x : Str, x.length ≤ m → Q (.str x) H) : rIxL K (.ref p) (.int n) H Q := by
  rcases n with _ | _ | n
  · exact ⟨p, _, _, _, rfl, rfl, SqL.of h, atI_nat (j := 0) rfl, q _ ha⟩
  · exact ⟨p, _, _, _, rfl, rfl, SqL.of h, atI_nat (j := 1) rfl, q _ hc⟩
  · omega
abbrev s_law_changed : Stmt := top 25
abbrev n_law_changed : List Str := ["box", "text", "known", "at", "lines", "form", "words", "spot", "sign"]
theorem sc_law_changed : FnScope n_law_changed ["box", "text", "known"] (defScope s_law_changed) := ⟨rfl, rfl, rfl, by decide +kernel, rfl, by decide +kernel, by decide +kernel⟩
theorem ok_law_changed (F : FnP K "_law_changed" s_law_changed f fd) (hm : mg "_law_changed" = some (.ref f)) (c_law_line_changed : Cal P w K mg base 3 "_law_line_changed" spLineCh) (c_law_sign : Cal P w K mg base 2 "_law_sign" spSign) (c_law_take : Cal P w K mg base 1 "_law_take" spTake) (m_len : mg "len" = none) :
    Cal P w K mg base 4 "_law_changed" spChanged := by
  refine cal_of (F.ok sc_law_changed (fun vs H Q E h => ?_) (fun cdv A outer s H vs Q E hr h => ?_)) hm F.kp (F.bindsN (ps := ["box", "text", "known"]) fun _ _ _ _ _ _ us hl => match us, hl with | [_, _, _], _ => rfl)
  · obtain ⟨b, kn, t, ks, rfl, hB, hL, hk, hkl, hks, q⟩ := h
    rfl
  obtain ⟨b, kn, t, ks, rfl, hB, hL, hk, hkl, hks, q⟩ := h
  have nd := sc_law_changed.nd
  refine ⟨_, PSs.nox (pss_cons (ps_par (i := 4) (j := 5) (by rfl) nd rfl rfl (by decide) rfl rfl (pa_cons (pe_split (pv 1) pe_str) (pa_cons (C8.pe_c c_law_take hr (by omega) (by rfl) (pa_cons (pv 0) (pa_cons pe_int pa_nil))) pa_nil)) (by rfl))
    (pss_cons (ps_set (i := 3) nd rfl (Or.inl rfl) (C8.pe_c c_law_take hr (by omega) (by rfl) (pa_cons (pv 0) (pa_cons (pe_callB (r := rLn K) call_len_seq (by rfl) m_len PySem.boot_len (pa_cons (pv 4) pa_nil)) pa_nil))))
    (pss_cons (ps_if (pt_cmpR op_lt (pv 5) pe_int (nomark _)) (pss_cons (ps_set (i := 6) nd rfl (Or.inl rfl) (C8.pe_c c_law_line_changed hr (by omega) (by rfl) (pa_cons (pv 0) (pa_cons (pe_split (pe_ix (r := rIxL K) ix_list (pv 4) (pv 3) (fun _ _ => rfl)) pe_str) (pa_cons (pv 2) pa_nil)))))
    (pss_one (ps_ret (show PE _ _ (tM1 (rJn K) _ _) from pe_join pe_str (pe_op op_cat (pe_op op_cat (pe_slice (r := rSlL K) sl_list (pv 4) po_none (po_some (pv 3))) (pe_lst (pa_cons (show PE _ _ (tM1 (rJn K) _ _) from pe_join pe_str (pv 6)) pa_nil))) (pe_slice (r := rSlL K) sl_list (pv 4) (po_some (pe_op op_add (pv 3) pe_int)) po_none)))))) pss_nil)
    (pss_cons (ps_if (pt_cmpR op_eq (pv 5) pe_int (nomark _)) (pss_one (ps_ret (show PE _ _ (tM1 (rJn K) _ _) from pe_join pe_str (pe_op op_cat (pe_slice (r := rSlL K) sl_list (pv 4) po_none (po_some (pv 3))) (pe_slice (r := rSlL K) sl_list (pv 4) (po_some (pe_op op_add (pv 3) pe_int)) po_none))))) pss_nil)
    (pss_cons (ps_if (pt_cmpR op_eq (pv 5) pe_int (nomark _)) (pss_one (ps_ret (show PE _ _ (tM1 (rJn K) _ _) from pe_join pe_str (pe_op op_cat (pe_op op_cat (pe_slice (r := rSlL K) sl_list (pv 4) po_none (po_some (pv 3))) (pe_lst (pa_cons (pe_ix (r := rIxL K) ix_list (pv 4) (pv 3) (fun _ _ => rfl)) pa_nil))) (pe_slice (r := rSlL K) sl_list (pv 4) (po_some (pv 3)) po_none))))) pss_nil)
    (pss_cons (ps_if (pt_cmpR op_eq (pv 5) pe_int (nomark _)) (pss_one (ps_ret (show PE _ _ (tM1 (rJn K) _ _) from pe_join pe_str (pe_op op_cat (pe_op op_cat (pe_slice (r := rSlL K) sl_list (pv 4) po_none (po_some (pv 3))) (pe_revL (pe_slice (r := rSlL K) sl_list (pv 4) (po_some (pv 3)) (po_some (pe_op op_add (pv 3) pe_int))))) (pe_slice (r := rSlL K) sl_list (pv 4) (po_some (pe_op op_add (pv 3) pe_int)) po_none))))) pss_nil)
    (pss_cons (ps_par (i := 7) (j := 8) (by rfl) nd rfl rfl (by decide) rfl rfl (pa_cons (C8.pe_c c_law_take hr (by omega) (by rfl) (pa_cons (pv 0) (pa_cons (pe_op op_add (pe_callB call_len_str (by rfl) m_len PySem.boot_len (pa_cons (pv 1) pa_nil)) pe_int) pa_nil))) (pa_cons (pe_ix (r := rIxL K) ix_list (pe_lst (pa_cons (pe_ix ix_str pe_str (C8.pe_c c_law_take hr (by omega) (by rfl) (pa_cons (pv 0) (pa_cons pe_int pa_nil))) (fun _ _ => rfl)) (pa_cons (C8.pe_c c_law_sign hr (by omega) (by rfl) (pa_cons (pv 0) pa_nil)) pa_nil))) (C8.pe_c c_law_take hr (by omega) (by rfl) (pa_cons (pv 0) (pa_cons pe_int pa_nil))) (fun _ _ => rfl)) pa_nil)) (by rfl))
    (pss_one (ps_ret (pe_op op_add_str (pe_op op_add_str (pe_slice C8.sl_txt (pv 1) po_none (po_some (pv 7))) (pe_ix (r := rIxL K) ix_list (pe_lst (pa_cons (pv 8) (pa_cons pe_str pa_nil))) (C8.pe_c c_law_take hr (by omega) (by rfl) (pa_cons (pv 0) (pa_cons pe_int pa_nil))) (fun _ _ => rfl))) (pe_slice C8.sl_txt (pv 1) (po_some (pe_op op_add (pv 7) (C8.pe_c c_law_take hr (by omega) (by rfl) (pa_cons (pv 0) (pa_cons pe_int pa_nil))))) po_none))))))))))), ?_⟩
  have nkb := box_ne hB hk
  have big : ∀ {n : Nat}, n ≤ 1000000 → n ≤ sizeLine := fun h => Nat.le_trans h (by decide)
  obtain ⟨lne, ltot⟩ := linesT_tot t
  have llen := tot_len (linesT t)
  refine ⟨_, rfl, ⟨_, rfl⟩, _, _, rfl, rfl, (by decide), big (by omega), fun lp hlp => ?_⟩
  have s1 := same_new hlp (.lst ((linesT t).map V.str))
  have hl1 : upd H lp (.lst ((linesT t).map V.str)) lp = some (.lst ((linesT t).map V.str)) := upd_same
  have B1 := hB.new hlp (.lst ((linesT t).map V.str))
  have c1 := (Ch.refl b H).new hlp (.lst ((linesT t).map V.str))
  show tCons _ _ _ (upd H lp (.lst ((linesT t).map V.str))) _
  generalize upd H lp (.lst ((linesT t).map V.str)) = H1 at s1 hl1 B1 c1 ⊢
  have hk1 := s1 _ _ hk
  generalize hls : linesT t = ls at lne ltot llen hl1
  have hml : (ls.map V.str).length = ls.length := List.length_map _
  have ls1 : 1 ≤ ls.length := by
    cases ls with
    | nil => exact absurd rfl lne
    | cons a r => exact Nat.succ_le_succ (Nat.zero_le _)
  have nlb := box_ne B1 hl1
  refine ⟨_, rfl, b, 8, rfl, B1, by decide, by decide, fun fm H2 f0 f1 B2 c2 => ⟨_, _, rfl, ?_⟩⟩
  refine ⟨_, rfl, _, rfl, lp, _, rfl, .inl (SqL.of (c2 _ _ nlb hl1)), b, _, rfl, B2, by omega, by omega, fun at_ H3 a0 a1 B3 c3 => ?_⟩
  obtain ⟨n, rfl⟩ : ∃ n : Nat, at_ = (n : Int) := ⟨at_.toNat, by omega⟩
  have hn : n < ls.length := by omega
  have c13 := c2.trans c3
  have cH := c1.trans c13
  have hl3 := c13 _ _ nlb hl1
  have hk3 := c13 _ _ nkb hk1
  have hti := tot_split ls n
  have htd : ls.drop n = ls[n] :: ls.drop (n + 1) := List.drop_eq_getElem_cons hn
  have htc : tot (ls.drop n) = (ls[n]).length + 1 + tot (ls.drop (n + 1)) := by rw [htd, tot_cons]
  have hgn : (ls.map V.str)[n]? = some (.str ls[n]) := by rw [List.getElem?_map, List.getElem?_eq_getElem hn]; rfl
  clear c1 c2 c3 c13 hl1 hk1 B1 B2 s1
  have en : ((n : Int) + 1) = ((n + 1 : Nat) : Int) := by omega
  refine ⟨_, rfl, _, _, rfl, rfl, _, rfl, ?_⟩
  by_cases g4 : fm < 4
  case pos =>
    rw [decide_eq_true g4]
    refine iteT ?_
    obtain ⟨wne, wtot⟩ := wordsL_tot ls[n]
    refine ⟨_, rfl, _, rfl, _, rfl, lp, _, _, _, rfl, rfl, SqL.of hl3, atI_nat (j := n) hgn, ⟨_, rfl⟩, _, _, rfl, rfl, (by decide), big (by omega), fun wp hwp => ?_⟩
    have w1 : upd H3 wp (.lst ((wordsL ls[n]).map V.str)) wp = some (.lst ((wordsL ls[n]).map V.str)) := upd_same
    have s4 := same_new hwp (.lst ((wordsL ls[n]).map V.str))
    have B4 := B3.new hwp (.lst ((wordsL ls[n]).map V.str))
    refine ⟨_, rfl, b, wp, kn, wordsL ls[n], ks, rfl, B4, w1, wne, by omega, s4 _ _ hk3, hkl, hks, fun up us H5 hup hus B5 c5 => ?_⟩
    have hl5 := c5 _ _ nlb (s4 _ _ hl3)
    have c05 := (cH.trans (Ch.of s4)).trans c5
    clear w1 s4 B4
    refine ⟨⟨_, rfl⟩, _, rfl, _, rfl, _, rfl, lp, _, rfl, SqL.of hl5, fun x1 hx1 => ?_⟩
    have x1at : upd H5 x1 (.lst (cutV (ls.map V.str) none (some (n : Int)))) x1 = some (.lst ((ls.take n).map V.str)) := by
      have ec := cut_hi ls (n := n) (by omega)
      rw [upd_same, ec]
    have z1 := same_new hx1 (.lst (cutV (ls.map V.str) none (some (n : Int))))
    generalize upd H5 x1 (.lst (cutV (ls.map V.str) none (some (n : Int)))) = H6 at x1at z1 ⊢
    have e1 : (" " : Str).length = 1 := by decide
    refine ⟨⟨_, rfl⟩, _, rfl, _, up, us, rfl, rfl, .inl (SqL.of (z1 _ _ hup)), (by rw [e1, tot_sum]; omega), (by show 1 ≤ sizeLine; decide), fun x2 hx2 => ?_⟩
    have wj := wordJ_tot us
    generalize Txt.join " " us = wt at wj hx2 ⊢
    have x2at : upd H6 x2 (.lst [.str wt]) x2 = some (.lst (([wt] : List Str).map V.str)) := upd_same
    have z2 := same_new hx2 (.lst [.str wt])
    generalize upd H6 x2 (.lst [.str wt]) = H7 at x2at z2 ⊢
    refine ⟨x1, x2, _, _, rfl, rfl, z2 _ _ x1at, x2at, (by rw [List.length_map, List.length_map, List.length_take]; exact big (by show min n ls.length + 1 ≤ 1000000; omega)), fun x3 hx3 => ?_⟩
    rw [map_two]
    have x3at : upd H7 x3 (.lst ((ls.take n ++ [wt]).map V.str)) x3 = some (.lst ((ls.take n ++ [wt]).map V.str)) := upd_same
    have z3 := same_new hx3 (.lst ((ls.take n ++ [wt]).map V.str))
    generalize upd H7 x3 (.lst ((ls.take n ++ [wt]).map V.str)) = H8 at x3at z3 ⊢
    refine ⟨_, rfl, _, rfl, _, _, rfl, rfl, _, rfl, lp, _, rfl, SqL.of (z3 _ _ (z2 _ _ (z1 _ _ hl5))), fun x4 hx4 => ?_⟩
    rw [en, cut_lo]
    have x4at : upd H8 x4 (.lst ((ls.drop (n + 1)).map V.str)) x4 = some (.lst ((ls.drop (n + 1)).map V.str)) := upd_same
    have z4 := same_new hx4 (.lst ((ls.drop (n + 1)).map V.str))
    generalize upd H8 x4 (.lst ((ls.drop (n + 1)).map V.str)) = H9 at x4at z4 ⊢
    refine ⟨x3, x4, _, _, rfl, rfl, z4 _ _ x3at, x4at, (by rw [List.length_map, List.length_map, List.length_append, List.length_take, List.length_drop]; exact big (by show min n ls.length + 1 + (ls.length - (n + 1)) ≤ 1000000; omega)), fun x5 hx5 => ?_⟩
    rw [map_two]
    have z5 := same_new hx5 (.lst ((ls.take n ++ [wt] ++ ls.drop (n + 1)).map V.str))
    have sz := ((z1.trans z2).trans z3).trans z4
    have B9 : Box H9 b := by
      obtain ⟨c, s, m, e, z⟩ := B5
      exact ⟨c, s, m, sz _ _ e, z⟩
    refine jn_end (m := 3 * t.length + 40) upd_same ?_ (by omega) fun y hy => q y _ hy (B9.new hx5 _) (c05.trans (Ch.of (sz.trans z5)))
    rw [tot_app, tot_app, tot_cons, tot_nil]
    omega
  rw [decide_eq_false g4]
  refine iteF ⟨_, rfl, rfl, _, rfl, ?_⟩
  by_cases g5 : fm = 4
  case pos =>
    rw [dint_t g5]
    refine iteT ⟨⟨_, rfl⟩, _, rfl, _, rfl, _, rfl, slE (us := ls.take n) hl3 (cut_hi ls (by omega)) fun x1 H4 h1 z1 => ⟨_, rfl, _, rfl, _, _, rfl, rfl, _, rfl, slN (us := ls.drop (n + 1)) (z1 _ _ hl3) (by rw [en]; exact cut_lo ls _) fun x2 H5 h2 z2 => catE (z2 _ _ h1) h2 (by omega) fun x3 H6 h3 z3 => ?_⟩⟩
    have zz := (z1.trans z2).trans z3
    refine jn_end (m := 3 * t.length + 40) h3 ?_ (by omega) fun y hy => q y _ hy (bxs B3 zz) (cH.trans (Ch.of zz))
    rw [tot_app]
    omega
  rw [dint_f g5]
  refine iteF ⟨_, rfl, rfl, _, rfl, ?_⟩
  by_cases g6 : fm = 5
  case pos =>
    rw [dint_t g6]
    refine iteT ⟨⟨_, rfl⟩, _, rfl, _, rfl, _, rfl, slE (us := ls.take n) hl3 (cut_hi ls (by omega)) fun x1 H4 h1 z1 => ⟨_, rfl, _, rfl, lp, _, _, _, rfl, rfl, SqL.of (z1 _ _ hl3), atI_nat (j := n) hgn, (show 1 ≤ sizeLine by decide), fun x2 hx2 => ?_⟩⟩
    have h2 : upd H4 x2 (.lst [.str ls[n]]) x2 = some (.lst (([ls[n]] : List Str).map V.str)) := upd_same
    have z2 := same_new hx2 (.lst [.str ls[n]])
    generalize upd H4 x2 (.lst [.str ls[n]]) = H5 at h2 z2 ⊢
    have t1 : tot [ls[n]] = ls[n].length + 1 := by rw [tot_cons, tot_nil]
    refine catE (z2 _ _ h1) h2 (by rw [t1]; omega) fun x3 H6 h3 z3 => ⟨_, rfl, _, rfl, _, rfl, slN (us := ls.drop n) (z3 _ _ (z2 _ _ (z1 _ _ hl3))) (cut_lo ls _) fun x4 H7 h4 z4 => catE (z4 _ _ h3) h4 (by rw [tot_app, t1]; omega) fun x5 H8 h5 z5 => ?_⟩
    have zz := (((z1.trans z2).trans z3).trans z4).trans z5
    refine jn_end (m := 3 * t.length + 40) h5 ?_ (by omega) fun y hy => q y _ hy (bxs B3 zz) (cH.trans (Ch.of zz))
    rw [tot_app, tot_app, t1]
    omega
  rw [dint_f g6]
  refine iteF ⟨_, rfl, rfl, _, rfl, ?_⟩
  have en2 : ((n : Int) + 2) = ((n + 2 : Nat) : Int) := by omega
  by_cases g7 : fm = 6
  case pos =>
    rw [dint_t g7]
    obtain ⟨ms, em, tm⟩ := cut_strs ls (some (n : Int)) (some ((n : Int) + 2))
    have td2 := tot_drop_le ls (show n ≤ n + 2 by omega)
    refine iteT ⟨⟨_, rfl⟩, _, rfl, _, rfl, _, rfl, slE (us := ls.take n) hl3 (cut_hi ls (by omega)) fun x1 H4 h1 z1 => ⟨_, rfl, _, rfl, _, rfl, _, rfl, _, _, rfl, rfl, _, rfl, slE (us := ms) (z1 _ _ hl3) em fun x2 H5 h2 z2 => ⟨x2, _, rfl, SqL.of h2, fun x3 hx3 => ?_⟩⟩⟩
    rw [← List.map_reverse]
    have h3 : upd H5 x3 (.lst (ms.reverse.map V.str)) x3 = some (.lst (ms.reverse.map V.str)) := upd_same
    have z3 := same_new hx3 (.lst (ms.reverse.map V.str))
    generalize upd H5 x3 (.lst (ms.reverse.map V.str)) = H6 at h3 z3 ⊢
    have t1 := tot_rev ms
    refine catE (z3 _ _ (z2 _ _ h1)) h3 (by rw [t1]; omega) fun x4 H7 h4 z4 => ⟨_, rfl, _, rfl, _, _, rfl, rfl, _, rfl, slN (us := ls.drop (n + 2)) (z4 _ _ (z3 _ _ (z2 _ _ (z1 _ _ hl3)))) (by rw [en2]; exact cut_lo ls _) fun x5 H8 h5 z5 => catE (z5 _ _ h4) h5 (by rw [tot_app, t1]; omega) fun x6 H9 h6 z6 => ?_⟩
    have zz := ((((z1.trans z2).trans z3).trans z4).trans z5).trans z6
    refine jn_end (m := 3 * t.length + 40) h6 ?_ (by omega) fun y hy => q y _ hy (bxs B3 zz) (cH.trans (Ch.of zz))
    rw [tot_app, tot_app, t1]
    omega
  rw [dint_f g7]
  refine iteF ?_
  have tb : t.length ≤ sizeLine := big (by omega)
  refine ⟨_, rfl, _, rfl, t, rfl, tb, _, _, rfl, rfl, b, _, rfl, B3, by omega, by omega, fun a4 H4 a40 a41 B4 c4 => ?_⟩
  obtain ⟨k, rfl, hk4⟩ := int_nat a40 a41
  refine ⟨_, rfl, b, 8, rfl, B4, by decide, by decide, fun r5 H5 r50 r51 B5 c5 => ?_⟩
  obtain ⟨j, rfl, hj⟩ := int_nat r50 r51
  generalize hsg : (" \nabzA0-" : Str) = sg
  have hsl : sg.cps.toList.length = 8 := by rw [← hsg]; decide
  have hsz : sg.length ≤ sizeLine := by rw [← hsg]; decide
  have hj8 : j < sg.cps.toList.length := by omega
  refine ⟨sg, _, sg.cps.toList[j], rfl, rfl, hsz, atI_nat (List.getElem?_eq_getElem hj8), ?_⟩
  refine ⟨_, rfl, b, rfl, B5, fun sn H6 hsn B6 c6 => ⟨(show 2 ≤ sizeLine by decide), fun p7 hp7 => ?_⟩⟩
  have h7 : upd H6 p7 (.lst [.str ⟨#[sg.cps.toList[j]]⟩, .str sn]) p7 = some (.lst (([⟨#[sg.cps.toList[j]]⟩, sn] : List Str).map V.str)) := upd_same
  have B7 := B6.new hp7 (.lst [.str ⟨#[sg.cps.toList[j]]⟩, .str sn])
  have c7 := Ch.of (b := b) (same_new hp7 (.lst [.str ⟨#[sg.cps.toList[j]]⟩, .str sn]))
  generalize upd H6 p7 (.lst [.str ⟨#[sg.cps.toList[j]]⟩, .str sn]) = H7 at h7 B7 c7 ⊢
  have n7 := box_ne B7 h7
  refine ⟨_, rfl, b, 2, rfl, B7, by decide, by decide, fun r8 H8 r80 r81 B8 c8 => ?_⟩
  obtain ⟨i8, rfl, hi8⟩ := int_nat r80 r81
  refine pick (m := 1) (c8 _ _ n7 h7) hi8 (Nat.le_refl 1) hsn fun sx hsx => ⟨_, _, rfl, ?_⟩
  refine ⟨_, rfl, _, rfl, _, rfl, t, rfl, tb, _, rfl, (show 2 ≤ sizeLine by decide), fun p9 hp9 => ?_⟩
  have h9 : upd H8 p9 (.lst [.str sx, .str ""]) p9 = some (.lst (([sx, ""] : List Str).map V.str)) := upd_same
  have B9 := B8.new hp9 (.lst [.str sx, .str ""])
  have c9 := Ch.of (b := b) (same_new hp9 (.lst [.str sx, .str ""]))
  generalize upd H8 p9 (.lst [.str sx, .str ""]) = H9 at h9 B9 c9 ⊢
  have n9 := box_ne B9 h9
  refine ⟨_, rfl, b, 2, rfl, B9, by decide, by decide, fun ra Ha ra0 ra1 Ba ca => ?_⟩
  obtain ⟨ia, rfl, hia⟩ := int_nat ra0 ra1
  have l1 := sl_to_len t (i := (k : Int)) (by omega)
  refine pick (m := 1) (ca _ _ n9 h9) hia hsx (by decide) fun sy hsy => ⟨_, _, rfl, rfl, big (by omega), ?_⟩
  refine ⟨_, rfl, _, rfl, _, rfl, b, 2, rfl, Ba, by decide, by decide, fun rc Hc rc0 rc1 Bc cc => ⟨_, _, rfl, rfl, _, rfl, t, rfl, tb, ?_⟩⟩
  have l2 := sl_fr_len t (i := (k : Int) + rc) (by omega)
  have l3 : (Txt.slice t none (some (k : Int)) ++ sy).length = (Txt.slice t none (some (k : Int))).length + sy.length := str_len_app _ _
  refine ⟨_, _, rfl, rfl, big (by omega), q _ _ ?_ Bc (cH.trans (((((((c4.trans c5).trans c6).trans c7).trans c8).trans c9).trans ca).trans cc))⟩
  rw [str_len_app, l3]
  omega
end
end Td
set_option maxHeartbeats 4000000
namespace Td
open PySem PySem.Spec PyProof.Rows L2
abbrev tenW : List Str := ["", "A", "a1", "abcdefg", "zz", "rooms", "door", "faces", "walker", "none"]
theorem mem_tot {xs : List Str} {m : Nat} (h : ∀ x ∈ xs, x.length ≤ m) : tot xs ≤ (m + 1) * xs.length := by
  induction xs with
  | nil => exact Nat.zero_le _
  | cons x xs ih =>
    have h1 := h x List.mem_cons_self
    have h2 := ih fun y hy => h y (List.mem_cons_of_mem _ hy)
    rw [tot_cons, List.length_cons, Nat.mul_succ]
    omega
section
variable {P : Program} {w : World} {K : PySem.W.Frag} {mg : Str → Option Value} {base : Heap} {f : Addr} {fd : FuncData}
abbrev s_law_line_changed : Stmt := top 24
abbrev n_law_line_changed : List Str := ["box", "words", "known", "some", "letters", "drawn", "form", "at", "word", "turn"]
theorem sc_law_line_changed : FnScope n_law_line_changed ["box", "words", "known"] (defScope s_law_line_changed) := ⟨rfl, rfl, rfl, by decide +kernel, rfl, by decide +kernel, by decide +kernel⟩
theorem ok_law_line_changed (F : FnP K "_law_line_changed" s_law_line_changed f fd) (hm : mg "_law_line_changed" = some (.ref f)) (c_law_sign : Cal P w K mg base 2 "_law_sign" spSign) (c_law_take : Cal P w K mg base 1 "_law_take" spTake) (m_len : mg "len" = none) (m_range : mg "range" = none) :
    Cal P w K mg base 3 "_law_line_changed" spLineCh := by
  refine cal_of (F.ok sc_law_line_changed (fun vs H Q E h => ?_) (fun cdv A outer s H vs Q E hr h => ?_)) hm F.kp (F.bindsN (ps := ["box", "words", "known"]) fun _ _ _ _ _ _ us hl => match us, hl with | [_, _, _], _ => rfl)
  · obtain ⟨b, l, kn, ws, ks, rfl, hB, hw, wne, htw, hk, hkl, hks, q⟩ := h
    rfl
  obtain ⟨b, l, kn, ws, ks, rfl, hB, hw, wne, htw, hk, hkl, hks, q⟩ := h
  have nd := sc_law_line_changed.nd
  refine ⟨_, PSs.nox (pss_cons (ps_set (i := 3) nd rfl (Or.inl rfl) (pe_op op_cat (pe_lst (pa_cons pe_str (pa_cons pe_str (pa_cons pe_str (pa_cons pe_str (pa_cons pe_str (pa_cons pe_str (pa_cons pe_str (pa_cons pe_str (pa_cons pe_str (pa_cons pe_str pa_nil))))))))))) (pv 2)))
    (pss_cons (ps_set (i := 4) nd rfl (Or.inr rfl) pe_str)
    (pss_cons (ps_set (i := 5) nd rfl (Or.inl rfl) (show PE _ _ (tM1 (rJn K) _ _) from pe_join pe_str (pe_lc (own := [("turn", 9)]) (g := (gName 9)) (by rfl) nd (pi_range1 (by rfl) m_range (pa_cons (pe_op op_add pe_int (C8.pe_c c_law_take hr (by omega) (by rfl) (pa_cons (pv 0) (pa_cons pe_int pa_nil)))) pa_nil)) (blkOk_by (own := [("turn", 9)]) (N := n_law_line_changed) (sc := defScope s_law_line_changed) (by decide +kernel)) (fun _ _ _ _ _ => (pg_name (i := 9) nd rfl (Or.inl rfl))) (fun _ _ _ _ _ => pts_nil) (fun _ _ _ _ _ => (pe_ix ix_str (pv 4) (C8.pe_c c_law_take hr (by omega) (by rfl) (pa_cons (pv 0) (pa_cons pe_int pa_nil))) (fun _ _ => rfl))))))
    (pss_cons (ps_set (i := 3) nd rfl (Or.inl rfl) (pe_op op_cat (pv 3) (pe_lst (pa_cons (pe_op op_add_str pe_str (C8.pe_c c_law_sign hr (by omega) (by rfl) (pa_cons (pv 0) pa_nil))) (pa_cons (pe_op op_add_str (C8.pe_c c_law_sign hr (by omega) (by rfl) (pa_cons (pv 0) pa_nil)) pe_str) (pa_cons (pv 5) (pa_cons (pv 5) (pa_cons (pv 5) pa_nil))))))))
    (pss_cons (ps_par3 (i := 6) (j := 7) (l := 8) (by rfl) nd rfl rfl rfl (by decide) (by decide) (by decide) rfl rfl rfl (pa_cons (C8.pe_c c_law_take hr (by omega) (by rfl) (pa_cons (pv 0) (pa_cons pe_int pa_nil))) (pa_cons (C8.pe_c c_law_take hr (by omega) (by rfl) (pa_cons (pv 0) (pa_cons (pe_callB (r := rLn K) call_len_seq (by rfl) m_len PySem.boot_len (pa_cons (pv 1) pa_nil)) pa_nil))) (pa_cons (pe_ix (r := rIxL K) ix_list (pv 3) (C8.pe_c c_law_take hr (by omega) (by rfl) (pa_cons (pv 0) (pa_cons (pe_callB (r := rLn K) call_len_seq (by rfl) m_len PySem.boot_len (pa_cons (pv 3) pa_nil)) pa_nil))) (fun _ _ => rfl)) pa_nil))) (by rfl))
    (pss_cons (ps_if (pt_cmpR op_eq (pv 6) pe_int (nomark _)) (pss_one (ps_ret (pe_op op_cat (pe_slice (r := rSlL K) sl_list (pv 1) po_none (po_some (pv 7))) (pe_slice (r := rSlL K) sl_list (pv 1) (po_some (pe_op op_add (pv 7) pe_int)) po_none)))) pss_nil)
    (pss_cons (ps_if (pt_cmpR op_eq (pv 6) pe_int (nomark _)) (pss_one (ps_ret (pe_op op_cat (pe_op op_cat (pe_slice (r := rSlL K) sl_list (pv 1) po_none (po_some (pv 7))) (pe_lst (pa_cons (pv 8) pa_nil))) (pe_slice (r := rSlL K) sl_list (pv 1) (po_some (pv 7)) po_none)))) pss_nil)
    (pss_cons (ps_if (pt_cmpR op_eq (pv 6) pe_int (nomark _)) (pss_one (ps_ret (pe_op op_cat (pe_op op_cat (pe_slice (r := rSlL K) sl_list (pv 1) po_none (po_some (pv 7))) (pe_lst (pa_cons (pe_ix (r := rIxL K) ix_list (pv 1) (pv 7) (fun _ _ => rfl)) pa_nil))) (pe_slice (r := rSlL K) sl_list (pv 1) (po_some (pv 7)) po_none)))) pss_nil)
    (pss_cons (ps_if (pt_cmpR op_eq (pv 6) pe_int (nomark _)) (pss_one (ps_ret (pe_op op_cat (pe_op op_cat (pe_slice (r := rSlL K) sl_list (pv 1) po_none (po_some (pv 7))) (pe_revL (pe_slice (r := rSlL K) sl_list (pv 1) (po_some (pv 7)) (po_some (pe_op op_add (pv 7) pe_int))))) (pe_slice (r := rSlL K) sl_list (pv 1) (po_some (pe_op op_add (pv 7) pe_int)) po_none)))) pss_nil)
    (pss_cons (ps_if (pt_cmpR op_eq (C8.pe_c c_law_take hr (by omega) (by rfl) (pa_cons (pv 0) (pa_cons pe_int pa_nil))) pe_int (nomark _)) (pss_one (ps_set (i := 8) nd rfl (Or.inl rfl) (pe_op op_add_str (show PE _ _ (tBM0 K _ _ _) from pe_bm0 PySem.F.plainAttrs_str PySem.F.slot_str_upper PySem.F.type_str_upper mt_upper (pe_slice C8.sl_txt (pe_ix (r := rIxL K) ix_list (pv 1) (pv 7) (fun _ _ => rfl)) po_none (po_some pe_int))) (pe_slice C8.sl_txt (pe_ix (r := rIxL K) ix_list (pv 1) (pv 7) (fun _ _ => rfl)) (po_some pe_int) po_none)))) pss_nil)
    (pss_one (ps_ret (pe_op op_cat (pe_op op_cat (pe_slice (r := rSlL K) sl_list (pv 1) po_none (po_some (pv 7))) (pe_lst (pa_cons (pv 8) pa_nil))) (pe_slice (r := rSlL K) sl_list (pv 1) (po_some (pe_op op_add (pv 7) pe_int)) po_none)))))))))))))), ?_⟩
  have big : ∀ {n : Nat}, n ≤ 1000000 → n ≤ sizeLine := fun h => Nat.le_trans h (by decide)
  have nkb := box_ne hB hk
  have nlb := box_ne hB hw
  have wl := tot_len ws
  have ws1 : 1 ≤ ws.length := by
    cases ws with
    | nil => exact absurd rfl wne
    | cons a r => exact Nat.succ_le_succ (Nat.zero_le _)
  have tk := mem_tot hks
  have tt : tot tenW = 46 := by decide
  have t20 : ∀ x ∈ tenW ++ ks, x.length ≤ 20 := fun x hx => by
    rcases List.mem_append.mp hx with hx | hx
    · exact (show ∀ x ∈ tenW, x.length ≤ 20 by decide) x hx
    · exact hks x hx
  -- some
  refine ⟨(show 10 ≤ sizeLine by decide), fun p0 hp0 => ?_⟩
  have h0 : upd H p0 (.lst [.str "", .str "A", .str "a1", .str "abcdefg", .str "zz", .str "rooms", .str "door", .str "faces", .str "walker", .str "none"]) p0 = some (.lst (tenW.map V.str)) := upd_same
  have s0 := same_new hp0 (.lst [.str "", .str "A", .str "a1", .str "abcdefg", .str "zz", .str "rooms", .str "door", .str "faces", .str "walker", .str "none"])
  have B0 := bxs hB s0
  have c0 := Ch.of (b := b) s0
  have hk0 := s0 _ _ hk
  have hw0 := s0 _ _ hw
  generalize upd H p0 (.lst [.str "", .str "A", .str "a1", .str "abcdefg", .str "zz", .str "rooms", .str "door", .str "faces", .str "walker", .str "none"]) = H0 at h0 s0 B0 c0 hk0 hw0 ⊢
  have lt1 : (tenW ++ ks).length ≤ 50 := by rw [List.length_append]; exact (show 10 + ks.length ≤ 50 by omega)
  have tk1 : tot (tenW ++ ks) ≤ 1050 := by
    have e := mem_tot t20
    have e2 : 21 * (tenW ++ ks).length ≤ 21 * 50 := Nat.mul_le_mul_left _ lt1
    omega
  refine ⟨_, rfl, catE h0 hk0 (by rw [← tot_app]; omega) fun sp H1 hs1 s1 => ?_⟩
  have B1 := bxs B0 s1
  have c1 := c0.trans (Ch.of (b := b) s1)
  have hw1 := s1 _ _ hw0
  have nsb := box_ne B1 hs1
  clear h0 s0 hk0 hw0
  generalize tenW ++ ks = so at t20 lt1 tk1 hs1
  -- drawn
  refine ⟨⟨_, rfl⟩, _, rfl, b, 9, rfl, B1, by decide, by decide, fun r1 H2 r10 r11 B2 c2 => ⟨_, _, rfl, rfl, _, rfl, by omega, by omega, fun D hD => ?_⟩⟩
  have nDb : D ≠ b := B2.ne hD
  refine lc_range (lo := 0) (n := (1 + r1).toNat) (fun i H3 => Box H3 b ∧ Ch b H2 H3 ∧ ∃ cs : List Nat, H3 D = some (.lst (cs.map fun c => V.str (SX.S [c]))) ∧ cs.length = i) ⟨B2.new hD _, (Ch.refl b H2).new hD _, [], upd_same, rfl⟩ (fun i H3 hi ⟨B3, c3, cs, hcs, hl⟩ => ?_) (fun H3 ⟨B3, c3, cs, hcs, hl⟩ => ?_)
  · refine ⟨rfl, lcY ?_⟩
    refine ⟨_, rfl, _, rfl, b, 26, rfl, B3, by decide, by decide, fun r2 H4 r20 r21 B4 c4 => ⟨_, _, _, rfl, rfl, (by decide), letter r20 r21, _, c4 D _ nDb hcs, ?_, ?_⟩⟩
    · rw [List.length_map, hl]; exact Nat.lt_of_lt_of_le (show i < 100 by omega) (by decide)
    · refine ⟨?_, ?_, cs ++ [97 + r2.toNat], ?_, by rw [List.length_append, hl]; rfl⟩
      · obtain ⟨x, y, z, e, e2⟩ := B4
        exact ⟨x, y, z, by rw [upd_ne nDb.symm]; exact e, e2⟩
      · intro a o na ha
        have hda : a ≠ D := ne_of_none ha hD
        rw [upd_ne hda]
        exact c4 a o na (c3 a o na ha)
      · rw [upd_same, List.map_append]
        rfl
  have e0 : cs.map (fun c => V.str (SX.S [c])) = ((cs.map fun c => [c]).map SX.S).map V.str := by rw [List.map_map, List.map_map]; rfl
  have ec1 : (((cs.map fun c => [c]).map SX.S).map (·.length)).sum = cs.length := by
    have e1 : (((cs.map fun c => [c]).map SX.S).map (·.length)) = cs.map fun _ => 1 := by
      rw [List.map_map, List.map_map]
      exact List.map_congr_left fun c _ => SX.S_len [c]
    rw [e1]
    clear e1 e0 hcs hl
    induction cs with
    | nil => rfl
    | cons c cs ih => simp [ih]; omega
  refine ⟨_, D, (cs.map fun c => [c]).map SX.S, rfl, rfl, .inl (SqL.of (by rw [← e0]; exact hcs)), ?_, ?_⟩
  · rw [ec1, hl, show (("" : Str)).length = 0 by decide, Nat.mul_zero]
    omega
  have ej : Txt.join ("" : Str) ((cs.map fun c => [c]).map SX.S) = SX.S cs := by
    have e := SX.join_S [] (cs.map fun c => [c])
    rw [join_nil] at e
    exact e
  rw [ej]
  have hdl : (SX.S cs).length ≤ 9 := by rw [SX.S_len]; omega
  generalize SX.S cs = dn at hdl
  clear ej e0 ec1 hcs hl
  have cH3 := (c1.trans c2).trans c3
  have hw3 := c3 _ _ nlb (c2 _ _ nlb hw1)
  have hs3 := c3 _ _ nsb (c2 _ _ nsb hs1)
  clear hw1 hs1 c1 c2 c3 B0 B1 B2 c0 hD cs
  -- some = some + [..]
  refine ⟨_, rfl, _, rfl, b, rfl, B3, fun g1 H4 hg1 B4 c4 => ⟨_, _, rfl, rfl, big (show ("a" : Str).length + g1.length ≤ 1000000 from Nat.le_trans (Nat.add_le_add_left hg1 _) (by decide)), _, rfl, b, rfl, B4, fun g2 H5 hg2 B5 c5 => ⟨_, _, rfl, rfl, big (show g2.length + ("b" : Str).length ≤ 1000000 from Nat.le_trans (Nat.add_le_add_right hg2 _) (by decide)), _, rfl, _, rfl, _, rfl, (show 5 ≤ sizeLine by decide), fun p6 hp6 => ?_⟩⟩⟩
  have l1 : (("a" : Str) ++ g1).length ≤ 2 := by rw [str_len_app]; exact Nat.le_trans (Nat.add_le_add_left hg1 _) (by decide)
  have l2 : (g2 ++ ("b" : Str)).length ≤ 2 := by rw [str_len_app]; exact Nat.le_trans (Nat.add_le_add_right hg2 _) (by decide)
  generalize ("a" : Str) ++ g1 = w1 at l1 hp6 ⊢
  generalize g2 ++ ("b" : Str) = w2 at l2 hp6 ⊢
  have h6 : upd H5 p6 (.lst [.str w1, .str w2, .str dn, .str dn, .str dn]) p6 = some (.lst (([w1, w2, dn, dn, dn] : List Str).map V.str)) := upd_same
  have s6 := same_new hp6 (.lst [.str w1, .str w2, .str dn, .str dn, .str dn])
  generalize upd H5 p6 (.lst [.str w1, .str w2, .str dn, .str dn, .str dn]) = H6 at h6 s6 ⊢
  have t6 : tot [w1, w2, dn, dn, dn] ≤ 36 := by
    rw [tot_cons, tot_cons, tot_cons, tot_cons, tot_cons, tot_nil]
    omega
  have c45 := c4.trans c5
  refine catE (s6 _ _ (c45 _ _ nsb hs3)) h6 (by omega) fun sq H7 hs7 s7 => ?_
  have m20 : ∀ x ∈ so ++ [w1, w2, dn, dn, dn], x.length ≤ 20 := fun x hx => by
    rcases List.mem_append.mp hx with hx | hx
    · exact t20 x hx
    · simp only [List.mem_cons, List.not_mem_nil, or_false] at hx
      rcases hx with rfl | rfl | rfl | rfl | rfl <;> omega
  have lt7 : (so ++ [w1, w2, dn, dn, dn]).length = so.length + 5 := List.length_append
  have s67 := s6.trans s7
  have B7 := bxs B5 s67
  have cH7 := (cH3.trans c45).trans (Ch.of s67)
  have hw7 := s67 _ _ (c45 _ _ nlb hw3)
  have nqb := box_ne B7 hs7
  generalize so ++ [w1, w2, dn, dn, dn] = sx at hs7 m20 lt7
  clear h6 s6 s7 s67 c45 c4 c5 hs3 hw3 B3 B4 B5 cH3 l1 l2 t6 hp6
  have lsx : (sx.map V.str).length = sx.length := List.length_map _
  have lws : (ws.map V.str).length = ws.length := List.length_map _
  -- form, at, word
  refine ⟨_, rfl, b, 5, rfl, B7, by decide, by decide, fun fm H8 f0 f1 B8 c8 => ?_⟩
  refine ⟨_, rfl, _, rfl, l, _, rfl, .inl (SqL.of (c8 _ _ nlb hw7)), b, _, rfl, B8, by omega, by omega, fun at_ H9 a0 a1 B9 c9 => ?_⟩
  obtain ⟨n, rfl⟩ : ∃ n : Nat, at_ = (n : Int) := ⟨at_.toNat, by omega⟩
  have hn : n < ws.length := by omega
  refine ⟨_, rfl, _, rfl, _, rfl, sq, _, rfl, .inl (SqL.of (c9 _ _ nqb (c8 _ _ nqb hs7))), b, _, rfl, B9, by omega, by omega, fun ix HA i0 i1 BA cA => ?_⟩
  obtain ⟨k, rfl⟩ : ∃ k : Nat, ix = (k : Int) := ⟨ix.toNat, by omega⟩
  have hkx : k < sx.length := by omega
  have c8A := (c8.trans c9).trans cA
  have hxv : (sx.map V.str)[k]? = some (.str sx[k]) := by rw [List.getElem?_map, List.getElem?_eq_getElem hkx]; rfl
  refine ⟨sq, _, _, _, rfl, rfl, SqL.of (c8A _ _ nqb hs7), atI_nat (j := k) hxv, ⟨_, _, _, rfl, ?_⟩⟩
  have hwl : (sx[k]).length ≤ 20 := m20 _ (List.getElem_mem hkx)
  generalize sx[k] = wd at hwl ⊢
  have hwA := c8A _ _ nlb hw7
  have cHA := cH7.trans c8A
  clear hs7 hw7 c8 c9 cA c8A hxv B7 B8 B9 cH7 m20
  have hti := tot_split ws n
  have htd : ws.drop n = ws[n] :: ws.drop (n + 1) := List.drop_eq_getElem_cons hn
  have htc : tot (ws.drop n) = (ws[n]).length + 1 + tot (ws.drop (n + 1)) := by rw [htd, tot_cons]
  have hgn : (ws.map V.str)[n]? = some (.str ws[n]) := by rw [List.getElem?_map, List.getElem?_eq_getElem hn]; rfl
  have en : ((n : Int) + 1) = ((n + 1 : Nat) : Int) := by omega
  have en2 : ((n : Int) + 2) = ((n + 2 : Nat) : Int) := by omega
  -- form 0
  refine ⟨_, rfl, rfl, _, rfl, ?_⟩
  by_cases g0 : fm = 0
  case pos =>
    rw [dint_t g0]
    refine iteT ⟨_, rfl, _, rfl, _, rfl, slE (us := ws.take n) hwA (cut_hi ws (by omega)) fun x1 H4 h1 z1 => ⟨_, rfl, _, rfl, _, _, rfl, rfl, _, rfl, slN (us := ws.drop (n + 1)) (z1 _ _ hwA) (by rw [en]; exact cut_lo ws _) fun x2 H5 h2 z2 => catE (z2 _ _ h1) h2 (by omega) fun x3 H6 h3 z3 => ?_⟩⟩
    have zz := (z1.trans z2).trans z3
    exact q x3 _ _ h3 (by rw [tot_app]; omega) (bxs BA zz) (cHA.trans (Ch.of zz))
  rw [dint_f g0]
  -- form 1
  refine iteF ⟨_, rfl, rfl, _, rfl, ?_⟩
  by_cases g1 : fm = 1
  case pos =>
    rw [dint_t g1]
    refine iteT ⟨_, rfl, _, rfl, _, rfl, slE (us := ws.take n) hwA (cut_hi ws (by omega)) fun x1 H4 h1 z1 => ⟨_, rfl, (show 1 ≤ sizeLine by decide), fun x2 hx2 => ?_⟩⟩
    have h2 : upd H4 x2 (.lst [.str wd]) x2 = some (.lst (([wd] : List Str).map V.str)) := upd_same
    have z2 := same_new hx2 (.lst [.str wd])
    generalize upd H4 x2 (.lst [.str wd]) = H5 at h2 z2 ⊢
    have t1 : tot [wd] = wd.length + 1 := by rw [tot_cons, tot_nil]
    refine catE (z2 _ _ h1) h2 (by rw [t1]; omega) fun x3 H6 h3 z3 => ⟨_, rfl, _, rfl, _, rfl, slN (us := ws.drop n) (z3 _ _ (z2 _ _ (z1 _ _ hwA))) (cut_lo ws _) fun x4 H7 h4 z4 => catE (z4 _ _ h3) h4 (by rw [tot_app, t1]; omega) fun x5 H8 h5 z5 => ?_⟩
    have zz := (((z1.trans z2).trans z3).trans z4).trans z5
    exact q x5 _ _ h5 (by rw [tot_app, tot_app, t1]; omega) (bxs BA zz) (cHA.trans (Ch.of zz))
  rw [dint_f g1]
  -- form 2
  refine iteF ⟨_, rfl, rfl, _, rfl, ?_⟩
  by_cases g2 : fm = 2
  case pos =>
    rw [dint_t g2]
    refine iteT ⟨_, rfl, _, rfl, _, rfl, slE (us := ws.take n) hwA (cut_hi ws (by omega)) fun x1 H4 h1 z1 => ⟨_, rfl, _, rfl, l, _, _, _, rfl, rfl, SqL.of (z1 _ _ hwA), atI_nat (j := n) hgn, (show 1 ≤ sizeLine by decide), fun x2 hx2 => ?_⟩⟩
    have h2 : upd H4 x2 (.lst [.str ws[n]]) x2 = some (.lst (([ws[n]] : List Str).map V.str)) := upd_same
    have z2 := same_new hx2 (.lst [.str ws[n]])
    generalize upd H4 x2 (.lst [.str ws[n]]) = H5 at h2 z2 ⊢
    have t1 : tot [ws[n]] = ws[n].length + 1 := by rw [tot_cons, tot_nil]
    refine catE (z2 _ _ h1) h2 (by rw [t1]; omega) fun x3 H6 h3 z3 => ⟨_, rfl, _, rfl, _, rfl, slN (us := ws.drop n) (z3 _ _ (z2 _ _ (z1 _ _ hwA))) (cut_lo ws _) fun x4 H7 h4 z4 => catE (z4 _ _ h3) h4 (by rw [tot_app, t1]; omega) fun x5 H8 h5 z5 => ?_⟩
    have zz := (((z1.trans z2).trans z3).trans z4).trans z5
    exact q x5 _ _ h5 (by rw [tot_app, tot_app, t1]; omega) (bxs BA zz) (cHA.trans (Ch.of zz))
  rw [dint_f g2]
  -- form 3
  refine iteF ⟨_, rfl, rfl, _, rfl, ?_⟩
  by_cases g3 : fm = 3
  case pos =>
    rw [dint_t g3]
    obtain ⟨ms, em, tm⟩ := cut_strs ws (some (n : Int)) (some ((n : Int) + 2))
    have td2 := tot_drop_le ws (show n ≤ n + 2 by omega)
    refine iteT ⟨_, rfl, _, rfl, _, rfl, slE (us := ws.take n) hwA (cut_hi ws (by omega)) fun x1 H4 h1 z1 => ⟨_, rfl, _, rfl, _, rfl, _, rfl, _, _, rfl, rfl, _, rfl, slE (us := ms) (z1 _ _ hwA) em fun x2 H5 h2 z2 => ⟨x2, _, rfl, SqL.of h2, fun x3 hx3 => ?_⟩⟩⟩
    rw [← List.map_reverse]
    have h3 : upd H5 x3 (.lst (ms.reverse.map V.str)) x3 = some (.lst (ms.reverse.map V.str)) := upd_same
    have z3 := same_new hx3 (.lst (ms.reverse.map V.str))
    generalize upd H5 x3 (.lst (ms.reverse.map V.str)) = H6 at h3 z3 ⊢
    have t1 := tot_rev ms
    refine catE (z3 _ _ (z2 _ _ h1)) h3 (by rw [t1]; omega) fun x4 H7 h4 z4 => ⟨_, rfl, _, rfl, _, _, rfl, rfl, _, rfl, slN (us := ws.drop (n + 2)) (z4 _ _ (z3 _ _ (z2 _ _ (z1 _ _ hwA)))) (by rw [en2]; exact cut_lo ws _) fun x5 H8 h5 z5 => catE (z5 _ _ h4) h5 (by rw [tot_app, t1]; omega) fun x6 H9 h6 z6 => ?_⟩
    have zz := ((((z1.trans z2).trans z3).trans z4).trans z5).trans z6
    exact q x6 _ _ h6 (by rw [tot_app, tot_app, t1]; omega) (bxs BA zz) (cHA.trans (Ch.of zz))
  rw [dint_f g3]
  refine iteF ?_
  have hln : (ws[n]).length ≤ 100001 := by omega
  -- now and then a great letter
  refine ⟨_, rfl, b, 4, rfl, BA, by decide, by decide, fun rB HB rB0 rB1 BB cB => ⟨rfl, _, rfl, ?_⟩⟩
  have hwB := cB _ _ nlb hwA
  have cHB := cHA.trans cB
  by_cases gB : rB = 0
  case pos =>
    rw [dint_t gB]
    refine iteT ?_
    have hsz := big (Nat.le_trans hln (show 100001 ≤ 1000000 by decide))
    refine ⟨_, rfl, _, rfl, l, _, _, _, rfl, rfl, SqL.of hwB, atI_nat (j := n) hgn, _, rfl, _, rfl, hsz, ?_⟩
    have lu := PyProof.Rows.len_upper (Txt.slice ws[n] none (some 1))
    have l1 : (Txt.slice ws[n] none (some 1)).length ≤ 1 := by
      rw [← S_cs' ws[n], SX.slice_to (by decide), SX.S_len, List.length_take]
      exact Nat.min_le_left _ _
    have l2 := sl_fr_len ws[n] (i := 1) (by decide)
    refine ⟨rfl, _, rfl, rfl, Nat.le_trans l1 (by decide), _, rfl, _, rfl, l, _, _, _, rfl, rfl, SqL.of hwB, atI_nat (j := n) hgn, _, rfl, _, rfl, hsz, _, _, rfl, rfl, big (by omega), ?_⟩
    have lc : (Txt.upper (Txt.slice ws[n] none (some 1)) ++ Txt.slice ws[n] (some 1) none).length ≤ 24 + ws[n].length := by rw [str_len_app]; omega
    generalize Txt.upper (Txt.slice ws[n] none (some 1)) ++ Txt.slice ws[n] (some 1) none = wv at lc ⊢
    refine ⟨_, rfl, _, rfl, _, rfl, slE (us := ws.take n) hwB (cut_hi ws (by omega)) fun x1 H4 h1 z1 => ⟨_, rfl, (show 1 ≤ sizeLine by decide), fun x2 hx2 => ?_⟩⟩
    have h2 : upd H4 x2 (.lst [.str wv]) x2 = some (.lst (([wv] : List Str).map V.str)) := upd_same
    have z2 := same_new hx2 (.lst [.str wv])
    generalize upd H4 x2 (.lst [.str wv]) = H5 at h2 z2 ⊢
    have t1 : tot [wv] = wv.length + 1 := by rw [tot_cons, tot_nil]
    refine catE (z2 _ _ h1) h2 (by rw [t1]; omega) fun x3 H6 h3 z3 => ⟨_, rfl, _, rfl, _, _, rfl, rfl, _, rfl, slN (us := ws.drop (n + 1)) (z3 _ _ (z2 _ _ (z1 _ _ hwB))) (by rw [en]; exact cut_lo ws _) fun x4 H7 h4 z4 => catE (z4 _ _ h3) h4 (by rw [tot_app, t1]; omega) fun x5 H8 h5 z5 => ?_⟩
    have zz := (((z1.trans z2).trans z3).trans z4).trans z5
    exact q x5 _ _ h5 (by rw [tot_app, tot_app, t1]; omega) (bxs BB zz) (cHB.trans (Ch.of zz))
  rw [dint_f gB]
  refine iteF ?_
  refine ⟨_, rfl, _, rfl, _, rfl, slE (us := ws.take n) hwB (cut_hi ws (by omega)) fun x1 H4 h1 z1 => ⟨_, rfl, (show 1 ≤ sizeLine by decide), fun x2 hx2 => ?_⟩⟩
  have h2 : upd H4 x2 (.lst [.str wd]) x2 = some (.lst (([wd] : List Str).map V.str)) := upd_same
  have z2 := same_new hx2 (.lst [.str wd])
  generalize upd H4 x2 (.lst [.str wd]) = H5 at h2 z2 ⊢
  have t1 : tot [wd] = wd.length + 1 := by rw [tot_cons, tot_nil]
  refine catE (z2 _ _ h1) h2 (by rw [t1]; omega) fun x3 H6 h3 z3 => ⟨_, rfl, _, rfl, _, _, rfl, rfl, _, rfl, slN (us := ws.drop (n + 1)) (z3 _ _ (z2 _ _ (z1 _ _ hwB))) (by rw [en]; exact cut_lo ws _) fun x4 H7 h4 z4 => catE (z4 _ _ h3) h4 (by rw [tot_app, t1]; omega) fun x5 H8 h5 z5 => ?_⟩
  have zz := (((z1.trans z2).trans z3).trans z4).trans z5
  exact q x5 _ _ h5 (by rw [tot_app, tot_app, t1]; omega) (bxs BB zz) (cHB.trans (Ch.of zz))
end
end Td
set_option maxHeartbeats 4000000
namespace Td
open PySem PySem.Spec PyProof.Rows L2
theorem joinL0 : ∀ ps : List (List Nat), (TL.joinL [] ps).length ≤ (ps.map fun p => p.length + 1).sum
  | [] => Nat.zero_le _
  | [p] => by
    show p.length ≤ _
    simp
  | p :: q :: r => by
    have ih := joinL0 (q :: r)
    have e2 : (TL.joinL [] (p :: q :: r)).length = p.length + (TL.joinL [] (q :: r)).length := by
      show (p ++ ([] ++ TL.joinL [] (q :: r))).length = _
      rw [List.nil_append, List.length_append]
    rw [e2, List.map_cons, List.sum_cons]
    omega
theorem nulJ_tot (ys : List Str) : (Txt.join "" ys).length ≤ tot ys := by
  have e : (Txt.join (SX.S []) ys) = SX.S (TL.joinL [] (ys.map cs)) := by
    have e := SX.join_S [] (ys.map cs)
    rw [map_S_cs] at e
    exact e
  show (Txt.join (SX.S []) ys).length ≤ tot ys
  rw [e, SX.S_len]
  refine Nat.le_trans (joinL0 _) ?_
  unfold tot
  rw [List.map_map]
  refine Nat.le_of_eq (congrArg List.sum (List.map_congr_left fun x _ => ?_))
  show (cs x).length + 1 = x.length + 1
  rw [cs_len]
theorem big9 {n : Nat} (h : n ≤ 1000) : n ≤ sizeLine := Nat.le_trans h (by decide)
section
variable {P : Program} {w : World} {K : PySem.W.Frag} {mg : Str → Option Value} {base : Heap} {f : Addr} {fd : FuncData}
abbrev s_law : Stmt := top 26
abbrev n_law : List Str := ["script", "k", "box", "hall", "turn", "long", "wide", "text", "good", "known", "more", "one", "door", "sign"]
theorem sc_law : FnScope n_law ["script"] (defScope s_law) := ⟨rfl, rfl, rfl, by decide +kernel, rfl, by decide +kernel, by decide +kernel⟩
theorem ok_law (F : FnP K "law" s_law f fd) (c_law_alike : Cal P w K mg base 5 "_law_alike" (spAlike 5)) (c_law_box : Cal P w K mg base 1 "_law_box" (spBox K)) (c_law_changed : Cal P w K mg base 4 "_law_changed" spChanged) (c_law_hall : Cal P w K mg base 3 "_law_hall" spHall) (c_law_hall_text : Cal P w K mg base 1 "_law_hall_text" (spFmt "rooms" "door")) (c_law_read : Cal P w K mg base 2 "_law_read" spReadH) (c_law_take : Cal P w K mg base 1 "_law_take" spTake) (c_law_told : Cal P w K mg base 4 "_law_told" spReadH) (m_len : mg "len" = none) (m_list : mg "list" = none) (m_max : mg "max" = none) (m_min : mg "min" = none) (m_range : mg "range" = none) :
    FnOk P w K mg base C8.CX0 6 f fd ["script"] (spLaw K) := by
  refine F.ok sc_law (fun vs H Q E h => ?_) (fun cdv A outer s H vs Q E hr h => ?_)
  · obtain ⟨a, ns, rfl, hS, h63, q⟩ := h
    rfl
  obtain ⟨a, ns, rfl, hS, h63, q⟩ := h
  have nd := sc_law.nd
  refine ⟨_, PSs.nox (pss_cons (ps_for PassesOwn.never rfl (pi_range1 (by rfl) m_range (pa_cons (pe_callB (call_max2 rfl) (by rfl) m_max (by decide +kernel) (pa_cons pe_int (pa_cons (pe_callB (call_min2 rfl) (by rfl) m_min (by decide +kernel) (pa_cons pe_int (pa_cons (pe_callB (r := rLn K) call_len_seq (by rfl) m_len PySem.boot_len (pa_cons (pv 0) pa_nil)) pa_nil))) pa_nil))) pa_nil)) (pg_name (i := 1) nd rfl (Or.inl rfl)) (pss_cons (ps_set (i := 2) nd rfl (Or.inl rfl) (C8.pe_c c_law_box hr (by omega) (by rfl) (pa_cons (pv 0) (pa_cons (pv 1) pa_nil))))
    (pss_cons (ps_set (i := 3) nd rfl (Or.inl rfl) (C8.pe_c c_law_hall hr (by omega) (by rfl) (pa_cons (pv 2) (pa_cons pe_int (pa_cons (pe_ix (r := rIxL K) ix_list (pe_lst (pa_cons pe_int (pa_cons pe_int pa_nil))) (C8.pe_c c_law_take hr (by omega) (by rfl) (pa_cons (pv 2) (pa_cons pe_int pa_nil))) (fun _ _ => rfl)) pa_nil)))))
    (pss_cons (ps_par (i := 8) (j := 9) (by rfl) nd rfl rfl (by decide) rfl rfl (pa_cons (C8.pe_c c_law_hall_text hr (by omega) (by rfl) (pa_cons (pv 3) pa_nil)) (pa_cons (pe_op op_cat (pe_callTy (r := rLsOf K) call_list_of (by rfl) m_list (by decide +kernel) (pa_cons (pe_ix (r := rIxT K) ix_tup (pv 3) pe_int (fun _ _ => rfl)) pa_nil)) (pe_lc (own := [("door", 12)]) (g := (gName 12)) (by rfl) nd (pi_tup (pe_ix (r := rIxT K) ix_tup (pv 3) pe_int (fun _ _ => rfl))) (blkOk_by (own := [("door", 12)]) (N := n_law) (sc := defScope s_law) (by decide +kernel)) (fun _ _ _ _ _ => (pg_name (i := 12) nd rfl (Or.inl rfl))) (fun _ _ _ _ _ => pts_nil) (fun _ _ _ _ _ => (pe_ix (r := rIxT K) ix_tup (pv 12) pe_int (fun _ _ => rfl))))) pa_nil)) (by rfl))
    (pss_cons (ps_for PassesOwn.never rfl (pi_range1 (by rfl) m_range (pa_cons pe_int pa_nil)) (pg_name (i := 4) nd rfl (Or.inl rfl)) (pss_cons (ps_set (i := 7) nd rfl (Or.inl rfl) (pv 8))
    (pss_cons (ps_for PassesOwn.never rfl (pi_range1 (by rfl) m_range (pa_cons (pe_op op_add pe_int (C8.pe_c c_law_take hr (by omega) (by rfl) (pa_cons (pv 2) (pa_cons pe_int pa_nil)))) pa_nil)) (pg_name (i := 10) nd rfl (Or.inl rfl)) (pss_one (ps_set (i := 7) nd rfl (Or.inl rfl) (C8.pe_c c_law_changed hr (by omega) (by rfl) (pa_cons (pv 2) (pa_cons (pv 7) (pa_cons (pv 9) pa_nil)))))))
    (pss_one (ps_for PassesOwn.never rfl (pi_tup (pe_tup (pa_cons (pv 7) (pa_cons (pv 8) pa_nil)))) (pg_name (i := 11) nd rfl (Or.inl rfl)) (pss_one (ps_if (pt_not (pt_val (C8.pe_c c_law_alike hr (by omega) (by rfl) (pa_cons (C8.pe_c c_law_told hr (by omega) (by rfl) (pa_cons (pv 11) pa_nil)) (pa_cons (C8.pe_c c_law_read hr (by omega) (by rfl) (pa_cons (pv 11) pa_nil)) pa_nil))))) (pss_one (ps_ret pe_bl)) pss_nil)))))))
    (pss_cons (ps_set (i := 5) nd rfl (Or.inl rfl) (pe_op op_add_str pe_str (show PE _ _ (tM1 (rJn K) _ _) from pe_join pe_str (pe_lc (own := [("sign", 13)]) (g := (gName 13)) (by rfl) nd (pi_str (pe_slice C8.sl_txt pe_str po_none (po_some (pe_op op_add pe_int (C8.pe_c c_law_take hr (by omega) (by rfl) (pa_cons (pv 2) (pa_cons pe_int pa_nil))))))) (blkOk_by (own := [("sign", 13)]) (N := n_law) (sc := defScope s_law) (by decide +kernel)) (fun _ _ _ _ _ => (pg_name (i := 13) nd rfl (Or.inl rfl))) (fun _ _ _ _ _ => pts_nil) (fun _ _ _ _ _ => (pe_op op_add_str (pe_op op_add_str pe_str (pv 13)) pe_str))))))
    (pss_cons (ps_set (i := 6) nd rfl (Or.inl rfl) (pe_op op_add_str (pe_op op_add_str pe_str (show PE _ _ (tM1 (rJn K) _ _) from pe_join pe_str (pe_callTy (r := rLsStr) (call_list_txt (by rfl)) (by rfl) m_list (by decide +kernel) (pa_cons (pe_slice C8.sl_txt pe_str po_none (po_some (pe_op op_add pe_int (C8.pe_c c_law_take hr (by omega) (by rfl) (pa_cons (pv 2) (pa_cons pe_int pa_nil)))))) pa_nil)))) pe_str))
    (pss_one (ps_for PassesOwn.never rfl (pi_tup (pe_tup (pa_cons (pv 5) (pa_cons (pv 6) (pa_cons pe_str pa_nil))))) (pg_name (i := 7) nd rfl (Or.inl rfl)) (pss_one (ps_if (pt_not (pt_val (C8.pe_c c_law_alike hr (by omega) (by rfl) (pa_cons (C8.pe_c c_law_told hr (by omega) (by rfl) (pa_cons (pv 7) pa_nil)) (pa_cons (C8.pe_c c_law_read hr (by omega) (by rfl) (pa_cons (pv 7) pa_nil)) pa_nil))))) (pss_one (ps_ret pe_bl)) pss_nil)))))))))))
    (pss_one (ps_ret pe_bl))), ?_⟩
  have hlen : (ns.map V.int).length = ns.length := List.length_map _
  refine ⟨_, rfl, a, _, rfl, .inl hS, _, _, rfl, _, _, rfl, _, rfl, ?_, ?_, ?_⟩
  · rw [hlen]
    split <;> split <;> omega
  · rw [hlen]
    split <;> split <;> omega
  refine for_range (lo := 0) (fun i σ' H' => SqL K H' a (ns.map V.int) ∧ ∃ v1 v2 v3 v4 v5 v6 v7 v8 v9 v10 v11 : Option V, σ' = [some (.ref a), v1, v2, v3, v4, v5, v6, v7, v8, v9, v10, v11, none, none]) ⟨hS, _, _, _, _, _, _, _, _, _, _, _, rfl⟩ (fun i σ' H0 hi ⟨hS0, v1, v2, v3, v4, v5, v6, v7, v8, v9, v10, v11, e⟩ => ?_) (fun σ' H' ⟨hS0, v1, v2, v3, v4, v5, v6, v7, v8, v9, v10, v11, e⟩ => ?_)
  · subst e
    refine ⟨_, rfl, _, rfl, a, ns, _, rfl, hS0, h63, by omega, fun bp H1 s1 hbn B1 => ?_⟩
    have c01 : Ch bp H0 H1 := Ch.of s1
    refine ⟨_, rfl, (by show 2 ≤ sizeLine; decide), fun lp hlp => ?_⟩
    have B1' := B1.new hlp (.lst [.int 3, .int 12])
    have nlb : lp ≠ bp := B1.ne hlp
    refine ⟨_, rfl, bp, 2, rfl, B1', by decide, by decide, fun r H2 r0 r1 B2 c2 => ?_⟩
    obtain ⟨m, hm, hm1, hm8⟩ : ∃ m : Int, atI ([.int 3, .int 12] : List V) r = some (.int m) ∧ 0 ≤ m ∧ m ≤ 12 := by
      have z : r = 0 ∨ r = 1 := by omega
      rcases z with rfl | rfl
      · exact ⟨3, atI_nat (j := 0) rfl, by decide, by decide⟩
      · exact ⟨12, atI_nat (j := 1) rfl, by decide, by decide⟩
    refine ⟨lp, _, _, _, rfl, rfl, SqL.of (c2 _ _ nlb upd_same), hm, bp, 8, m, rfl, B2, by decide, by decide, hm1, hm8, fun hp rooms rows H3 hs hv _ _ B3 c3 => ?_⟩
    have c03 : Ch bp H0 H3 := ((c01.trans ((Ch.refl bp H1).new hlp (.lst [.int 3, .int 12]))).trans c2).trans c3
    have hb1 := hv.bd
    have r1_ := hv.r1
    have r8 := hv.r8
    have d12 := hv.d12
    clear c2 c3 c01 B1 B1' B2 s1
    -- good, known
    refine ⟨_, rfl, hp, rooms, rows, rfl, hs, hb1, fun H5 s5 => ?_⟩
    obtain ⟨ra, da, h1, h2, das, h3, hR1⟩ := hs.tu (Tu.same s5)
    have B5 := bxs B3 s5
    have c05 := c03.trans (Ch.of s5)
    refine ⟨_, rfl, hp, _, _, _, rfl, rfl, SqT.of h1, atI_nat (j := 0) rfl, ra, _, rfl, .inr (SqT.of h2), fun l2 hl2 => ?_⟩
    have h6 : upd H5 l2 (.lst (rooms.map V.str)) l2 = some (.lst (rooms.map V.str)) := upd_same
    have s6 := same_new hl2 (.lst (rooms.map V.str))
    generalize upd H5 l2 (.lst (rooms.map V.str)) = H6 at h6 s6 ⊢
    have hal : (das.map V.ref).length = rows.length := by rw [List.length_map]; exact hR1.1
    refine ⟨_, rfl, hp, _, _, _, rfl, rfl, SqT.of (s6 _ _ h1), atI_nat (j := 1) rfl, da, rfl, ⟨_, SqT.of (s6 _ _ h3)⟩, fun D hD => ?_⟩
    refine lc_tup (K := K) (a := da) (xs := das.map V.ref) (fun j Hx => Same H6 Hx ∧ Hx D = some (.lst (((rows.take j).map fun p => p.headD "").map V.str))) ⟨same_new hD _, upd_same⟩ (fun j Hx _ ⟨sx, _⟩ => SqT.of (sx _ _ (s6 _ _ h3))) (fun j x Hx hx ⟨sx, hDx⟩ => ?_) (fun Hx ⟨sx, hDx⟩ => ?_)
    · obtain ⟨ap, p, rfl, hpi, hpa⟩ := hR1.row hx
      obtain ⟨n, x', y', rfl, _⟩ := hv.row p (List.mem_of_getElem? hpi)
      refine ⟨rfl, lcY ?_⟩
      refine ⟨_, rfl, ap, _, _, _, rfl, rfl, SqT.of (sx _ _ (s6 _ _ hpa)), atI_nat (j := 0) rfl, _, hDx, ?_, same_mut sx hD _, ?_⟩
      · rw [List.length_map, List.length_map, List.length_take]
        exact sz100 (by omega)
      · rw [upd_same, take_snoc hpi, List.map_append, List.map_append]
        rfl
    rw [hal, List.take_length] at hDx
    have m6 : ∀ x ∈ rooms ++ rows.map (fun p => p.headD ""), x.length ≤ 20 := fun x hx => by
      rcases List.mem_append.mp hx with hx | hx
      · have := (hv.nm x hx).2.1
        omega
      · obtain ⟨p, hp_, rfl⟩ := List.mem_map.mp hx
        obtain ⟨n, x', y', rfl, hn, _⟩ := hv.row p hp_
        have := hn.2.1
        show n.length ≤ 20
        omega
    have l6 : (rooms ++ rows.map (fun p => p.headD "")).length ≤ 20 := by rw [List.length_append, List.length_map]; omega
    have t6 := mem_tot m6
    have t7 : tot (rooms ++ rows.map (fun p => p.headD "")) ≤ 420 := by
      have e2 := Nat.mul_le_mul_left 21 l6
      omega
    refine catE (sx _ _ h6) hDx (by rw [← tot_app]; omega) fun kp H7 hk7 s7 => ⟨_, _, rfl, ?_⟩
    have s57 := (s6.trans sx).trans s7
    have B7 := bxs B5 s57
    have c07 := c05.trans (Ch.of s57)
    generalize rooms ++ rows.map (fun p => p.headD "") = kn at hk7 m6 l6
    have lg := txt_len (hb1.ln nm_rooms nm_door)
    generalize txtOf (lnOf "rooms" "door" rooms rows) = good at lg ⊢
    clear t6 t7 h6 hDx s6 sx s7 s57 hR1 h1 h2 h3 hal
    have nkb := box_ne B7 hk7
    refine ⟨_, rfl, by decide, by decide, ?_⟩
    refine for_range (lo := 0) (n := (8 : Int).toNat) (fun j σ' H' => Box H' bp ∧ Ch bp H7 H' ∧ ∃ w1 w4 w7 w10 w11 : Option V, σ' = [some (.ref a), w1, some (.ref bp), some (.ref hp), w4, v5, v6, w7, some (.str good), some (.ref kp), w10, w11, none, none]) ⟨B7, Ch.refl bp H7, _, _, _, _, _, rfl⟩ (fun j σ' H8 hj ⟨B8, c8, w1, w4, w7, w10, w11, e⟩ => ?_) (fun σ' H8 ⟨B8, c8, w1, w4, w7, w10, w11, e⟩ => ?_)
    · subst e
      refine ⟨_, rfl, ?_⟩
      refine ⟨_, rfl, bp, 3, rfl, B8, by decide, by decide, fun rm H9 rm0 rm1 B9 c9 => ⟨_, _, rfl, rfl, _, rfl, by omega, by omega, ?_⟩⟩
      have c79 := c8.trans c9
      refine for_range (lo := 0) (n := (1 + rm).toNat) (fun t σ' H' => Box H' bp ∧ Ch bp H7 H' ∧ ∃ (tx : Str) (w1 w4 w10 w11 : Option V), tx.length + 20 ≤ 2020 * 3 ^ t ∧ σ' = [some (.ref a), w1, some (.ref bp), some (.ref hp), w4, v5, v6, some (.str tx), some (.str good), some (.ref kp), w10, w11, none, none]) ⟨B9, c79, good, _, _, _, _, (by show good.length + 20 ≤ 2020 * 1; omega), rfl⟩ (fun t σ' HA ht ⟨BA, cA, tx, w1, w4, w10, w11, htx, e⟩ => ?_) (fun σ' HA ⟨BA, cA, tx, w1, w4, w10, w11, htx, e⟩ => ?_)
      · subst e
        have h9 : (3 : Nat) ^ t ≤ 9 := Nat.le_trans (Nat.pow_le_pow_right (by decide) (show t ≤ 2 by omega)) (by decide)
        refine ⟨_, rfl, _, rfl, _, rfl, bp, kp, tx, kn, rfl, BA, by omega, cA _ _ nkb hk7, by omega, m6, fun u HB hu BB cB => ⟨BB, cA.trans cB, u, _, _, _, _, ?_, rfl⟩⟩
        rw [Nat.pow_succ]
        omega
      subst e
      have h27 : (3 : Nat) ^ (1 + rm).toNat ≤ 27 := Nat.le_trans (Nat.pow_le_pow_right (by decide) (show (1 + rm).toNat ≤ 3 by omega)) (by decide)
      have ltx : tx.length ≤ 100000 := by omega
      refine ⟨_, rfl, _, rfl, (show 2 ≤ sizeLine by decide), fun tp htp => ?_⟩
      have htt : upd HA tp (.tup [.str tx, .str good]) tp = some (.tup [.str tx, .str good]) := upd_same
      have st := same_new htp (.tup [.str tx, .str good])
      have BT := bxs BA st
      have cT := cA.trans (Ch.of st)
      refine ⟨tp, rfl, ⟨_, SqT.of htt⟩, ?_⟩
      generalize upd HA tp (.tup [.str tx, .str good]) = HT at htt st BT cT ⊢
      refine for_tup (K := K) (a := tp) (xs := [.str tx, .str good]) (fun t σ' H' => Same HT H' ∧ ∃ w1 w4 w10 w11 : Option V, σ' = [some (.ref a), w1, some (.ref bp), some (.ref hp), w4, v5, v6, some (.str tx), some (.str good), some (.ref kp), w10, w11, none, none]) ⟨Same.refl HT, _, _, _, _, rfl⟩ (fun t σ' H' _ ⟨sx, _⟩ => SqT.of (sx _ _ htt)) (fun t x σ' H' hx ⟨sx, w1, w4, w10, w11, e⟩ => ?_) (fun σ' H' ⟨sx, w1, w4, w10, w11, e⟩ => ?_)
      · subst e
        obtain ⟨u, rfl, hu⟩ : ∃ u : Str, x = .str u ∧ u.length ≤ 100000 := by
          rcases t with _ | _ | t
          · exact ⟨tx, (Option.some.inj hx).symm, ltx⟩
          · exact ⟨good, (Option.some.inj hx).symm, by omega⟩
          · cases hx
        refine ⟨_, rfl, u, rfl, hu, fun p1 I1 s1 d1 => ⟨_, rfl, u, rfl, hu, fun p2 I2 s2 d2 => ⟨_, _, _, rfl, DR.tu (Tu.same s2) d1, d2, fun I3 s3 => ⟨_, rfl, ?_⟩⟩⟩⟩
        refine iteF ?_
        exact ⟨((sx.trans s1).trans s2).trans s3, _, _, _, _, rfl⟩
      · subst e
        exact ⟨bxs BT sx, cT.trans (Ch.of sx), _, _, _, _, _, rfl⟩
    subst e
    -- a long text
    generalize hsa : ("abcdefghijklmn" : Str) = ab
    have lab : ab.length = 14 := by rw [← hsa]; decide
    refine ⟨⟨_, rfl⟩, _, rfl, bp, 4, rfl, B8, by decide, by decide, fun r9 H9 r90 r91 B9 c9 => ⟨_, _, rfl, rfl, _, rfl, ab, rfl, Nat.le_trans (Nat.le_of_eq lab) (by decide), _, rfl, fun D hD => ?_⟩⟩
    have lz := sl_to_len ab (i := 11 + r9) (by omega)
    generalize Txt.slice ab none (some (11 + r9)) = z at lz ⊢
    have lz7 : z.cps.size ≤ 14 := by
      have e : z.length = z.cps.size := rfl
      omega
    have c79 := c8.trans c9
    have lnw : ("\ndoor " : Str).length = 6 := by decide
    have lsp : (" a b" : Str).length = 4 := by decide
    refine lc_gen (n := z.cps.size) (fun t Hx => Same H9 Hx ∧ ∃ us : List Str, Hx D = some (.lst (us.map V.str)) ∧ us.length = t ∧ ∀ x ∈ us, x.length ≤ 20) ⟨same_new hD _, [], upd_same, rfl, fun x hx => by cases hx⟩ (fun t Hx ht ⟨sx, us, hDx, hul, hu⟩ => ⟨ht, ?_⟩) (fun Hx ⟨sx, us, hDx, hul, hu⟩ => ⟨Nat.le_refl _, ?_⟩)
    · rintro _ _ ⟨rfl, c, hc, rfl⟩
      refine ⟨rfl, lcY ?_⟩
      have lc1 : (⟨#[c]⟩ : Str).length = 1 := rfl
      have la : (("\ndoor " : Str) ++ ⟨#[c]⟩).length = 7 := by rw [str_len_app, lnw, lc1] <;> omega
      have lb : (("\ndoor " : Str) ++ ⟨#[c]⟩ ++ " a b").length ≤ 20 := by rw [str_len_app, la, lsp] <;> omega
      refine ⟨_, rfl, _, _, rfl, rfl, big9 (by rw [lnw, lc1] <;> omega), _, _, rfl, rfl, big9 (by rw [la, lsp] <;> omega), _, hDx, ?_, same_mut sx hD _, us ++ [("\ndoor " : Str) ++ ⟨#[c]⟩ ++ " a b"], ?_, by rw [List.length_append, hul]; rfl, ?_⟩
      · rw [List.length_map, hul]
        exact sz100 (by omega)
      · rw [upd_same, List.map_append]
        rfl
      · intro x hx
        rcases List.mem_append.mp hx with hx | hx
        · exact hu x hx
        · rw [List.mem_singleton.mp hx]
          exact lb
    have tus : tot us ≤ 294 := by
      have e1 := mem_tot hu
      have e2 := Nat.mul_le_mul_left 21 (show us.length ≤ 14 by omega)
      omega
    have nuj := nulJ_tot us
    have sus := tot_sum us
    have lrm : ("rooms a b" : Str).length = 9 := by decide
    refine ⟨_, D, us, rfl, rfl, .inl (SqL.of hDx), (by rw [show (("" : Str)).length = 0 by decide, Nat.mul_zero]; omega), _, _, rfl, rfl, big9 (by omega), ?_⟩
    have ll : (("rooms a b" : Str) ++ Txt.join "" us).length ≤ 100000 := by rw [str_len_app]; omega
    generalize ("rooms a b" : Str) ++ Txt.join "" us = lt at ll ⊢
    have Bx := bxs B9 sx
    have c7x := c79.trans (Ch.of sx)
    generalize Hx = HB at Bx c7x ⊢
    -- a wide text
    generalize hsb : ("abcdefghij" : Str) = ab2
    have lab2 : ab2.length = 10 := by rw [← hsb]; decide
    refine ⟨⟨_, rfl⟩, _, rfl, bp, 4, rfl, Bx, by decide, by decide, fun r5 HC r50 r51 BC cC => ⟨_, _, rfl, rfl, _, rfl, ab2, rfl, Nat.le_trans (Nat.le_of_eq lab2) (by decide), ?_⟩⟩
    have lz2 := sl_to_len ab2 (i := 7 + r5) (by omega)
    generalize Txt.slice ab2 none (some (7 + r5)) = z2 at lz2 ⊢
    have lz8 : z2.cps.size ≤ 10 := by
      have e : z2.length = z2.cps.size := rfl
      omega
    refine ⟨z2, rfl, Nat.le_trans lz8 (by decide), fun l8 hl8 => ?_⟩
    have e8 : signsV z2 = (z2.cps.toList.map fun c => (⟨#[c]⟩ : Str)).map V.str := by unfold signsV; rw [List.map_map]; rfl
    have len8 : (z2.cps.toList.map fun c => (⟨#[c]⟩ : Str)).length ≤ 10 := by rw [List.length_map, Array.length_toList]; exact lz8
    have m8 : ∀ x ∈ z2.cps.toList.map (fun c => (⟨#[c]⟩ : Str)), x.length ≤ 1 := fun x hx => by
      obtain ⟨c, _, rfl⟩ := List.mem_map.mp hx
      exact Nat.le_refl 1
    rw [e8]
    generalize z2.cps.toList.map (fun c => (⟨#[c]⟩ : Str)) = us2 at len8 m8 ⊢
    have tus2 : tot us2 ≤ 20 := by
      have e1 := mem_tot m8
      have e2 := Nat.mul_le_mul_left 2 len8
      omega
    have nuj2 := wordJ_tot us2
    have sus2 := tot_sum us2
    have lrm2 : ("rooms " : Str).length = 6 := by decide
    have lrm3 : ("\ndoor a a b" : Str).length = 11 := by decide
    have lj2 : (("rooms " : Str) ++ Txt.join " " us2).length ≤ 100 := by rw [str_len_app]; omega
    refine ⟨_, l8, us2, rfl, rfl, .inl (SqL.of upd_same), (by rw [show ((" " : Str)).length = 1 by decide]; omega), _, _, rfl, rfl, big9 (by omega), _, _, rfl, rfl, big9 (by omega), ?_⟩
    have ll2 : (("rooms " : Str) ++ Txt.join " " us2 ++ "\ndoor a a b").length ≤ 100000 := by rw [str_len_app]; omega
    generalize ("rooms " : Str) ++ Txt.join " " us2 ++ "\ndoor a a b" = wt at ll2 ⊢
    have cD := (c7x.trans cC).trans (Ch.of (same_new hl8 (.lst (us2.map V.str))))
    generalize upd HC l8 (.lst (us2.map V.str)) = HD at cD ⊢
    refine ⟨_, rfl, _, rfl, (show 3 ≤ sizeLine by decide), fun tp htp => ?_⟩
    have htt : upd HD tp (.tup [.str lt, .str wt, .str ""]) tp = some (.tup [.str lt, .str wt, .str ""]) := upd_same
    have cT := cD.trans (Ch.of (same_new htp (.tup [.str lt, .str wt, .str ""])))
    refine ⟨tp, rfl, ⟨_, SqT.of htt⟩, ?_⟩
    generalize upd HD tp (.tup [.str lt, .str wt, .str ""]) = HT at htt cT ⊢
    refine for_tup (K := K) (a := tp) (xs := [.str lt, .str wt, .str ""]) (fun t σ' H' => Same HT H' ∧ ∃ w1 w4 w7 w10 w11 : Option V, σ' = [some (.ref a), w1, some (.ref bp), some (.ref hp), w4, some (.str lt), some (.str wt), w7, some (.str good), some (.ref kp), w10, w11, none, none]) ⟨Same.refl HT, _, _, _, _, _, rfl⟩ (fun t σ' H' _ ⟨sx, _⟩ => SqT.of (sx _ _ htt)) (fun t x σ' H' hx ⟨sx, w1, w4, w7, w10, w11, e⟩ => ?_) (fun σ' H' ⟨sx, w1, w4, w7, w10, w11, e⟩ => ?_)
    · subst e
      obtain ⟨u, rfl, hu⟩ : ∃ u : Str, x = .str u ∧ u.length ≤ 100000 := by
        rcases t with _ | _ | _ | t
        · exact ⟨lt, (Option.some.inj hx).symm, ll⟩
        · exact ⟨wt, (Option.some.inj hx).symm, ll2⟩
        · exact ⟨"", (Option.some.inj hx).symm, by decide⟩
        · cases hx
      refine ⟨_, rfl, u, rfl, hu, fun p1 I1 s1 d1 => ⟨_, rfl, u, rfl, hu, fun p2 I2 s2 d2 => ⟨_, _, _, rfl, DR.tu (Tu.same s2) d1, d2, fun I3 s3 => ⟨_, rfl, ?_⟩⟩⟩⟩
      refine iteF ?_
      exact ⟨((sx.trans s1).trans s2).trans s3, _, _, _, _, _, rfl⟩
    · subst e
      exact ⟨seq_ch hS0 hbn (c07.trans (cT.trans (Ch.of sx))), _, _, _, _, _, _, _, _, _, _, _, rfl⟩
  · subst e
    exact q H'
end
end Td
set_option maxHeartbeats 0
namespace Td
open PySem PySem.Spec PyProof.Rows L2
def dd (x : Str) (i : Nat) : He.DefD := ⟨(x, none), x, x, defArgs (top i), defBody (top i), defScope (top i), [], []⟩
def di (x q : Str) (i : Nat) : He.DefD := ⟨(x, some "__init__"), "__init__", q, defArgs (mth i), defBody (mth i), defScope (mth i), [], []⟩
def fn : List He.DefD := [dd "is_name" 5, dd "_split_lines" 10, dd "_is_rooms_line" 11, dd "_is_door_line" 12, dd "_law_box" 14, dd "_law_take" 15, dd "_law_names" 16, dd "_law_hall" 17, dd "_law_alike" 18, dd "_law_is_name" 19, dd "_law_hall_text" 20, dd "_law_read" 21, dd "_law_sign" 23, dd "_law_line_changed" 24, dd "_law_changed" 25, dd "parse_hall" 9, dd "_law_told" 22, dd "law" 26, di "InvalidText" "InvalidText.__init__" 2]
def fa : List He.Fa := [.glo "is_name", .glo "_split_lines", .glo "_is_rooms_line", .glo "_is_door_line", .glo "_law_box", .glo "_law_take", .glo "_law_names", .glo "_law_hall", .glo "_law_alike", .glo "_law_is_name", .glo "_law_hall_text", .glo "_law_read", .glo "_law_sign", .glo "_law_line_changed", .glo "_law_changed", .glo "parse_hall", .glo "_law_told", .glo "law", .free "all", .free "bool", .free "dict", .free "enumerate", .free "int", .free "isinstance", .free "len", .free "list", .free "max", .free "min", .free "range", .free "set", .free "str", .free "tuple", .free "zip", .int "DOORS" 12, .int "ROOMS" 8, .int "_LETTERS" 6, .glo "InvalidText"]
def ex (K : PySem.W.Frag) : Bool := errVB K "InvalidText" "line"
section
variable {P : Program} {w : World} {K : PySem.W.Frag} {mg : Str → Option Value} {base : Heap} {f : Addr} {fd : FuncData}
theorem ok_ev {x q fl : Str} {st : Stmt} (T : ErrV K x fl) (sc : FnScope ["self", fl] ["self", fl] (defScope st))
    (wk : ∀ (cdv : Value) (A : Around) (outer : List Env) (s : Shared) (H : Hp) (E : XK), PSs (cxOf C8.CX0 P w K mg base ["self", fl] q (defScope st) f cdv A outer s H E) (defBody st) (tOst K fl (tVar 0) (tVar 1)))
    (F : FunD K "__init__" q (defArgs st) (defBody st) (defScope st) [] [] f fd) : FnOk P w K mg base C8.CX0 1 f fd ["self", fl] (spErrV (He.ga K x) fl) := by
  refine F.ok sc (fun vs H Q E h => ?_) (fun cdv A outer s H vs Q E hr h => ?_)
  · obtain ⟨a, v, rfl, ha, q⟩ := h
    rfl
  obtain ⟨a, v, rfl, ha, q⟩ := h
  exact ⟨_, wk cdv A outer s H E, _, rfl, _, rfl, a, He.ga K x, rfl, T.ox, T.no, .inl ⟨ha, fun dx hd ne => q dx hd ne⟩⟩
end
abbrev R : PySem.W.OpenRow := PySem.W.OpenLaw.row PySem.Challenge.rw_turndoors_k09_texts_of_no_hall
abbrev hk : PySem.W.Hook := He.hookX 4 fa fn [] [] ex
def ob (s : PySem.W.SharedT) : He.AlX := He.obsX 4 fa fn [] [] ex (HandSHeadRun.getT s)
theorem ob_eq (s : PySem.W.SharedT) : ob s = hk.obs s.abs := He.obsX_eq (HandSHeadRun.getT_eq s)
def names : List PySem.Str := ["HallError", "InvalidText", "_LETTERS", "is_name", "ROOMS", "DOORS", "parse_hall", "_split_lines", "_is_rooms_line", "_is_door_line", "_law_box", "_law_take", "_law_names", "_law_hall", "_law_alike", "_law_is_name", "_law_hall_text", "_law_read", "_law_told", "_law_sign", "_law_line_changed", "_law_changed"]
theorem run (w : World) : HandSHeadRun.RunEq R (PySem.W.view R.prog [26]) hk ob 3000 names w := by
  intro os
  kernel_rfl
theorem sc_InvalidText : FnScope ["self", "line"] ["self", "line"] (defScope (mth 2)) := ⟨rfl, rfl, rfl, by decide +kernel, rfl, by decide +kernel, by decide +kernel⟩
theorem facts {P : Program} {w : World} {K : PySem.W.Frag} {h : Heap} {mg : Str → Option Value} {f : Addr} (X : K.In h) (G : h.Ns mainGlobals mg) (hfa : mg ("law" : Str) = some (.ref f)) (c0 : He.SaysX fa fn [] [] ex w h K) :
    ∃ fd : FuncData, (∀ (s : Shared) (v : Value), BindsTo s fd ⟨[v], []⟩ [("script", v)]) ∧ ∀ base : Heap, K.In base → base.Ns mainGlobals mg → FnOk P w K mg base C8.CX0 6 f fd ["script"] (spLaw K) := by
  have c : He.SaysD fa fn K := c0.t.d
  have TV := errVB_ok c0.more
  obtain ⟨fd_is_name, F_is_name⟩ := c.def_ 0 (d := dd "is_name" 5) rfl
  have g_is_name := He.glo_ok X G (c.fact 0 (f := .glo "is_name") rfl)
  obtain ⟨fd_split_lines, F_split_lines⟩ := c.def_ 1 (d := dd "_split_lines" 10) rfl
  have g_split_lines := He.glo_ok X G (c.fact 1 (f := .glo "_split_lines") rfl)
  obtain ⟨fd_is_rooms_line, F_is_rooms_line⟩ := c.def_ 2 (d := dd "_is_rooms_line" 11) rfl
  have g_is_rooms_line := He.glo_ok X G (c.fact 2 (f := .glo "_is_rooms_line") rfl)
  obtain ⟨fd_is_door_line, F_is_door_line⟩ := c.def_ 3 (d := dd "_is_door_line" 12) rfl
  have g_is_door_line := He.glo_ok X G (c.fact 3 (f := .glo "_is_door_line") rfl)
  obtain ⟨fd_law_box, F_law_box⟩ := c.def_ 4 (d := dd "_law_box" 14) rfl
  have g_law_box := He.glo_ok X G (c.fact 4 (f := .glo "_law_box") rfl)
  obtain ⟨fd_law_take, F_law_take⟩ := c.def_ 5 (d := dd "_law_take" 15) rfl
  have g_law_take := He.glo_ok X G (c.fact 5 (f := .glo "_law_take") rfl)
  obtain ⟨fd_law_names, F_law_names⟩ := c.def_ 6 (d := dd "_law_names" 16) rfl
  have g_law_names := He.glo_ok X G (c.fact 6 (f := .glo "_law_names") rfl)
  obtain ⟨fd_law_hall, F_law_hall⟩ := c.def_ 7 (d := dd "_law_hall" 17) rfl
  have g_law_hall := He.glo_ok X G (c.fact 7 (f := .glo "_law_hall") rfl)
  obtain ⟨fd_law_alike, F_law_alike⟩ := c.def_ 8 (d := dd "_law_alike" 18) rfl
  have g_law_alike := He.glo_ok X G (c.fact 8 (f := .glo "_law_alike") rfl)
  obtain ⟨fd_law_is_name, F_law_is_name⟩ := c.def_ 9 (d := dd "_law_is_name" 19) rfl
  have g_law_is_name := He.glo_ok X G (c.fact 9 (f := .glo "_law_is_name") rfl)
  obtain ⟨fd_law_hall_text, F_law_hall_text⟩ := c.def_ 10 (d := dd "_law_hall_text" 20) rfl
  have g_law_hall_text := He.glo_ok X G (c.fact 10 (f := .glo "_law_hall_text") rfl)
  obtain ⟨fd_law_read, F_law_read⟩ := c.def_ 11 (d := dd "_law_read" 21) rfl
  have g_law_read := He.glo_ok X G (c.fact 11 (f := .glo "_law_read") rfl)
  obtain ⟨fd_law_sign, F_law_sign⟩ := c.def_ 12 (d := dd "_law_sign" 23) rfl
  have g_law_sign := He.glo_ok X G (c.fact 12 (f := .glo "_law_sign") rfl)
  obtain ⟨fd_law_line_changed, F_law_line_changed⟩ := c.def_ 13 (d := dd "_law_line_changed" 24) rfl
  have g_law_line_changed := He.glo_ok X G (c.fact 13 (f := .glo "_law_line_changed") rfl)
  obtain ⟨fd_law_changed, F_law_changed⟩ := c.def_ 14 (d := dd "_law_changed" 25) rfl
  have g_law_changed := He.glo_ok X G (c.fact 14 (f := .glo "_law_changed") rfl)
  obtain ⟨fd_parse_hall, F_parse_hall⟩ := c.def_ 15 (d := dd "parse_hall" 9) rfl
  have g_parse_hall := He.glo_ok X G (c.fact 15 (f := .glo "parse_hall") rfl)
  obtain ⟨fd_law_told, F_law_told⟩ := c.def_ 16 (d := dd "_law_told" 22) rfl
  have g_law_told := He.glo_ok X G (c.fact 16 (f := .glo "_law_told") rfl)
  obtain ⟨fd_law, F_law⟩ := c.def_ 17 (d := dd "law" 26) rfl
  have g_law := He.glo_ok X G (c.fact 17 (f := .glo "law") rfl)
  obtain ⟨fd_InvalidText, F_InvalidText⟩ := c.def_ 18 (d := di "InvalidText" "InvalidText.__init__" 2) rfl
  have m_all := He.free_ok X G (c.fact 18 (f := .free "all") rfl)
  have m_bool := He.free_ok X G (c.fact 19 (f := .free "bool") rfl)
  have m_dict := He.free_ok X G (c.fact 20 (f := .free "dict") rfl)
  have m_enumerate := He.free_ok X G (c.fact 21 (f := .free "enumerate") rfl)
  have m_int := He.free_ok X G (c.fact 22 (f := .free "int") rfl)
  have m_isinstance := He.free_ok X G (c.fact 23 (f := .free "isinstance") rfl)
  have m_len := He.free_ok X G (c.fact 24 (f := .free "len") rfl)
  have m_list := He.free_ok X G (c.fact 25 (f := .free "list") rfl)
  have m_max := He.free_ok X G (c.fact 26 (f := .free "max") rfl)
  have m_min := He.free_ok X G (c.fact 27 (f := .free "min") rfl)
  have m_range := He.free_ok X G (c.fact 28 (f := .free "range") rfl)
  have m_set := He.free_ok X G (c.fact 29 (f := .free "set") rfl)
  have m_str := He.free_ok X G (c.fact 30 (f := .free "str") rfl)
  have m_tuple := He.free_ok X G (c.fact 31 (f := .free "tuple") rfl)
  have m_zip := He.free_ok X G (c.fact 32 (f := .free "zip") rfl)
  have k_DOORS := He.int_ok X G (c.fact 33 (f := .int "DOORS" 12) rfl)
  have k_ROOMS := He.int_ok X G (c.fact 34 (f := .int "ROOMS" 8) rfl)
  have k_LETTERS := He.int_ok X G (c.fact 35 (f := .int "_LETTERS" 6) rfl)
  have gc_InvalidText := He.glo_ok X G (c.fact 36 (f := .glo "InvalidText") rfl)
  have e := hfa.symm.trans g_law
  cases e
  have b := FunD.bindsA (ps := ["script"]) F_law fun _ _ _ _ _ _ us hl => match us, hl with | [_], _ => rfl
  refine ⟨fd_law, fun s v => b s [v] rfl, fun base _ _ => ?_⟩
  have M_InvalidText : ErrMV P w K mg base "InvalidText" "line" := ⟨TV, gc_InvalidText, fd_InvalidText, ["self", "line"], ok_ev TV sc_InvalidText (fun cdv A outer s H E => PSs.nox (pss_one (ps_ost (pv 0) (pv 1)))) F_InvalidText, F_InvalidText.bindsN (ps := ["self", "line"]) fun _ _ _ _ _ _ us hl => match us, hl with | [_, _], _ => rfl⟩
  have c_is_name : Cal P w K mg base 1 "is_name" spIsName := ok_is_name F_is_name g_is_name m_all m_isinstance m_len m_str k_LETTERS
  have c_split_lines : Cal P w K mg base 1 "_split_lines" spSplitG := ok_split_lines F_split_lines g_split_lines 
  have c_is_rooms_line : Cal P w K mg base 2 "_is_rooms_line" spRoomsG := ok_is_rooms_line F_is_rooms_line g_is_rooms_line c_is_name m_all m_len m_set k_ROOMS
  have c_is_door_line : Cal P w K mg base 2 "_is_door_line" spDoorG := ok_is_door_line F_is_door_line g_is_door_line c_is_name m_len
  have c_law_box : Cal P w K mg base 1 "_law_box" (spBox K) := ok_law_box F_law_box g_law_box m_int m_len
  have c_law_take : Cal P w K mg base 1 "_law_take" spTake := ok_law_take F_law_take g_law_take 
  have c_law_names : Cal P w K mg base 2 "_law_names" spNames := ok_law_names F_law_names g_law_names c_law_take m_int m_len m_range
  have c_law_hall : Cal P w K mg base 3 "_law_hall" spHall := ok_law_hall F_law_hall g_law_hall c_law_names c_law_take m_int m_len m_max m_range m_tuple
  have c_law_alike : Cal P w K mg base 5 "_law_alike" (spAlike 5) := ok_alike F_law_alike g_law_alike m_all m_bool m_dict m_isinstance m_len m_list m_str m_tuple m_zip 5
  have c_law_is_name : Cal P w K mg base 1 "_law_is_name" spLawNm := ok_law_is_name F_law_is_name g_law_is_name m_len
  have c_law_hall_text : Cal P w K mg base 1 "_law_hall_text" (spFmt "rooms" "door") := ok_law_hall_text F_law_hall_text g_law_hall_text 
  have c_law_read : Cal P w K mg base 2 "_law_read" spReadH := ok_law_read F_law_read g_law_read c_law_is_name m_enumerate m_len m_tuple
  have c_law_sign : Cal P w K mg base 2 "_law_sign" spSign := ok_law_sign F_law_sign g_law_sign c_law_take m_len
  have c_law_line_changed : Cal P w K mg base 3 "_law_line_changed" spLineCh := ok_law_line_changed F_law_line_changed g_law_line_changed c_law_sign c_law_take m_len m_range
  have c_law_changed : Cal P w K mg base 4 "_law_changed" spChanged := ok_law_changed F_law_changed g_law_changed c_law_line_changed c_law_sign c_law_take m_len
  have c_parse_hall := ok_parse_hall F_parse_hall g_parse_hall M_InvalidText c_is_door_line c_is_rooms_line c_split_lines m_enumerate m_tuple k_DOORS
  have c_law_told : Cal P w K mg base 4 "_law_told" spReadH := ok_told F_law_told g_law_told c_parse_hall M_InvalidText
  exact ok_law F_law c_law_alike c_law_box c_law_changed c_law_hall c_law_hall_text c_law_read c_law_take c_law_told m_len m_list m_max m_min m_range
end Td
open PySem PySem.W PySem.Calls PyProof.Rows
set_option maxRecDepth 100000 in
set_option maxHeartbeats 0 in
theorem PySem.Challenge.cw_turndoors_k09_texts_of_no_hall_holds : PySem.Challenge.rw_turndoors_k09_texts_of_no_hall.Holds := by
  w_on; o_law
  refine HandSHeadRun.head_any (r := OpenLaw.row PySem.Challenge.rw_turndoors_k09_texts_of_no_hall) (q := view (OpenLaw.row PySem.Challenge.rw_turndoors_k09_texts_of_no_hall).prog [26]) (H := Td.hk) (ob := Td.ob) (M := 3000) (loose := Td.names) (d := HandSHeadRun.topDef (OpenLaw.row PySem.Challenge.rw_turndoors_k09_texts_of_no_hall).prog 26) (kwd := []) Td.ob_eq
    (by kernel_rfl) (fun s => by kernel_rfl) Td.run (by kernel_rfl) (by kernel_rfl) (by kernel_rfl) (by rfl) (by first | assumption | decide +kernel) (by decide +kernel) ⟨rfl, rfl, rfl, rfl, rfl, by decide +kernel⟩ ?hw ?hc
  case hw => w_witness2
  case hc =>
    refine L2.walk_ofE (l := PySem.Challenge.rw_turndoors_k09_texts_of_no_hall) (n := 63) (k := 6) (x := "script") (CX := C8.CX0) rfl (by decide) (by kernel_rfl) ⟨rfl, by decide, by decide⟩ ?F (fun _ _ _ _ z => z)
    intro w mg fa h Y G hmg0
    obtain ⟨K, KX, c⟩ := Y
    have hmg : mg ("law" : PySem.Str) = some (.ref fa) := by
      have e : (HandSHeadRun.topDef (OpenLaw.row PySem.Challenge.rw_turndoors_k09_texts_of_no_hall).prog 26).name = ("law" : PySem.Str) := by kernel_rfl
      rw [← e]
      exact hmg0
    obtain ⟨fd, hb, hF⟩ := Td.facts (P := (PySem.Challenge.rw_turndoors_k09_texts_of_no_hall).prog) (w := w) KX G hmg c
    exact ⟨K, fd, Td.spLaw K, KX, hb, fun H a ns hl _ hS => ⟨a, ns, rfl, hS, hl, fun _ => rfl⟩, hF⟩
