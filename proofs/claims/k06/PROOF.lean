import PyProof.Rows.All
import Wide.All
import OpenK.AllK
import Wide.FinOn
import KE.KStateDown
import Lean
import HandS.ForMost
import HandS.Defaults
import HandS.Codes
import HandS.Wide
import HandS.Flow
import HandS.Style
import HandS.Conv
import HandS.Zip
import HandS.Strs
import HandS.TupAny
import HandS.NoneIn
import HandS.IsInst
import HandS.Small
import HandS.Star
import HandS.Head0
import HandS.Head1
import HandS.Head2
import HandS.HeadEnd
import HandS.HeadHook1
import HandS.HeadHook2
import HandS.HeadHook4
import HandS.ExcInit
import HandS.ExcField
import HandS.ExcIs
import HandS.SetFor
import HandS.ExcOwn
import HandS.Ends
import HandS.CallLocal
import KE.GoesEnumKw
import PyProof.NeKinds
import HandS.SetKeys
import HandS.More
import KE.GoesEnum
import KE.KUnpackStar
import HandS.HeadHook3
import PySem.Challenge.RW_turndoors_k06_validated_states
set_option Elab.async false
set_option linter.all false
set_option maxRecDepth 100000
set_option maxHeartbeats 4000000
namespace Td
open PySem PySem.Spec PyProof.Rows L2
/-! ### a def of the text, its call -/
abbrev FnP (K : PySem.W.Frag) (x : Str) (st : Stmt) (f : Addr) (fd : FuncData) : Prop := FunD K x x (defArgs st) (defBody st) (defScope st) [] [] f fd
abbrev Cal (P : Program) (w : World) (K : PySem.W.Frag) (mg : Str → Option Value) (base : Heap) (k : Nat) (x : Str) (sp : Sp) : Prop := C8.Cal P w K mg base k x sp []
theorem cal_of {P : Program} {w : World} {K : PySem.W.Frag} {mg : Str → Option Value} {base : Heap} {k : Nat} {x : Str} {sp : Sp} {f : Addr} {fd : FuncData} {ps : List Str}
    (F : FnOk P w K mg base C8.CX0 k f fd ps sp) (hm : mg x = some (.ref f)) (kp : PySem.W.keepIn K (.ref f) = true) (b : Binds K fd ps []) : Cal P w K mg base k x sp := ⟨f, fd, ps, [], F, hm, kp, b, .nil⟩
/-! ### heaps: all but b stays -/
def Ch (b : Addr) (H H' : Hp) : Prop := ∀ a o, a ≠ b → H a = some o → H' a = some o
theorem Ch.refl (b : Addr) (H : Hp) : Ch b H H := fun _ _ _ h => h
theorem Ch.trans {b : Addr} {H H1 H2 : Hp} (x : Ch b H H1) (y : Ch b H1 H2) : Ch b H H2 := fun a o n h => y a o n (x a o n h)
theorem Ch.of {b : Addr} {H H1 : Hp} (x : Same H H1) : Ch b H H1 := fun a o _ h => x a o h
theorem same_new {H : Hp} {p : Addr} (h : H p = none) (o : HO) : Same H (upd H p o) := fun b u q => by rw [upd_ne (ne_of_none q h)]; exact q
theorem Ch.new {b p : Addr} {H H1 : Hp} (x : Ch b H H1) (h : H1 p = none) (o : HO) : Ch b H (upd H1 p o) := x.trans (Ch.of (same_new h o))
theorem Ch.upd {b : Addr} {H H1 : Hp} (x : Ch b H H1) (o : HO) : Ch b H (upd H1 b o) := fun a u n h => by rw [upd_ne n]; exact x a u n h
theorem Ch.none {b p : Addr} {H H1 : Hp} (x : Ch b H H1) (hb : p ≠ b) (h : H1 p = none) : H p = none := by
  cases q : H p with
  | none => rfl
  | some o => rw [x p o hb q] at h; cases h
/-- the box of the law's drawing -/
def Box (H : Hp) (b : Addr) : Prop := ∃ c s n : Int, H b = some (.lst [.int c, .int s, .int n]) ∧ 0 ≤ c
theorem Box.new {H : Hp} {b p : Addr} (B : Box H b) (h : H p = none) (o : HO) : Box (upd H p o) b := by
  obtain ⟨c, s, n, e, z⟩ := B
  exact ⟨c, s, n, by rw [upd_ne (ne_of_none e h)]; exact e, z⟩
theorem Box.ne {H : Hp} {b p : Addr} (B : Box H b) (h : H p = none) : p ≠ b := by
  obtain ⟨c, s, n, e, z⟩ := B
  exact fun q => by rw [q, e] at h; cases h
theorem Box.neT {H : Hp} {b p : Addr} {xs : List V} (B : Box H b) (h : H p = some (.tup xs)) : p ≠ b := by
  obtain ⟨c, s, n, e, z⟩ := B
  exact fun q => by rw [q, e] at h; cases h
/-! ### promises of the law's drawing -/
def spBox (K : PySem.W.Frag) : Sp := fun vs H Q _ => ∃ (a : Addr) (ns : List Int) (k : Int), vs = [.ref a, .int k] ∧ SqL K H a (ns.map V.int) ∧ ns.length ≤ 63 ∧ 0 ≤ k ∧ ∀ p H', Same H H' → H p = none → Box H' p → Q (.ref p) H'
def spTake : Sp := fun vs H Q _ => ∃ (b : Addr) (m : Int), vs = [.ref b, .int m] ∧ Box H b ∧ 0 < m ∧ m < 1073741824 ∧ ∀ r H', 0 ≤ r → r < m → Box H' b → Ch b H H' → Q (.int r) H'
/-- a name: one to six small letters -/
def Nm (x : Str) : Prop := 1 ≤ x.length ∧ x.length ≤ 6 ∧ ∀ c ∈ x.cps.toList, 97 ≤ c ∧ c ≤ 122
def spNames : Sp := fun vs H Q _ => ∃ (b : Addr) (m : Int), vs = [.ref b, .int m] ∧ Box H b ∧ 1 ≤ m ∧ m ≤ 26 ∧
  ∀ (p : Addr) (ss : List Str) H', H p = none → H' p = some (.lst (ss.map V.str)) → ss.length = m.toNat → ss.Nodup → (∀ x ∈ ss, Nm x) → Box H' b → Ch b H H' → Q (.ref p) H'
/-! ### the drawn names -/
abbrev letters : Str := "abcdefghijklmnopqrstuvwxyz"
theorem letter_nat : ∀ n : Fin 26, letters.cps.toList[n.val]? = some (97 + n.val) := by decide +kernel
theorem letter {i : Int} (h0 : 0 ≤ i) (h1 : i < 26) : atI letters.cps.toList i = some (97 + i.toNat) := by
  obtain ⟨n, rfl⟩ : ∃ n : Nat, i = (n : Int) := ⟨i.toNat, by omega⟩
  have e := letter_nat ⟨n, by omega⟩
  rw [atI_nat e]
  rfl
def low (l : List Nat) : Prop := ∀ c ∈ l, 97 ≤ c ∧ c ≤ 122
def nk (st : List Nat) (a : Nat) (fi se : Int) (k : Nat) : List Nat := st.take a ++ ([97 + ((fi + se * (k : Int)) % 26).toNat] ++ st.drop a)
theorem nk_low {st : List Nat} {a : Nat} {fi se : Int} {k : Nat} (h : low st) : low (nk st a fi se k) := fun c hc => by
  unfold nk at hc
  rcases List.mem_append.mp hc with hc | hc
  · exact h c (List.mem_of_mem_take hc)
  · rcases List.mem_append.mp hc with hc | hc
    · have e := List.mem_singleton.mp hc
      have z := Int.emod_lt_of_pos (fi + se * (k : Int)) (show (0 : Int) < 26 by decide)
      have y := Int.emod_nonneg (fi + se * (k : Int)) (show (26 : Int) ≠ 0 by decide)
      omega
    · exact h c (List.mem_of_mem_drop hc)
theorem nk_len {st : List Nat} {a : Nat} {fi se : Int} {k : Nat} : (nk st a fi se k).length = st.length + 1 := by
  unfold nk
  rw [List.length_append, List.length_append, List.length_take, List.length_drop, List.length_singleton]
  omega
def okStep (se : Int) : Prop := se = 7 ∨ se = 1 ∨ se = 11 ∨ se = 25
theorem nk_inj {st : List Nat} {a : Nat} {fi se : Int} {i j : Nat} (hs : okStep se) (hi : i < 26) (hj : j < 26) (e : nk st a fi se i = nk st a fi se j) : i = j := by
  unfold nk at e
  have e1 := List.append_cancel_left e
  have e2 := List.append_cancel_right e1
  have e3 : 97 + ((fi + se * (i : Int)) % 26).toNat = 97 + ((fi + se * (j : Int)) % 26).toNat := by
    injection e2
  have z := Int.emod_nonneg (fi + se * (i : Int)) (show (26 : Int) ≠ 0 by decide)
  have y := Int.emod_nonneg (fi + se * (j : Int)) (show (26 : Int) ≠ 0 by decide)
  have e4 : (fi + se * (i : Int)) % 26 = (fi + se * (j : Int)) % 26 := by omega
  rcases hs with rfl | rfl | rfl | rfl <;> omega
theorem nm_S {l : List Nat} (h : low l) (h1 : 1 ≤ l.length) (h2 : l.length ≤ 6) : Nm (SX.S l) := ⟨by rw [SX.S_len]; exact h1, by rw [SX.S_len]; exact h2, h⟩
def nks (st : List Nat) (a : Nat) (fi se : Int) (n : Nat) : List Str := (List.range n).map fun k => SX.S (nk st a fi se k)
theorem nks_succ {st : List Nat} {a : Nat} {fi se : Int} {n : Nat} : nks st a fi se (n + 1) = nks st a fi se n ++ [SX.S (nk st a fi se n)] := by
  unfold nks
  rw [List.range_succ, List.map_append]
  rfl
theorem nks_len {st : List Nat} {a : Nat} {fi se : Int} {n : Nat} : (nks st a fi se n).length = n := by
  unfold nks
  rw [List.length_map, List.length_range]
theorem nks_nm {st : List Nat} {a : Nat} {fi se : Int} {n : Nat} (h : low st) (h5 : st.length ≤ 5) : ∀ x ∈ nks st a fi se n, Nm x := fun x hx => by
  unfold nks at hx
  obtain ⟨k, _, rfl⟩ := List.mem_map.mp hx
  exact nm_S (nk_low h) (by rw [nk_len]; omega) (by rw [nk_len]; omega)
theorem nks_nd {st : List Nat} {a : Nat} {fi se : Int} (hs : okStep se) : ∀ {n : Nat}, n ≤ 26 → (nks st a fi se n).Nodup
  | 0, _ => List.nodup_nil
  | n + 1, h => by
    rw [nks_succ]
    refine List.nodup_append.mpr ⟨nks_nd hs (by omega), List.nodup_cons.mpr ⟨by simp, List.nodup_nil⟩, fun x hx y hy e => ?_⟩
    rw [List.mem_singleton.mp hy] at e
    unfold nks at hx
    obtain ⟨k, hk, rfl⟩ := List.mem_map.mp hx
    have hk2 : k < n := List.mem_range.mp hk
    have e2 := nk_inj hs (by omega) (by omega) (SX.S_inj e)
    omega
theorem set_nd {l : List Str} {i : Nat} {x : Str} (h : l.Nodup) (hx : x ∉ l) : (l.set i x).Nodup := by
  induction l generalizing i with
  | nil => exact List.nodup_nil
  | cons y l ih =>
    obtain ⟨h1, h2⟩ := List.nodup_cons.mp h
    cases i with
    | zero => exact List.nodup_cons.mpr ⟨fun z => hx (List.mem_cons_of_mem _ z), h2⟩
    | succ i =>
      refine List.nodup_cons.mpr ⟨fun z => ?_, ih h2 fun z => hx (List.mem_cons_of_mem _ z)⟩
      rcases List.mem_or_eq_of_mem_set z with z | z
      · exact h1 z
      · exact hx (by rw [← z]; exact List.mem_cons_self ..)
theorem join_nil : ∀ cs : List Nat, TL.joinL [] (cs.map fun c => [c]) = cs
  | [] => rfl
  | [c] => rfl
  | c :: d :: r => by
    have e := join_nil (d :: r)
    show [c] ++ ([] ++ TL.joinL [] ([d] :: r.map fun c => [c])) = c :: d :: r
    have e2 : TL.joinL [] ([d] :: r.map fun c => [c]) = d :: r := e
    rw [e2]
    rfl
theorem inV_str {x : Str} {xs : List Str} : inV (.str x) (xs.map V.str) = decide (x ∈ xs) := by
  induction xs with
  | nil => rfl
  | cons y ys ih =>
    show (eqV (.str y) (.str x) || inV (.str x) (ys.map V.str)) = decide (x ∈ y :: ys)
    have e : eqV (.str y) (.str x) = (y == x) := rfl
    rw [ih, e]
    by_cases h : y = x
    · subst h
      simp
    · have h2 : ¬ x = y := fun z => h z.symm
      simp [h, h2]
theorem flat_strs (xs : List Str) : (xs.map V.str).all flatV = true := by
  induction xs with
  | nil => rfl
  | cons y ys ih => exact ih
theorem yes_ {σ : L2.St} {H : Hp} {Q : Bool → Hp → Prop} (h : Q true H) : tYes σ H Q := h
theorem lcY {σ : L2.St} {H : Hp} {A B : Hp → Prop} (h : A H) : tYes σ H (fun b H3 => if b = true then A H3 else B H3) := by
  show (if true = true then A H else B H)
  rw [if_pos rfl]
  exact h
/-! ### halls, states: a tuple of texts, a tuple of tuples of texts -/
def RowsAt (H : Hp) (as : List Addr) (rows : List (List Str)) : Prop := as.length = rows.length ∧ ∀ (i : Nat) (a : Addr) (r : List Str), as[i]? = some a → rows[i]? = some r → H a = some (.tup (r.map V.str))
def Rows (H : Hp) (d : Addr) (rows : List (List Str)) : Prop := ∃ as : List Addr, H d = some (.tup (as.map V.ref)) ∧ RowsAt H as rows
def HS (H : Hp) (h : Addr) (ss : List Str) (rows : List (List Str)) : Prop := ∃ r d : Addr, H h = some (.tup [.ref r, .ref d]) ∧ H r = some (.tup (ss.map V.str)) ∧ Rows H d rows
/-- tuples stay -/
def Tu (H H' : Hp) : Prop := ∀ a xs, H a = some (.tup xs) → H' a = some (.tup xs)
theorem Tu.refl (H : Hp) : Tu H H := fun _ _ h => h
theorem Tu.trans {H H1 H2 : Hp} (x : Tu H H1) (y : Tu H1 H2) : Tu H H2 := fun a xs h => y a xs (x a xs h)
theorem Tu.of {b : Addr} {H H' : Hp} (x : Ch b H H') (B : Box H b) : Tu H H' := fun a _ h => x a _ (B.neT h) h
theorem Tu.same {H H' : Hp} (x : Same H H') : Tu H H' := fun a _ h => x a _ h
theorem Tu.new {H : Hp} {p : Addr} (h : H p = none) (o : HO) : Tu H (upd H p o) := Tu.same (same_new h o)
theorem RowsAt.tu {H H' : Hp} {as : List Addr} {rows : List (List Str)} (x : Tu H H') (h : RowsAt H as rows) : RowsAt H' as rows := ⟨h.1, fun i a r e1 e2 => x _ _ (h.2 i a r e1 e2)⟩
theorem Rows.tu {H H' : Hp} {d : Addr} {rows : List (List Str)} (x : Tu H H') (h : Rows H d rows) : Rows H' d rows := by
  obtain ⟨as, h1, h2⟩ := h
  exact ⟨as, x _ _ h1, h2.tu x⟩
theorem HS.tu {H H' : Hp} {h : Addr} {ss : List Str} {rows : List (List Str)} (x : Tu H H') (y : HS H h ss rows) : HS H' h ss rows := by
  obtain ⟨r, d, h1, h2, h3⟩ := y
  exact ⟨r, d, x _ _ h1, x _ _ h2, h3.tu x⟩
theorem RowsAt.nil {H : Hp} : RowsAt H [] [] := ⟨rfl, fun i a r e => by cases e⟩
theorem RowsAt.snoc {H : Hp} {as : List Addr} {rows : List (List Str)} {a : Addr} {r : List Str} (h : RowsAt H as rows) (ha : H a = some (.tup (r.map V.str))) : RowsAt H (as ++ [a]) (rows ++ [r]) := by
  refine ⟨by rw [List.length_append, List.length_append, h.1]; rfl, fun i b s e1 e2 => ?_⟩
  by_cases hi : i < as.length
  · rw [List.getElem?_append_left hi] at e1
    rw [List.getElem?_append_left (by rw [← h.1]; exact hi)] at e2
    exact h.2 i b s e1 e2
  · have hl := h.1
    rw [List.getElem?_append_right (by omega)] at e1 e2
    have hi2 : i = as.length := by
      have z := (List.getElem?_eq_some_iff.mp e1).1
      rw [List.length_singleton] at z
      omega
    subst hi2
    rw [Nat.sub_self] at e1
    rw [hl, Nat.sub_self] at e2
    cases e1
    cases e2
    exact ha
structure HallV (rooms : List Str) (rows : List (List Str)) : Prop where
  r1 : 1 ≤ rooms.length
  r8 : rooms.length ≤ 8
  nd : rooms.Nodup
  nm : ∀ x ∈ rooms, Nm x
  d12 : rows.length ≤ 12
  row : ∀ r ∈ rows, ∃ n a b : Str, r = [n, a, b] ∧ Nm n ∧ a ∈ rooms ∧ b ∈ rooms ∧ a ≠ b
  dn : (rows.map fun r => r.headD "").Nodup
def spHall : Sp := fun vs H Q _ => ∃ (b : Addr) (m1 m2 : Int), vs = [.ref b, .int m1, .int m2] ∧ Box H b ∧ 1 ≤ m1 ∧ m1 ≤ 8 ∧ 0 ≤ m2 ∧ m2 ≤ 12 ∧
  ∀ p rooms rows H', HS H' p rooms rows → HallV rooms rows → (rooms.length : Int) ≤ m1 → (rows.length : Int) ≤ m2 → Box H' b → Ch b H H' → Q (.ref p) H'
theorem nodup_sub : ∀ {l m : List Str}, l.Nodup → (∀ x ∈ l, x ∈ m) → l.length ≤ m.length
  | [], _, _, _ => Nat.zero_le _
  | x :: l, m, h, s => by
    obtain ⟨h1, h2⟩ := List.nodup_cons.mp h
    have hx := s x (List.mem_cons_self ..)
    have e := nodup_sub (m := m.erase x) h2 fun y hy => (List.mem_erase_of_ne (fun z => h1 (by rw [← z]; exact hy))).mpr (s y (List.mem_cons_of_mem _ hy))
    have e2 := List.length_erase_of_mem hx
    have e3 : 0 < m.length := List.length_pos_of_mem hx
    rw [List.length_cons]
    omega
theorem titles_nd {ns ts : List Str} (hn : ns.Nodup) (ht : ts.Nodup) : (ns ++ ts.filter fun t => !decide (t ∈ ns)).Nodup := by
  refine List.nodup_append.mpr ⟨hn, ht.filter _, fun x hx y hy e => ?_⟩
  have z := (List.mem_filter.mp hy).2
  rw [← e, decide_eq_true hx] at z
  cases z
theorem filter_two (p : Str → Bool) : ∀ l : List Str, (l.filter p).length + (l.filter fun t => !p t).length = l.length
  | [] => rfl
  | x :: l => by
    have e := filter_two p l
    rw [List.filter_cons, List.filter_cons]
    cases h : p x
    · simp only [Bool.not_false, if_true, Bool.false_eq_true, if_false, List.length_cons]
      omega
    · simp only [Bool.not_true, if_true, Bool.false_eq_true, if_false, List.length_cons]
      omega
theorem titles_len {ns ts : List Str} (ht : ts.Nodup) : ts.length ≤ (ns ++ ts.filter fun t => !decide (t ∈ ns)).length := by
  have e := filter_two (fun t => decide (t ∈ ns)) ts
  have e2 : (ts.filter fun t => decide (t ∈ ns)).length ≤ ns.length := nodup_sub (ht.filter _) fun x hx => of_decide_eq_true (List.mem_filter.mp hx).2
  rw [List.length_append]
  omega
theorem titles_nm {ns ts : List Str} (hn : ∀ x ∈ ns, Nm x) (ht : ∀ x ∈ ts, Nm x) : ∀ x ∈ (ns ++ ts.filter fun t => !decide (t ∈ ns)), Nm x := fun x hx => by
  rcases List.mem_append.mp hx with h | h
  · exact hn x h
  · exact ht x (List.mem_filter.mp h).1
theorem atS {ss : List Str} {j : Int} (h0 : 0 ≤ j) (h1 : j < (ss.length : Int)) : ∃ x, ss[j.toNat]? = some x ∧ atI (ss.map V.str) j = some (.str x) := by
  obtain ⟨m, rfl⟩ : ∃ m : Nat, j = (m : Int) := ⟨j.toNat, by omega⟩
  have hj : m < ss.length := by omega
  exact ⟨ss[m], List.getElem?_eq_getElem hj, atI_nat (by rw [List.getElem?_map, List.getElem?_eq_getElem hj]; rfl)⟩
theorem Box.upd {H : Hp} {b p : Addr} (B : Box H b) (h : p ≠ b) (o : HO) : Box (upd H p o) b := by
  obtain ⟨c, s, n, e, z⟩ := B
  exact ⟨c, s, n, by rw [upd_ne h.symm]; exact e, z⟩
/-- a store to what H0 does not know -/
theorem Ch.mut {b p : Addr} {H0 H : Hp} (x : Ch b H0 H) (h : H0 p = Option.none) (o : HO) : Ch b H0 (L2.upd H p o) := fun a u na ha => by
  rw [upd_ne (ne_of_none ha h)]
  exact x a u na ha
/-! ### names in ascending order -/
def Up : Str → List Str → Prop
  | _, [] => True
  | p, x :: r => p.cps.toList < x.cps.toList ∧ Up x r
theorem lt_of_not {a b : Str} (h : PySem.Spec.ltCps b.cps.toList a.cps.toList = false) (hn : a ≠ b) : a.cps.toList < b.cps.toList := by
  rw [PyProof.Rows.ltCps_eq] at h
  have h1 : ¬ b.cps.toList < a.cps.toList := of_decide_eq_false h
  by_cases h2 : a.cps.toList < b.cps.toList
  · exact h2
  · exact absurd (TL.ext_tl (List.le_antisymm (show a.cps.toList ≤ b.cps.toList from h1) (show b.cps.toList ≤ a.cps.toList from h2))) hn
theorem up_rising : ∀ {r : List Str} {p : Str}, risingS p r = true → (p :: r).Nodup → Up p r
  | [], _, _, _ => True.intro
  | x :: r, p, h, hn => by
    have h1 : (!PySem.Spec.ltCps x.cps.toList p.cps.toList && risingS x r) = true := h
    rw [Bool.and_eq_true, Bool.not_eq_true'] at h1
    obtain ⟨n1, n2⟩ := List.nodup_cons.mp hn
    exact ⟨lt_of_not h1.1 fun e => n1 (by rw [e]; exact List.mem_cons_self ..), up_rising h1.2 n2⟩
theorem nil_lt {x : Str} (h : 1 ≤ x.length) : ("" : Str).cps.toList < x.cps.toList := by
  have e : ("" : Str).cps.toList = [] := by decide
  rw [e]
  have h2 : 1 ≤ x.cps.toList.length := by
    rw [Array.length_toList]
    exact h
  generalize x.cps.toList = l at h2
  cases l with
  | nil => cases h2
  | cons c l => exact List.Lex.nil
theorem up_sorted {ys : List Str} (h : sortedS ys = true) (hn : ys.Nodup) (h1 : ∀ y ∈ ys, Nm y) : Up "" ys := by
  cases ys with
  | nil => exact True.intro
  | cons x r => exact ⟨nil_lt (h1 x (List.mem_cons_self ..)).1, up_rising h hn⟩
structure StV (rooms : List Str) (rows : List (List Str)) (faces : List Str) (places : List (List Str)) : Prop where
  fl : faces.length = rows.length
  fc : ∀ (i : Nat) (f : Str) (r : List Str), faces[i]? = some f → rows[i]? = some r → ∃ n a b : Str, r = [n, a, b] ∧ (f = a ∨ f = b)
  p5 : places.length ≤ 5
  pl : ∀ p ∈ places, ∃ w r : Str, p = [w, r] ∧ Nm w ∧ r ∈ rooms
  up : Up "" (places.map fun p => p.headD "")
def spState : Sp := fun vs H Q _ => ∃ (b h : Addr) (m : Int) (rooms : List Str) (rows : List (List Str)), vs = [.ref b, .ref h, .int m] ∧ Box H b ∧ HS H h rooms rows ∧ HallV rooms rows ∧ 0 ≤ m ∧ m ≤ 5 ∧
  ∀ p faces places H', HS H' p faces places → StV rooms rows faces places → (places.length : Int) ≤ m → Box H' b → Ch b H H' → Q (.ref p) H'
theorem cut_to {xs : List V} {m : Int} (h : 0 ≤ m) : cutV xs none (some m) = xs.take m.toNat := by
  obtain ⟨k, rfl⟩ : ∃ k : Nat, m = (k : Int) := ⟨m.toNat, by omega⟩
  unfold cutV
  rw [HT.sIx_none, HT.sIx_nat, List.drop_zero, Nat.sub_zero, Int.toNat_natCast]
  by_cases g : k ≤ xs.length
  · rw [Nat.min_eq_left g]
  · rw [Nat.min_eq_right (by omega), List.take_of_length_le (Nat.le_refl _), List.take_of_length_le (by omega)]
theorem RowsAt.row {H : Hp} {as : List Addr} {rows : List (List Str)} (h : RowsAt H as rows) {i : Nat} {x : V} (hx : (as.map V.ref)[i]? = some x) : ∃ a r, x = .ref a ∧ rows[i]? = some r ∧ H a = some (.tup (r.map V.str)) := by
  rw [List.getElem?_map] at hx
  cases z : as[i]? with
  | none => rw [z] at hx; cases hx
  | some a =>
    rw [z] at hx
    have hi : i < rows.length := by
      rw [← h.1]
      exact (List.getElem?_eq_some_iff.mp z).1
    exact ⟨a, rows[i], (Option.some.inj hx).symm, List.getElem?_eq_getElem hi, h.2 i a _ z (List.getElem?_eq_getElem hi)⟩
theorem str_at {ss : List Str} {i : Nat} {x : V} (hx : (ss.map V.str)[i]? = some x) : ∃ t, ss[i]? = some t ∧ x = .str t := by
  rw [List.getElem?_map] at hx
  cases z : ss[i]? with
  | none => rw [z] at hx; cases hx
  | some t => rw [z] at hx; exact ⟨t, rfl, (Option.some.inj hx).symm⟩
theorem take_snoc {α : Type} {l : List α} {i : Nat} {x : α} (h : l[i]? = some x) : l.take (i + 1) = l.take i ++ [x] := by
  rw [List.take_succ, h]
  rfl
theorem sz100 {n : Nat} (h : n ≤ 1000) : n < sizeLine := small1000 h
/-! ### what some calls ask, by K alone -/
abbrev rLn (K : PySem.W.Frag) : List V → Hp → VK → Prop := fun xs H Q => ∃ p ys, xs = [.ref p] ∧ (SqL K H p ys ∨ SqT K H p ys) ∧ Q (.int ys.length) H
abbrev rTpOf (K : PySem.W.Frag) : List V → Hp → VK → Prop := fun xs H Q => ∃ p ys, xs = [.ref p] ∧ ((SqL K H p ys ∧ ∀ l, H l = none → Q (.ref l) (L2.upd H l (.tup ys))) ∨ (SqT K H p ys ∧ Q (.ref p) H))
abbrev rLsOf (K : PySem.W.Frag) : List V → Hp → VK → Prop := fun xs H Q => ∃ p ys, xs = [.ref p] ∧ (SqL K H p ys ∨ SqT K H p ys) ∧ ∀ l, H l = none → Q (.ref l) (L2.upd H l (.lst ys))
abbrev rJn (K : PySem.W.Frag) : V → List V → Hp → VK → Prop := fun x xs H Q => ∃ a p, ∃ ys : List Str, x = .str a ∧ xs = [.ref p] ∧ (SqL K H p (ys.map V.str) ∨ SqT K H p (ys.map V.str)) ∧ (ys.map (·.length)).sum + ys.length * a.length ≤ 16777216 ∧ Q (.str (Txt.join a ys)) H
/-! ### any walk in a comprehension, in a for -/
theorem lc_gen {J : It} {n : Nat} {g : TG} {tt : TT} {te : TE} {vs : List Nat} {σ : L2.St} {H1 : Hp} {D : Addr} {Qd : Hp → Prop} (Pv : Nat → Hp → Prop) (h0 : Pv 0 (L2.upd H1 D (.lst [])))
    (hs : ∀ i H, i < n → Pv i H → J.go i H ∧ ∀ x H', J.yld i H x H' → g x (wipe σ vs) H' fun σ2 H2 => wipe σ2 vs = wipe σ vs ∧ tt σ2 H2 fun b H3 =>
      if b = true then te σ2 H3 fun y H4 => ∃ acc, H4 D = some (.lst acc) ∧ acc.length < sizeLine ∧ Pv (i + 1) (L2.upd H4 D (.lst (acc ++ [y]))) else Pv (i + 1) H3) (hd : ∀ H, Pv n H → J.stop n H ∧ Qd H) :
    ∃ W : Nat → Nat → Hp → Prop, (∃ m, W 0 m (L2.upd H1 D (.lst []))) ∧ ∀ i m H, W i m H →
      (J.stop i H ∧ Qd H) ∨ (J.go i H ∧ ∃ Nx : Hp → Prop, (∀ H', Nx H' → ∃ m', m' < m ∧ W (i + 1) m' H') ∧ ∀ x H', J.yld i H x H' → g x (wipe σ vs) H' fun σ2 H2 => wipe σ2 vs = wipe σ vs ∧ tt σ2 H2 fun b H3 =>
        if b = true then te σ2 H3 fun y H4 => ∃ acc, H4 D = some (.lst acc) ∧ acc.length < sizeLine ∧ Nx (L2.upd H4 D (.lst (acc ++ [y]))) else Nx H3) := by
  refine ⟨fun i m H => m = n - i ∧ i ≤ n ∧ Pv i H, ⟨n, by simp, Nat.zero_le _, h0⟩, ?_⟩
  rintro i m H ⟨rfl, hi, p⟩
  by_cases hlt : i < n
  · obtain ⟨g1, g2⟩ := hs i H hlt p
    exact .inr ⟨g1, Pv (i + 1), fun H' p' => ⟨n - (i + 1), by omega, rfl, hlt, p'⟩, g2⟩
  · have e : i = n := by omega
    subst e
    exact .inl (hd H p)
theorem for_gen {J : It} {n : Nat} {g : TG} {tb : TS} {D : Ends} {σ : L2.St} {H : Hp} (Pv : Nat → L2.St → Hp → Prop) (h0 : Pv 0 σ H)
    (hs : ∀ i σ H, i < n → Pv i σ H → J.go i H ∧ ∀ x H', J.yld i H x H' → g x σ H' fun σ2 H2 => tb { D with nx := Pv (i + 1), ct := Pv (i + 1), bk := D.nx } σ2 H2) (hd : ∀ σ H, Pv n σ H → J.stop n H ∧ D.nx σ H) :
    ∃ W : Nat → Nat → L2.St → Hp → Prop, (∃ m, W 0 m σ H) ∧ ∀ i m σ H, W i m σ H →
      (J.stop i H ∧ D.nx σ H) ∨ (J.go i H ∧ ∃ N : L2.St → Hp → Prop, (∀ σ' H', N σ' H' → ∃ m', m' < m ∧ W (i + 1) m' σ' H') ∧ ∀ x H', J.yld i H x H' → g x σ H' fun σ2 H2 => tb { D with nx := N, ct := N, bk := D.nx } σ2 H2) := by
  refine ⟨fun i m σ H => m = n - i ∧ i ≤ n ∧ Pv i σ H, ⟨n, by simp, Nat.zero_le _, h0⟩, ?_⟩
  rintro i m σ H ⟨rfl, hi, p⟩
  by_cases hlt : i < n
  · obtain ⟨g1, g2⟩ := hs i σ H hlt p
    exact .inr ⟨g1, Pv (i + 1), fun σ' H' p' => ⟨n - (i + 1), by omega, rfl, hlt, p'⟩, g2⟩
  · have e : i = n := by omega
    subst e
    exact .inl (hd σ H p)
/-! ### data: texts, numbers, truth values, None, tuples of these -/
def Sc (x : V) (d : PyData) : Prop := (∃ s, x = .str s ∧ d = .str s) ∨ (∃ b, x = .bl b ∧ d = .bool b) ∨ (∃ i, x = .int i ∧ d = .int i) ∨ (x = .non ∧ d = .none)
def DR (H : Hp) : Nat → V → PyData → Prop
  | 0, _, _ => False
  | n + 1, x, d => Sc x d ∨ ∃ (a : Addr) (xs : List V) (ds : List PyData), x = .ref a ∧ d = .tuple ds ∧ H a = some (.tup xs) ∧ (xs.length = ds.length ∧ ds.length ≤ 1000) ∧ ∀ (i : Nat) (v : V) (e : PyData), xs[i]? = some v → ds[i]? = some e → DR H n v e
theorem DR.tu {H H' : Hp} (t : Tu H H') : ∀ {n : Nat} {x : V} {d : PyData}, DR H n x d → DR H' n x d
  | 0, _, _, h => h
  | n + 1, x, d, h => by
    rcases h with h | ⟨a, xs, ds, e1, e2, h1, h2, h3⟩
    · exact .inl h
    · exact .inr ⟨a, xs, ds, e1, e2, t _ _ h1, h2, fun i v e a1 a2 => DR.tu t (h3 i v e a1 a2)⟩
theorem Sc.eq {x y : V} {d : PyData} (h1 : Sc x d) (h2 : Sc y d) : x = y := by
  rcases h1 with ⟨s, rfl, rfl⟩ | ⟨s, rfl, rfl⟩ | ⟨s, rfl, rfl⟩ | ⟨rfl, rfl⟩ <;> rcases h2 with ⟨t, rfl, e⟩ | ⟨t, rfl, e⟩ | ⟨t, rfl, e⟩ | ⟨rfl, e⟩ <;> first | rfl | (injection e with e; subst e; rfl) | (cases e)
theorem Sc.not_tup {x : V} {ds : List PyData} (h : Sc x (.tuple ds)) : False := by
  rcases h with ⟨s, _, e⟩ | ⟨s, _, e⟩ | ⟨s, _, e⟩ | ⟨_, e⟩ <;> cases e
theorem Sc.ty {K : PySem.W.Frag} {x : V} {d : PyData} (h : Sc x d) : ∃ t : String, (∀ H : Hp, TyX K H x (.type t)) ∧ scal x x = true ∧ (∃ b, PySem.W.kitOne K (.type t) (.type "bool") = some b) ∧ (∃ b, PySem.W.kitOne K (.type t) (.type "str") = some b) ∧
    PySem.W.kitOne K (.type t) (.type "tuple") = some false ∧ PySem.W.kitOne K (.type t) (.type "list") = some false ∧ PySem.W.kitOne K (.type t) (.type "dict") = some false := by
  rcases h with ⟨s, rfl, rfl⟩ | ⟨s, rfl, rfl⟩ | ⟨s, rfl, rfl⟩ | ⟨rfl, rfl⟩
  · exact ⟨"str", fun _ => .base (.str _), rfl, ⟨false, kit_ty (by decide +kernel)⟩, ⟨true, kit_ty (by decide +kernel)⟩, kit_ty (by decide +kernel), kit_ty (by decide +kernel), kit_ty (by decide +kernel)⟩
  · exact ⟨"bool", fun _ => .base (.bl _), rfl, ⟨true, kit_ty (by decide +kernel)⟩, ⟨false, kit_ty (by decide +kernel)⟩, kit_ty (by decide +kernel), kit_ty (by decide +kernel), kit_ty (by decide +kernel)⟩
  · exact ⟨"int", fun _ => .base (.int _), rfl, ⟨false, kit_ty (by decide +kernel)⟩, ⟨false, kit_ty (by decide +kernel)⟩, kit_ty (by decide +kernel), kit_ty (by decide +kernel), kit_ty (by decide +kernel)⟩
  · exact ⟨"NoneType", fun _ => .base .non, rfl, ⟨false, kit_ty (by decide +kernel)⟩, ⟨false, kit_ty (by decide +kernel)⟩, kit_ty (by decide +kernel), kit_ty (by decide +kernel), kit_ty (by decide +kernel)⟩
theorem kit_tl {K : PySem.W.Frag} : PySem.W.kitOne K (.type "tuple") (.type "tuple") = some true ∧ PySem.W.kitOne K (.type "tuple") (.type "list") = some false := ⟨kit_ty (by decide +kernel), kit_ty (by decide +kernel)⟩
theorem kit_false {K : PySem.W.Frag} {t : Value} : ∀ {cs : List Value}, (∀ c ∈ cs, PySem.W.kitOne K t c = some false) → PySem.W.kitAny K t cs = some false
  | [], _ => rfl
  | c :: cs, h => by
    unfold PySem.W.kitAny
    rw [h c (List.mem_cons_self ..)]
    exact kit_false fun z hz => h z (List.mem_cons_of_mem _ hz)
theorem kit_true {K : PySem.W.Frag} {t c : Value} {cs : List Value} (h : PySem.W.kitOne K t c = some true) : PySem.W.kitAny K t (c :: cs) = some true := by
  unfold PySem.W.kitAny
  rw [h]
/-- the promise of _law_alike for equal data: n - 1 the depth -/
def spAlike (n : Nat) : Sp := fun vs H Q _ => ∃ (x y : V) (d : PyData), vs = [x, y] ∧ DR H n x d ∧ DR H n y d ∧ ∀ H', Same H H' → Q (.bl true) H'
theorem all_rep : ∀ n : Nat, (List.replicate n true).all id = true
  | 0 => rfl
  | n + 1 => by
    rw [List.replicate_succ, List.all_cons, all_rep n]
    rfl
/-- a store to a list that H0 does not know -/
theorem same_mut {H0 H : Hp} {p : Addr} (x : Same H0 H) (h : H0 p = none) (o : HO) : Same H0 (upd H p o) := fun a u e => by
  rw [upd_ne (ne_of_none e h)]
  exact x a u e
end Td
set_option maxHeartbeats 4000000
namespace Td
open PySem PySem.Spec PyProof.Rows L2
def top (i : Nat) : Stmt := PySem.Challenge.pw_turndoors_k06_validated_states.main.body.getD i (.Pass ⟨0, 0, 0, 0⟩)
section
variable {P : Program} {w : World} {K : PySem.W.Frag} {mg : Str → Option Value} {base : Heap} {f : Addr} {fd : FuncData}
abbrev s_law_take : Stmt := top 16
abbrev n_law_take : List Str := ["box", "many", "digit", "one"]
theorem sc_law_take : FnScope n_law_take ["box", "many"] (defScope s_law_take) := ⟨rfl, rfl, rfl, by decide +kernel, rfl, by decide +kernel, by decide +kernel⟩
theorem ok_law_take (F : FnP K "_law_take" s_law_take f fd) (hm : mg "_law_take" = some (.ref f)) :
    Cal P w K mg base 1 "_law_take" spTake := by
  refine cal_of (F.ok sc_law_take (fun vs H Q E h => ?_) (fun cdv A outer s H vs Q E hr h => ?_)) hm F.kp (F.bindsN (ps := ["box", "many"]) fun _ _ _ _ _ _ us hl => match us, hl with | [_, _], _ => rfl)
  · obtain ⟨b, m, rfl, ⟨c, sd, n, hb, hc⟩, h0, h1, q⟩ := h
    rfl
  obtain ⟨b, m, rfl, ⟨c, sd, n, hb, hc⟩, h0, h1, q⟩ := h
  have nd := sc_law_take.nd
  refine ⟨_, PSs.nox (pss_cons (ps_if (pt_cmpR op_gt (pe_ix (r := rIxL K) ix_list (pv 0) pe_int (fun _ _ => rfl)) pe_int (nomark _)) (pss_cons (ps_set (i := 2) nd rfl (Or.inl rfl) (pe_op op_mod (pe_ix (r := rIxL K) ix_list (pv 0) pe_int (fun _ _ => rfl)) (pv 1)))
    (pss_cons (ps_asg (pe_op op_fdivW (pe_ix (r := rIxL K) ix_list (pv 0) pe_int (fun _ _ => rfl)) (pv 1)) (pg_sub (pv 0) pe_int set_list))
    (pss_one (ps_ret (pv 2))))) pss_nil)
    (pss_cons (ps_asg (pe_op op_add (pe_ix (r := rIxL K) ix_list (pv 0) pe_int (fun _ _ => rfl)) pe_int) (pg_sub (pv 0) pe_int set_list))
    (pss_cons (ps_set (i := 3) nd rfl (Or.inl rfl) (pe_op op_mod (pe_op op_mul (pe_op op_add (pe_ix (r := rIxL K) ix_list (pv 0) pe_int (fun _ _ => rfl)) (pe_op op_mul pe_int (pe_ix (r := rIxL K) ix_list (pv 0) pe_int (fun _ _ => rfl)))) pe_int) pe_int))
    (pss_cons (ps_asg (pe_op op_add (pe_op op_mod (pe_op op_add (pe_op op_mul (pv 3) pe_int) pe_int) pe_int) pe_int) (pg_sub (pv 0) pe_int set_list))
    (pss_one (ps_ret (pe_op op_mod (pe_op op_fdiv (pe_op op_add (pe_op op_mul (pv 3) pe_int) (pe_ix (r := rIxL K) ix_list (pv 0) pe_int (fun _ _ => rfl))) pe_int) (pv 1)))))))), ?_⟩
  have a0 : ∀ (x y z : Int), atI ([.int x, .int y, .int z] : List V) 0 = some (.int x) := fun _ _ _ => atI_nat (j := 0) rfl
  have a1 : ∀ (x y z : Int), atI ([.int x, .int y, .int z] : List V) 1 = some (.int y) := fun _ _ _ => atI_nat (j := 1) rfl
  have a2 : ∀ (x y z : Int), atI ([.int x, .int y, .int z] : List V) 2 = some (.int z) := fun _ _ _ => atI_nat (j := 2) rfl
  refine ⟨_, rfl, b, _, _, _, rfl, rfl, SqL.of hb, a0 _ _ _, _, _, rfl, rfl, _, rfl, ?_⟩
  refine ite2 (fun g => ?_) (fun g => ?_)
  · have g' : 0 < c := of_decide_eq_true g
    refine ⟨_, rfl, b, _, _, _, rfl, rfl, SqL.of hb, a0 _ _ _, _, rfl, _, _, rfl, rfl, h0, ?_⟩
    refine ⟨_, rfl, b, _, _, _, rfl, rfl, SqL.of hb, a0 _ _ _, _, rfl, _, _, rfl, rfl, wide_div h0 (b := 30) (by omega) (by decide) (by decide), _, rfl, b, _, 0, 0, rfl, rfl, hb, rfl, ?_⟩
    refine ⟨_, rfl, ?_⟩
    exact q _ _ (Int.emod_nonneg _ (by omega)) (Int.emod_lt_of_pos _ h0) ⟨_, _, _, upd_same, Int.ediv_nonneg hc (by omega)⟩ ((Ch.refl b H).upd _)
  · refine ⟨_, rfl, b, _, _, _, rfl, rfl, SqL.of hb, a2 _ _ _, _, _, rfl, rfl, _, rfl, b, _, 2, 2, rfl, rfl, hb, rfl, ?_⟩
    refine ⟨_, rfl, b, _, _, _, rfl, rfl, SqL.of upd_same, a1 _ _ _, _, rfl, b, _, _, _, rfl, rfl, SqL.of upd_same, a2 _ _ _, _, _, rfl, rfl, .inl ⟨by decide, by decide⟩, _, _, rfl, rfl, _, _, rfl, rfl, .inr ⟨by decide, by decide⟩, _, _, rfl, rfl, (by show (0 : Int) < _; decide), ?_⟩
    refine ⟨_, rfl, _, _, rfl, rfl, .inr ⟨by decide, by decide⟩, _, _, rfl, rfl, _, _, rfl, rfl, (by show (0 : Int) < _; decide), _, _, rfl, rfl, _, rfl, b, _, 1, 1, rfl, rfl, upd_same, rfl, ?_⟩
    refine ⟨_, rfl, _, _, rfl, rfl, .inr ⟨by decide, by decide⟩, _, rfl, b, _, _, _, rfl, rfl, SqL.of upd_same, a1 _ _ _, _, _, rfl, rfl, _, _, rfl, rfl, ⟨by decide, by decide⟩, _, rfl, _, _, rfl, rfl, h0, ?_⟩
    exact q _ _ (Int.emod_nonneg _ (by omega)) (Int.emod_lt_of_pos _ h0) ⟨_, _, _, upd_same, hc⟩ (((Ch.refl b H).upd _).upd _)
abbrev s_law_box : Stmt := top 15
abbrev n_law_box : List Str := ["script", "k", "cell", "seed"]
theorem sc_law_box : FnScope n_law_box ["script", "k"] (defScope s_law_box) := ⟨rfl, rfl, rfl, by decide +kernel, rfl, by decide +kernel, by decide +kernel⟩
theorem ok_law_box (F : FnP K "_law_box" s_law_box f fd) (hm : mg "_law_box" = some (.ref f)) (m_int : mg "int" = none) (m_len : mg "len" = none) :
    Cal P w K mg base 1 "_law_box" (spBox K) := by
  refine cal_of (F.ok sc_law_box (fun vs H Q E h => ?_) (fun cdv A outer s H vs Q E hr h => ?_)) hm F.kp (F.bindsN (ps := ["script", "k"]) fun _ _ _ _ _ _ us hl => match us, hl with | [_, _], _ => rfl)
  · obtain ⟨a, ns, k, rfl, hS, h63, hk, q⟩ := h
    rfl
  obtain ⟨a, ns, k, rfl, hS, h63, hk, q⟩ := h
  have nd := sc_law_box.nd
  refine ⟨_, PSs.nox (pss_cons (ps_set (i := 2) nd rfl (Or.inl rfl) (pe_op op_add (pe_op op_mul pe_int (pv 1)) pe_int))
    (C8.pss_cut (ps_if (pt_cmpR op_lt (pv 1) (pe_callB (r := rLn K) call_len_seq (by rfl) m_len PySem.boot_len (pa_cons (pv 0) pa_nil)) (nomark _)) (pss_one (ps_set (i := 2) nd rfl (Or.inl rfl) (pe_ix (r := rIxL K) ix_list (pv 0) (pv 1) (fun _ _ => rfl)))) (pss_one (ps_if (pt_cmpR op_gt (pe_callB (r := rLn K) call_len_seq (by rfl) m_len PySem.boot_len (pa_cons (pv 0) pa_nil)) pe_int (nomark _)) (pss_one (ps_set (i := 2) nd rfl (Or.inl rfl) (pe_op op_add (pv 2) (pe_op op_mul (pe_op op_mod (pe_ix (r := rIxL K) ix_list (pv 0) (pe_op op_mod (pv 1) (pe_callB (r := rLn K) call_len_seq (by rfl) m_len PySem.boot_len (pa_cons (pv 0) pa_nil))) (fun _ _ => rfl)) pe_int) pe_int)))) pss_nil)))
    (pss_cons (ps_set (i := 3) nd rfl (Or.inl rfl) (pe_op op_add (pe_op op_mod (pe_op op_add (pe_op op_mul (pe_op op_mod (pv 2) pe_int) pe_int) (pe_op op_mul pe_int (pv 1))) pe_int) pe_int))
    (pss_one (ps_ret (pe_lst (pa_cons (pe_ix (r := rIxL K) ix_list (pe_lst (pa_cons pe_int (pa_cons (pv 2) pa_nil))) (pe_callTy call_int1 (by rfl) m_int (by decide +kernel) (pa_cons (pe_cmpR op_ge (pv 2) (pe_op op_pow pe_int pe_int) (nomark _)) pa_nil)) (fun _ _ => rfl)) (pa_cons (pv 3) (pa_cons pe_int pa_nil))))))))), ?_⟩
  have hl : (ns.map V.int).length = ns.length := List.length_map _
  have get : ∀ j : Int, 0 ≤ j → j < (ns.length : Int) → ∃ v : Int, atI (ns.map V.int) j = some (.int v) := fun j j0 j1 => by
    obtain ⟨m, rfl⟩ : ∃ m : Nat, j = (m : Int) := ⟨j.toNat, by omega⟩
    have hj : m < ns.length := by omega
    exact ⟨ns[m], atI_nat (by rw [List.getElem?_map, List.getElem?_eq_getElem hj]; rfl)⟩
  refine ⟨_, rfl, _, _, rfl, rfl, .inl ⟨by decide, by decide⟩, _, _, rfl, rfl, ?_⟩
  refine ⟨fun σ' H' => H' = H ∧ ∃ c : Int, σ' = [some (.ref a), some (.int k), some (.int c), none], ?_, ?_⟩
  · refine ⟨_, rfl, _, rfl, a, _, rfl, .inl hS, _, _, rfl, rfl, _, rfl, ?_⟩
    rw [hl]
    refine ite2 (fun g => ?_) (fun g => ?_)
    · have g' : k < (ns.length : Int) := of_decide_eq_true g
      obtain ⟨v, hv⟩ := get k hk g'
      exact ⟨_, rfl, _, rfl, a, _, _, _, rfl, rfl, hS, hv, rfl, v, rfl⟩
    · refine ⟨_, rfl, a, _, rfl, .inl hS, _, _, rfl, rfl, _, rfl, ?_⟩
      rw [hl]
      refine ite2 (fun g2 => ?_) (fun g2 => ?_)
      · have g2' : 0 < (ns.length : Int) := of_decide_eq_true g2
        obtain ⟨v, hv⟩ := get (k % (ns.length : Int)) (Int.emod_nonneg _ (by omega)) (Int.emod_lt_of_pos _ g2')
        refine ⟨_, rfl, _, rfl, _, rfl, _, rfl, a, _, rfl, .inl hS, _, _, rfl, rfl, (by rw [hl]; exact g2'), a, _, _, _, rfl, rfl, hS, (by rw [hl]; exact hv), _, _, rfl, rfl, (by show (0 : Int) < _; decide), _, _, rfl, rfl, .inr ⟨by decide, by decide⟩, _, _, rfl, rfl, rfl, _, rfl⟩
      · exact ⟨rfl, _, rfl⟩
  · rintro σ' H' ⟨rfl, c, rfl⟩
    refine ⟨_, rfl, _, _, rfl, rfl, (by show (0 : Int) < _; decide), _, _, rfl, rfl, .inr ⟨by decide, by decide⟩, _, rfl, _, _, rfl, rfl, .inl ⟨by decide, by decide⟩, _, _, rfl, rfl, _, _, rfl, rfl, (by show (0 : Int) < _; decide), _, _, rfl, rfl, ?_⟩
    refine ⟨_, rfl, (by show 2 ≤ sizeLine; decide), fun p hp => ?_⟩
    refine ⟨_, rfl, _, _, rfl, rfl, (by show (0 : Int) ≤ _ ∧ _ ≤ _ ∧ _ < _; decide), _, _, rfl, rfl, .inr ⟨_, rfl, ?_⟩⟩
    refine ⟨p, _, _, (if c ≥ 10 ^ (18 : Int).toNat then .int c else .int 0), rfl, rfl, SqL.of upd_same, ?_, ?_⟩
    · by_cases g : c ≥ 10 ^ (18 : Int).toNat
      · rw [if_pos g, decide_eq_true g]
        exact atI_nat (j := 1) rfl
      · rw [if_neg g, decide_eq_false g]
        exact atI_nat (j := 0) rfl
    refine ⟨_, rfl, (by show 3 ≤ sizeLine; decide), fun p2 hp2 => ?_⟩
    refine q _ _ ((same_new hp _).trans (same_new hp2 _)) ((same_new hp _).free hp2) ?_
    by_cases g : c ≥ 10 ^ (18 : Int).toNat
    · rw [if_pos g]
      exact ⟨_, _, _, upd_same, Int.le_trans (by decide) g⟩
    · rw [if_neg g]
      exact ⟨_, _, _, upd_same, Int.le_refl 0⟩
end
end Td
set_option maxHeartbeats 4000000
namespace Td
open PySem PySem.Spec PyProof.Rows L2
section
variable {P : Program} {w : World} {K : PySem.W.Frag} {mg : Str → Option Value} {base : Heap} {f : Addr} {fd : FuncData}
abbrev s_law_names : Stmt := top 17
abbrev n_law_names : List Str := ["box", "many", "letters", "words", "k", "stem", "at", "first", "step", "names", "sign", "spot", "word"]
theorem sc_law_names : FnScope n_law_names ["box", "many"] (defScope s_law_names) := ⟨rfl, rfl, rfl, by decide +kernel, rfl, by decide +kernel, by decide +kernel⟩
theorem ok_law_names (F : FnP K "_law_names" s_law_names f fd) (hm : mg "_law_names" = some (.ref f)) (c_law_take : Cal P w K mg base 1 "_law_take" spTake) (m_int : mg "int" = none) (m_len : mg "len" = none) (m_range : mg "range" = none) :
    Cal P w K mg base 2 "_law_names" spNames := by
  refine cal_of (F.ok sc_law_names (fun vs H Q E h => ?_) (fun cdv A outer s H vs Q E hr h => ?_)) hm F.kp (F.bindsN (ps := ["box", "many"]) fun _ _ _ _ _ _ us hl => match us, hl with | [_, _], _ => rfl)
  · obtain ⟨b, m, rfl, hB, hm1, hm2, q⟩ := h
    rfl
  obtain ⟨b, m, rfl, hB, hm1, hm2, q⟩ := h
  have nd := sc_law_names.nd
  refine ⟨_, PSs.nox (pss_cons (ps_asg (pe_tup (pa_cons pe_str (pa_cons (pe_lst (pa_cons pe_str (pa_cons pe_str (pa_cons pe_str (pa_cons pe_str (pa_cons pe_str (pa_cons pe_str (pa_cons pe_str (pa_cons pe_str pa_nil))))))))) pa_nil))) (pg_tup (by rfl) (pgs_cons (pg_name (i := 2) nd rfl (Or.inr rfl)) (pgs_cons (pg_name (i := 3) nd rfl (Or.inl rfl)) pgs_nil))))
    (pss_cons (ps_set (i := 5) nd rfl (Or.inl rfl) (show PE _ _ (tM1 (rJn K) _ _) from pe_join pe_str (pe_lc (own := [("k", 4)]) (g := (gName 4)) (by rfl) nd (pi_range1 (by rfl) m_range (pa_cons (C8.pe_c c_law_take hr (by omega) (by rfl) (pa_cons (pv 0) (pa_cons pe_int pa_nil))) pa_nil)) (blkOk_by (own := [("k", 4)]) (N := n_law_names) (sc := defScope s_law_names) (by decide +kernel)) (fun _ _ _ _ _ => (pg_name (i := 4) nd rfl (Or.inl rfl))) (fun _ _ _ _ _ => pts_nil) (fun _ _ _ _ _ => (pe_ix ix_str (pv 2) (C8.pe_c c_law_take hr (by omega) (by rfl) (pa_cons (pv 0) (pa_cons pe_int pa_nil))) (fun _ _ => rfl))))))
    (pss_cons (ps_set (i := 5) nd rfl (Or.inl rfl) (pe_ix (r := rIxL K) ix_list (pe_lst (pa_cons (pv 5) (pa_cons pe_str pa_nil))) (pe_callTy call_int1 (by rfl) m_int (by decide +kernel) (pa_cons (pe_cmpR op_eq (C8.pe_c c_law_take hr (by omega) (by rfl) (pa_cons (pv 0) (pa_cons pe_int pa_nil))) pe_int (nomark _)) pa_nil)) (fun _ _ => rfl)))
    (pss_cons (ps_par3 (i := 6) (j := 7) (l := 8) (by rfl) nd rfl rfl rfl (by decide) (by decide) (by decide) rfl rfl rfl (pa_cons (C8.pe_c c_law_take hr (by omega) (by rfl) (pa_cons (pv 0) (pa_cons (pe_op op_add (pe_callB call_len_str (by rfl) m_len PySem.boot_len (pa_cons (pv 5) pa_nil)) pe_int) pa_nil))) (pa_cons (C8.pe_c c_law_take hr (by omega) (by rfl) (pa_cons (pv 0) (pa_cons pe_int pa_nil))) (pa_cons (pe_ix (r := rIxL K) ix_list (pe_lst (pa_cons pe_int (pa_cons pe_int (pa_cons pe_int (pa_cons pe_int pa_nil))))) (C8.pe_c c_law_take hr (by omega) (by rfl) (pa_cons (pv 0) (pa_cons pe_int pa_nil))) (fun _ _ => rfl)) pa_nil))) (by rfl))
    (pss_cons (ps_set (i := 9) nd rfl (Or.inl rfl) (pe_lst pa_nil))
    (pss_cons (ps_for PassesOwn.never rfl (pi_range1 (by rfl) m_range (pa_cons (pv 1) pa_nil)) (pg_name (i := 4) nd rfl (Or.inl rfl)) (pss_cons (ps_set (i := 10) nd rfl (Or.inl rfl) (pe_ix ix_str (pv 2) (pe_op op_mod (pe_op op_add (pv 7) (pe_op op_mul (pv 8) (pv 4))) pe_int) (fun _ _ => rfl)))
    (pss_one (ps_expr (show PE _ _ (tBM K _ _ _ _) from pe_bm PySem.F.plainAttrs_list PySem.F.slot_list_append PySem.F.type_list_append mt_append (pv 9) (pa_cons (pe_op op_add_str (pe_op op_add_str (pe_slice C8.sl_txt (pv 5) po_none (po_some (pv 6))) (pv 10)) (pe_slice C8.sl_txt (pv 5) (po_some (pv 6)) po_none)) pa_nil))))))
    (pss_cons (ps_par (i := 11) (j := 12) (by rfl) nd rfl rfl (by decide) rfl rfl (pa_cons (C8.pe_c c_law_take hr (by omega) (by rfl) (pa_cons (pv 0) (pa_cons (pv 1) pa_nil))) (pa_cons (pe_ix (r := rIxL K) ix_list (pv 3) (C8.pe_c c_law_take hr (by omega) (by rfl) (pa_cons (pv 0) (pa_cons pe_int pa_nil))) (fun _ _ => rfl)) pa_nil)) (by rfl))
    (pss_cons (ps_if (PW.pt (pw_and (pt_cmpR op_eq (C8.pe_c c_law_take hr (by omega) (by rfl) (pa_cons (pv 0) (pa_cons pe_int pa_nil))) pe_int (nomark _)) (pw_and1 (pt_cmpR (r := rIn K true) op_notIn_seq (pv 12) (pv 9) (by rfl))))) (pss_one (ps_asg (pv 12) (pg_sub (pv 9) (pv 11) set_list))) pss_nil)
    (pss_one (ps_ret (pv 9))))))))))), ?_⟩
  obtain ⟨n, rfl⟩ : ∃ n : Nat, m = (n : Int) := ⟨m.toNat, by omega⟩
  -- letters, words
  refine ⟨(by show 8 ≤ sizeLine; decide), fun wp hwp => ⟨(by show 2 ≤ sizeLine; decide), fun tp htp => ⟨tp, _, rfl, SqT.of upd_same, rfl, _, _, rfl, _, _, rfl, rfl, ?_⟩⟩⟩
  have c0 : Ch b H (upd (upd H wp (.lst [.str "rooms", .str "door", .str "faces", .str "walker", .str "pass", .str "hall", .str "back", .str "none"])) tp (.tup [.str letters, .ref wp])) := ((Ch.refl b H).new hwp _).new htp _
  have B0 := (hB.new hwp (.lst [.str "rooms", .str "door", .str "faces", .str "walker", .str "pass", .str "hall", .str "back", .str "none"])).new htp (.tup [.str letters, .ref wp])
  have hw0 : (upd (upd H wp (.lst [.str "rooms", .str "door", .str "faces", .str "walker", .str "pass", .str "hall", .str "back", .str "none"])) tp (.tup [.str letters, .ref wp])) wp = some (.lst [.str "rooms", .str "door", .str "faces", .str "walker", .str "pass", .str "hall", .str "back", .str "none"]) := by
    rw [upd_ne (ne_of_none upd_same htp)]; exact upd_same
  have nwb : wp ≠ b := hB.ne hwp
  generalize (upd (upd H wp (.lst [.str "rooms", .str "door", .str "faces", .str "walker", .str "pass", .str "hall", .str "back", .str "none"])) tp (.tup [.str letters, .ref wp])) = H0 at c0 B0 hw0 ⊢
  -- stem
  refine ⟨⟨_, rfl⟩, _, rfl, b, 5, rfl, B0, by decide, by decide, fun r1 H1 r10 r11 B1 c1 => ⟨_, rfl, by omega, by omega, fun D hD => ?_⟩⟩
  have nDb : D ≠ b := B1.ne hD
  refine lc_range (lo := 0) (n := r1.toNat) (fun i H2 => Box H2 b ∧ Ch b H1 H2 ∧ ∃ cs : List Nat, H2 D = some (.lst (cs.map fun c => V.str (SX.S [c]))) ∧ cs.length = i ∧ low cs) ⟨B1.new hD _, (Ch.refl b H1).new hD _, [], upd_same, rfl, fun c hc => by cases hc⟩ (fun i H2 hi ⟨B2, c2, cs, hcs, hl, hlow⟩ => ?_) (fun H2 ⟨B2, c2, cs, hcs, hl, hlow⟩ => ?_)
  · refine ⟨rfl, lcY ?_⟩
    refine ⟨_, rfl, _, rfl, b, 26, rfl, B2, by decide, by decide, fun r2 H3 r20 r21 B3 c3 => ⟨_, _, _, rfl, rfl, (by decide), letter r20 r21, _, c3 D _ nDb hcs, ?_, ?_⟩⟩
    · rw [List.length_map, hl]; exact Nat.lt_of_lt_of_le (show i < 100 by omega) (by decide)
    · have nob : ∀ {z o}, (upd H3 D z) b = some o → H3 b = some o := fun {z o} e => by rw [upd_ne nDb.symm] at e; exact e
      refine ⟨?_, ?_, cs ++ [97 + r2.toNat], ?_, by rw [List.length_append, hl]; rfl, ?_⟩
      · obtain ⟨x, y, z, e, e2⟩ := B3
        exact ⟨x, y, z, by rw [upd_ne nDb.symm]; exact e, e2⟩
      · intro a o na ha
        have hda : a ≠ D := ne_of_none ha hD
        rw [upd_ne hda]
        exact c3 a o na (c2 a o na ha)
      · rw [upd_same, List.map_append]
        rfl
      · intro c hc
        rcases List.mem_append.mp hc with hc | hc
        · exact hlow c hc
        · have e := List.mem_singleton.mp hc
          omega
  -- stem = ''.join
  have e0 : cs.map (fun c => V.str (SX.S [c])) = ((cs.map fun c => [c]).map SX.S).map V.str := by rw [List.map_map, List.map_map]; rfl
  refine ⟨_, D, (cs.map fun c => [c]).map SX.S, rfl, rfl, .inl (SqL.of (by rw [← e0]; exact hcs)), ?_, ?_⟩
  · have e1 : (((cs.map fun c => [c]).map SX.S).map (·.length)) = cs.map fun _ => 1 := by
      rw [List.map_map, List.map_map]
      exact List.map_congr_left fun c _ => SX.S_len [c]
    rw [e1]
    have e2 : (cs.map fun _ => 1).sum = cs.length := by
      clear e1 e0 hcs hlow hl
      induction cs with
      | nil => rfl
      | cons c cs ih => simp [ih]; omega
    rw [e2, hl, show (("" : Str)).length = 0 by decide, Nat.mul_zero]
    omega
  have ej : Txt.join ("" : Str) ((cs.map fun c => [c]).map SX.S) = SX.S cs := by
    have e := SX.join_S [] (cs.map fun c => [c])
    rw [join_nil] at e
    exact e
  rw [ej]
  have c02 : Ch b H H2 := (c0.trans c1).trans c2
  have hw2 := c2 _ _ nwb (c1 _ _ nwb hw0)
  clear ej e0
  -- stem = [stem, 'floor'][..]
  refine ⟨_, rfl, (by show 2 ≤ sizeLine; decide), fun sp hsp => ?_⟩
  refine ⟨_, rfl, b, 4, rfl, B2.new hsp _, by decide, by decide, fun r3 H3 r30 r31 B3 c3 => ?_⟩
  have nsb : sp ≠ b := B2.ne hsp
  refine ⟨rfl, .inr ⟨_, rfl, ?_⟩⟩
  obtain ⟨st, hst, hstl, hstlow⟩ : ∃ st : List Nat, atI ([.str (SX.S cs), .str "floor"] : List V) (if decide (V.int r3 = V.int 0) = true then 1 else 0) = some (.str (SX.S st)) ∧ st.length ≤ 5 ∧ low st := by
    by_cases g : V.int r3 = V.int 0
    · refine ⟨("floor" : Str).cps.toList, ?_, by decide, by unfold low; decide⟩
      rw [decide_eq_true g]
      exact atI_nat (j := 1) rfl
    · refine ⟨cs, ?_, by omega, hlow⟩
      rw [decide_eq_false g]
      exact atI_nat (j := 0) rfl
  refine ⟨sp, _, _, _, rfl, rfl, SqL.of (c3 _ _ nsb upd_same), hst, ?_⟩
  have c03 : Ch b H H3 := (c02.new hsp _).trans c3
  have hw3 := c3 _ _ nwb (same_new hsp (.lst [.str (SX.S cs), .str "floor"]) _ _ hw2)
  -- at, first, step
  refine ⟨_, rfl, _, rfl, SX.S st, rfl, (by rw [SX.S_len]; exact Nat.le_trans hstl (by decide)), _, _, rfl, rfl, b, _, rfl, B3, (by rw [SX.S_len]; omega), (by rw [SX.S_len]; omega), fun r4 H4 r40 r41 B4 c4 => ?_⟩
  refine ⟨_, rfl, b, 26, rfl, B4, by decide, by decide, fun r5 H5 r50 r51 B5 c5 => ?_⟩
  refine ⟨(by show 4 ≤ sizeLine; decide), fun qp hqp => ⟨_, rfl, b, 4, rfl, B5.new hqp _, by decide, by decide, fun r6 H6 r60 r61 B6 c6 => ?_⟩⟩
  have nqb : qp ≠ b := B5.ne hqp
  obtain ⟨se, hse, hok⟩ : ∃ se : Int, atI ([.int 7, .int 1, .int 11, .int 25] : List V) r6 = some (.int se) ∧ okStep se := by
    have z : r6 = 0 ∨ r6 = 1 ∨ r6 = 2 ∨ r6 = 3 := by omega
    rcases z with rfl | rfl | rfl | rfl
    · exact ⟨7, atI_nat (j := 0) rfl, .inl rfl⟩
    · exact ⟨1, atI_nat (j := 1) rfl, .inr (.inl rfl)⟩
    · exact ⟨11, atI_nat (j := 2) rfl, .inr (.inr (.inl rfl))⟩
    · exact ⟨25, atI_nat (j := 3) rfl, .inr (.inr (.inr rfl))⟩
  refine ⟨qp, _, _, _, rfl, rfl, SqL.of (c6 _ _ nqb upd_same), hse, _, _, _, rfl, ?_⟩
  have c06 : Ch b H H6 := (((c03.trans c4).trans c5).new hqp _).trans c6
  have hw6 := c6 _ _ nwb (same_new hqp (.lst [.int 7, .int 1, .int 11, .int 25]) _ _ (c5 _ _ nwb (c4 _ _ nwb hw3)))
  rw [SX.S_len] at r41
  -- names = []
  refine ⟨(by show 0 ≤ sizeLine; decide), fun np hnp => ?_⟩
  have nnb : np ≠ b := B6.ne hnp
  have nwn : wp ≠ np := ne_of_none hw6 hnp
  have hnpH : H np = none := c06.none nnb hnp
  have B7 := B6.new hnp (.lst [])
  have c07 := c06.new hnp (.lst [])
  have hw7 := same_new hnp (.lst []) _ _ hw6
  have hn7 : upd H6 np (.lst []) np = some (.lst []) := upd_same
  generalize upd H6 np (.lst []) = H7 at B7 c07 hw7 hn7 ⊢
  obtain ⟨x7, y7, z7, hb7, hx7⟩ := B7
  refine ⟨_, rfl, _, rfl, by omega, by omega, ?_⟩
  refine for_range (lo := 0) (n := ((n : Int)).toNat) (fun i σ' H' => H' = upd H7 np (.lst ((nks st r4.toNat r5 se i).map V.str)) ∧ ∃ vk vs : Option V, σ' = [some (.ref b), some (.int n), some (.str letters), some (.ref wp), vk, some (.str (SX.S st)), some (.int r4), some (.int r5), some (.int se), some (.ref np), vs, none, none]) ⟨?_, _, _, rfl⟩ (fun i σ' H' hi ⟨e1, vk, vs, e2⟩ => ?_) (fun σ' H' ⟨e1, vk, vs, e2⟩ => ?_)
  · funext a
    by_cases h : a = np
    · rw [h, upd_same, hn7]; rfl
    · rw [upd_ne h]
  · subst e1 e2
    have hl0 : 0 ≤ (r5 + se * (0 + (i : Int))) % 26 := Int.emod_nonneg _ (by decide)
    have hl1 : (r5 + se * (0 + (i : Int))) % 26 < 26 := Int.emod_lt_of_pos _ (by decide)
    refine ⟨_, rfl, _, rfl, _, rfl, _, rfl, _, _, rfl, rfl, ?_, _, _, rfl, rfl, _, _, rfl, rfl, (by show (0 : Int) < _; decide), _, _, _, rfl, rfl, (by decide), letter hl0 hl1, ?_⟩
    · left
      rcases hok with e | e | e | e <;> (rw [e]; decide)
    refine ⟨_, rfl, .inl ⟨rfl, _, SqL.of upd_same⟩, _, rfl, _, rfl, _, rfl, _, rfl, (by rw [SX.S_len]; exact Nat.le_trans hstl (by decide)), _, rfl, _, _, rfl, rfl, ?_, _, rfl, _, rfl, _, rfl, _, rfl, (by rw [SX.S_len]; exact Nat.le_trans hstl (by decide)), _, _, rfl, rfl, ?_, np, _, _, rfl, rfl, upd_same, ?_, ?_⟩
    · rw [SX.slice_to r40, SX.S_len]
      have z : (st.take r4.toNat).length ≤ 5 := Nat.le_trans (by rw [List.length_take]; omega) hstl
      exact Nat.le_trans (Nat.add_le_add z (Nat.le_refl 1)) (by decide)
    · rw [SX.slice_to r40, SX.slice_from r40]
      have z : (st.take r4.toNat).length ≤ 5 := Nat.le_trans (by rw [List.length_take]; omega) hstl
      have y : (st.drop r4.toNat).length ≤ 5 := Nat.le_trans (by rw [List.length_drop]; omega) hstl
      have e : SX.S (st.take r4.toNat) ++ ({ cps := #[97 + ((r5 + se * (0 + (i : Int))) % 26).toNat] } : Str) = SX.S (st.take r4.toNat ++ [97 + ((r5 + se * (0 + (i : Int))) % 26).toNat]) := SX.S_cat _ [97 + ((r5 + se * (0 + (i : Int))) % 26).toNat]
      rw [e, SX.S_len, SX.S_len, List.length_append]
      exact Nat.le_trans (Nat.add_le_add (Nat.add_le_add z (Nat.le_refl 1)) y) (by decide)
    · rw [List.length_map, nks_len]
      exact Nat.lt_of_lt_of_le (show i < 100 by omega) (by decide)
    · refine ⟨?_, _, _, rfl⟩
      rw [upd_upd, nks_succ, SX.slice_to r40, SX.slice_from r40]
      have e : SX.S (st.take r4.toNat) ++ ({ cps := #[97 + ((r5 + se * (0 + (i : Int))) % 26).toNat] } : Str) ++ SX.S (st.drop r4.toNat) = SX.S (nk st r4.toNat r5 se i) := by
        have e1 : SX.S (st.take r4.toNat) ++ ({ cps := #[97 + ((r5 + se * (0 + (i : Int))) % 26).toNat] } : Str) = SX.S (st.take r4.toNat ++ [97 + ((r5 + se * (0 + (i : Int))) % 26).toNat]) := SX.S_cat _ [97 + ((r5 + se * (0 + (i : Int))) % 26).toNat]
        rw [e1, SX.S_cat]
        unfold nk
        rw [Int.zero_add, List.append_assoc]
      rw [e, List.map_append]
      rfl
  · subst e1 e2
    have hs : (nks st r4.toNat r5 se (n : Int).toNat).length = n := by rw [nks_len]; omega
    have hnd : (nks st r4.toNat r5 se (n : Int).toNat).Nodup := nks_nd hok (by omega)
    have hnm : ∀ x ∈ nks st r4.toNat r5 se (n : Int).toNat, Nm x := nks_nm hstlow hstl
    generalize nks st r4.toNat r5 se (n : Int).toNat = ss at hs hnd hnm
    have B8 : Box (upd H7 np (.lst (ss.map V.str))) b := ⟨x7, y7, z7, by rw [upd_ne nnb.symm]; exact hb7, hx7⟩
    have c08 : ∀ a o, a ≠ b → H a = some o → (upd H7 np (.lst (ss.map V.str))) a = some o := fun a o na ha => by
      rw [upd_ne (ne_of_none ha hnpH)]
      exact c07 a o na ha
    have hw8 := hw7
    rw [← upd_ne (H := H7) (o := .lst (ss.map V.str)) nwn] at hw8
    have hn8 : upd H7 np (.lst (ss.map V.str)) np = some (.lst (ss.map V.str)) := upd_same
    generalize upd H7 np (.lst (ss.map V.str)) = H8 at B8 c08 hw8 hn8 ⊢
    -- spot, word
    refine ⟨_, rfl, _, rfl, b, _, rfl, B8, (by omega), (by omega), fun r7 H9 r70 r71 B9 c9 => ?_⟩
    refine ⟨_, rfl, _, rfl, b, 8, rfl, B9, (by decide), (by decide), fun r8 Ha r80 r81 Ba ca => ?_⟩
    obtain ⟨wd, hwd, hwn⟩ : ∃ wd : Str, atI ([.str "rooms", .str "door", .str "faces", .str "walker", .str "pass", .str "hall", .str "back", .str "none"] : List V) r8 = some (.str wd) ∧ Nm wd := by
      have z : r8 = 0 ∨ r8 = 1 ∨ r8 = 2 ∨ r8 = 3 ∨ r8 = 4 ∨ r8 = 5 ∨ r8 = 6 ∨ r8 = 7 := by omega
      have ok : ∀ x : Str, (decide (1 ≤ x.length) && (decide (x.length ≤ 6) && x.cps.toList.all fun c => decide (97 ≤ c) && decide (c ≤ 122))) = true → Nm x := fun x h => by
        simp only [Bool.and_eq_true, decide_eq_true_eq, List.all_eq_true] at h
        exact ⟨h.1, h.2.1, h.2.2⟩
      rcases z with rfl | rfl | rfl | rfl | rfl | rfl | rfl | rfl
      · exact ⟨_, atI_nat (j := 0) rfl, ok _ (by decide +kernel)⟩
      · exact ⟨_, atI_nat (j := 1) rfl, ok _ (by decide +kernel)⟩
      · exact ⟨_, atI_nat (j := 2) rfl, ok _ (by decide +kernel)⟩
      · exact ⟨_, atI_nat (j := 3) rfl, ok _ (by decide +kernel)⟩
      · exact ⟨_, atI_nat (j := 4) rfl, ok _ (by decide +kernel)⟩
      · exact ⟨_, atI_nat (j := 5) rfl, ok _ (by decide +kernel)⟩
      · exact ⟨_, atI_nat (j := 6) rfl, ok _ (by decide +kernel)⟩
      · exact ⟨_, atI_nat (j := 7) rfl, ok _ (by decide +kernel)⟩
    refine ⟨wp, _, _, _, rfl, rfl, SqL.of (ca _ _ nwb (c9 _ _ nwb hw8)), hwd, _, _, rfl, ?_⟩
    -- if .. and word not in names
    refine ⟨_, rfl, b, 4, rfl, Ba, (by decide), (by decide), fun r9 Hb r90 r91 Bb cb => ?_⟩
    have hnb := cb _ _ nnb (ca _ _ nnb (c9 _ _ nnb hn8))
    have cend : Ch b H Hb := fun a o na ha => cb _ _ na (ca _ _ na (c9 _ _ na (c08 a o na ha)))
    have fin : ∀ (ts : List Str) (H' : Hp), H' np = some (.lst (ts.map V.str)) → ts.length = n → ts.Nodup → (∀ x ∈ ts, Nm x) → Box H' b → Ch b H H' → Q (.ref np) H' := fun ts H' h1 h2 h3 h4 h5 h6 => q np ts H' hnpH h1 (by rw [h2]; omega) h3 h4 h5 h6
    refine ⟨rfl, _, rfl, ?_⟩
    refine ite2 (fun g => ?_) (fun g => ?_)
    · refine ⟨_, rfl, _, rfl, np, _, rfl, .inl (SqL.of hnb), rfl, flat_strs _, _, rfl, ?_⟩
      rw [inV_str]
      by_cases hin : wd ∈ ss
      · rw [decide_eq_true hin]
        refine iteF ?_
        exact ⟨_, rfl, fin ss Hb hnb hs hnd hnm Bb cend⟩
      · rw [decide_eq_false hin]
        refine iteT ?_
        have hr7 : r7.toNat < ss.length := by omega
        refine ⟨_, rfl, _, rfl, _, rfl, np, _, r7, r7.toNat, rfl, rfl, hnb, ?_, ?_⟩
        · unfold ixN
          rw [List.length_map, if_pos r70, if_pos (by omega)]
        · refine ⟨_, rfl, fin (ss.set r7.toNat wd) _ (by rw [upd_same, List.map_set]) (by rw [List.length_set]; exact hs) (set_nd hnd hin) (fun x hx => ?_) ?_ ?_⟩
          · rcases List.mem_or_eq_of_mem_set hx with z | z
            · exact hnm x z
            · rw [z]; exact hwn
          · obtain ⟨x, y, z, e, e2⟩ := Bb
            exact ⟨x, y, z, by rw [upd_ne nnb.symm]; exact e, e2⟩
          · intro a o na ha
            rw [upd_ne (ne_of_none ha hnpH)]
            exact cend a o na ha
    · exact ⟨_, rfl, fin ss Hb hnb hs hnd hnm Bb cend⟩
end
end Td
set_option maxHeartbeats 4000000
namespace Td
open PySem PySem.Spec PyProof.Rows L2
section
variable {P : Program} {w : World} {K : PySem.W.Frag} {mg : Str → Option Value} {base : Heap} {f : Addr} {fd : FuncData}
abbrev s_law_hall : Stmt := top 18
abbrev n_law_hall : List Str := ["box", "wide", "many", "names", "known", "size", "titles", "last", "k", "one", "at", "other", "title"]
theorem sc_law_hall : FnScope n_law_hall ["box", "wide", "many"] (defScope s_law_hall) := ⟨rfl, rfl, rfl, by decide +kernel, rfl, by decide +kernel, by decide +kernel⟩
theorem ok_law_hall (F : FnP K "_law_hall" s_law_hall f fd) (hm : mg "_law_hall" = some (.ref f)) (c_law_names : Cal P w K mg base 2 "_law_names" spNames) (c_law_take : Cal P w K mg base 1 "_law_take" spTake) (m_int : mg "int" = none) (m_len : mg "len" = none) (m_max : mg "max" = none) (m_range : mg "range" = none) (m_tuple : mg "tuple" = none) :
    Cal P w K mg base 3 "_law_hall" spHall := by
  refine cal_of (F.ok sc_law_hall (fun vs H Q E h => ?_) (fun cdv A outer s H vs Q E hr h => ?_)) hm F.kp (F.bindsN (ps := ["box", "wide", "many"]) fun _ _ _ _ _ _ us hl => match us, hl with | [_, _, _], _ => rfl)
  · obtain ⟨b, m1, m2, rfl, hB, h11, h12, h21, h22, q⟩ := h
    rfl
  obtain ⟨b, m1, m2, rfl, hB, h11, h12, h21, h22, q⟩ := h
  have nd := sc_law_hall.nd
  refine ⟨_, PSs.nox (pss_cons (ps_asg (pe_tup (pa_cons (C8.pe_c c_law_names hr (by omega) (by rfl) (pa_cons (pv 0) (pa_cons (pe_op op_add pe_int (C8.pe_c c_law_take hr (by omega) (by rfl) (pa_cons (pv 0) (pa_cons (pv 1) pa_nil)))) pa_nil))) (pa_cons (pe_lst pa_nil) pa_nil))) (pg_tup (by rfl) (pgs_cons (pg_name (i := 3) nd rfl (Or.inr rfl)) (pgs_cons (pg_name (i := 4) nd rfl (Or.inl rfl)) pgs_nil))))
    (pss_cons (ps_set (i := 5) nd rfl (Or.inl rfl) (pe_op op_mul (C8.pe_c c_law_take hr (by omega) (by rfl) (pa_cons (pv 0) (pa_cons (pe_op op_add (pv 2) pe_int) pa_nil))) (pe_callTy call_int1 (by rfl) m_int (by decide +kernel) (pa_cons (pe_cmpR op_gt (pe_callB (r := rLn K) call_len_seq (by rfl) m_len PySem.boot_len (pa_cons (pv 3) pa_nil)) pe_int (nomark _)) pa_nil))))
    (pss_cons (ps_par (i := 6) (j := 7) (by rfl) nd rfl rfl (by decide) rfl rfl (pa_cons (C8.pe_c c_law_names hr (by omega) (by rfl) (pa_cons (pv 0) (pa_cons (pe_callB (call_max2 rfl) (by rfl) m_max (by decide +kernel) (pa_cons pe_int (pa_cons (pv 5) pa_nil))) pa_nil))) (pa_cons (pe_ix (r := rIxL K) ix_list (pv 3) pe_int (fun _ _ => rfl)) pa_nil)) (by rfl))
    (C8.pss_cut (ps_if (pt_cmpR op_eq (C8.pe_c c_law_take hr (by omega) (by rfl) (pa_cons (pv 0) (pa_cons pe_int pa_nil))) pe_int (nomark _)) (pss_one (ps_set (i := 6) nd rfl (Or.inl rfl) (pe_op op_cat (pv 3) (pe_lc (own := [("title", 12)]) (g := (gName 12)) (by rfl) nd (pi_list (pv 6)) (blkOk_by (own := [("title", 12)]) (N := n_law_hall) (sc := defScope s_law_hall) (by decide +kernel)) (fun _ _ _ _ _ => (pg_name (i := 12) nd rfl (Or.inl rfl))) (fun _ _ _ _ _ => (pts_one (pt_cmpR (r := rIn K true) op_notIn_seq (pv 12) (pv 3) (by rfl)))) (fun _ _ _ _ _ => (pv 12)))))) pss_nil)
    (pss_cons (ps_for PassesOwn.never rfl (pi_range1 (by rfl) m_range (pa_cons (pv 5) pa_nil)) (pg_name (i := 8) nd rfl (Or.inl rfl)) (pss_cons (ps_set (i := 9) nd rfl (Or.inl rfl) (pe_ix (r := rIxL K) ix_list (pe_lst (pa_cons (pv 7) (pa_cons (pe_ix (r := rIxL K) ix_list (pv 3) (C8.pe_c c_law_take hr (by omega) (by rfl) (pa_cons (pv 0) (pa_cons (pe_callB (r := rLn K) call_len_seq (by rfl) m_len PySem.boot_len (pa_cons (pv 3) pa_nil)) pa_nil))) (fun _ _ => rfl)) pa_nil))) (C8.pe_c c_law_take hr (by omega) (by rfl) (pa_cons (pv 0) (pa_cons pe_int pa_nil))) (fun _ _ => rfl)))
    (pss_cons (ps_set (i := 10) nd rfl (Or.inl rfl) (show PE _ _ (tBM K _ _ _ _) from pe_bm PySem.F.plainAttrs_list PySem.F.slot_list_index PySem.F.type_list_index (r := rIndex K) mt_index (pv 3) (pa_cons (pv 9) pa_nil)))
    (pss_cons (ps_set (i := 11) nd rfl (Or.inl rfl) (pe_ix (r := rIxL K) ix_list (pv 3) (pe_op op_mod (pe_op op_add (pe_op op_add (pv 10) pe_int) (C8.pe_c c_law_take hr (by omega) (by rfl) (pa_cons (pv 0) (pa_cons (pe_op op_sub (pe_callB (r := rLn K) call_len_seq (by rfl) m_len PySem.boot_len (pa_cons (pv 3) pa_nil)) pe_int) pa_nil)))) (pe_callB (r := rLn K) call_len_seq (by rfl) m_len PySem.boot_len (pa_cons (pv 3) pa_nil))) (fun _ _ => rfl)))
    (pss_cons (ps_expr (show PE _ _ (tBM K _ _ _ _) from pe_bm PySem.F.plainAttrs_list PySem.F.slot_list_append PySem.F.type_list_append mt_append (pv 4) (pa_cons (pe_tup (pa_cons (pe_ix (r := rIxL K) ix_list (pv 6) (pv 8) (fun _ _ => rfl)) (pa_cons (pv 9) (pa_cons (pv 11) pa_nil)))) pa_nil)))
    (pss_one (ps_set (i := 7) nd rfl (Or.inl rfl) (pv 11))))))))
    (pss_one (ps_ret (pe_tup (pa_cons (pe_callTy (r := rTpOf K) call_tuple_of (by rfl) m_tuple (by decide +kernel) (pa_cons (pv 3) pa_nil)) (pa_cons (pe_callTy (r := rTpOf K) call_tuple_of (by rfl) m_tuple (by decide +kernel) (pa_cons (pv 4) pa_nil)) pa_nil)))))))))), ?_⟩
  have nofree : ∀ {p : Addr} {H1 : Hp}, Ch b H H1 → Box H1 b → H1 p = none → H p = none := fun c B h => c.none (B.ne h) h
  -- names, known
  refine ⟨_, rfl, _, rfl, _, rfl, b, m1, rfl, hB, by omega, by omega, fun r0 H0 r00 r01 B0 c0 => ⟨_, _, rfl, rfl, b, _, rfl, B0, by omega, by omega, fun np ns H1 hnn hnp hnl hnd hnm B1 c1 => ⟨(by show 0 ≤ sizeLine; decide), fun kp hkp => ⟨(by show 2 ≤ sizeLine; decide), fun tp htp => ⟨tp, _, rfl, SqT.of upd_same, rfl, _, _, rfl, _, _, rfl, rfl, ?_⟩⟩⟩⟩⟩
  have nnb : np ≠ b := B0.ne hnn
  have nkb : kp ≠ b := B1.ne hkp
  have nnk : np ≠ kp := ne_of_none hnp hkp
  have c01 : Ch b H H1 := c0.trans c1
  have kfree : H kp = none := nofree c01 B1 hkp
  have c02 : Ch b H (upd (upd H1 kp (.lst [])) tp (.tup [.ref np, .ref kp])) := (c01.new hkp _).new htp _
  have B2 : Box (upd (upd H1 kp (.lst [])) tp (.tup [.ref np, .ref kp])) b := (B1.new hkp _).new htp _
  have hn2 : (upd (upd H1 kp (.lst [])) tp (.tup [.ref np, .ref kp])) np = some (.lst (ns.map V.str)) := same_new htp _ _ _ (same_new hkp _ _ _ hnp)
  have hk2 : (upd (upd H1 kp (.lst [])) tp (.tup [.ref np, .ref kp])) kp = some (.lst []) := same_new htp _ _ _ upd_same
  generalize (upd (upd H1 kp (.lst [])) tp (.tup [.ref np, .ref kp])) = H2 at c02 B2 hn2 hk2 ⊢
  have hnl8 : (ns.length : Int) = 1 + r0 := by omega
  have hml : (ns.map V.str).length = ns.length := List.length_map _
  -- size
  refine ⟨_, rfl, _, rfl, _, _, rfl, rfl, b, _, rfl, B2, by omega, by omega, fun r1 H3 r10 r11 B3 c3 => ⟨_, rfl, np, _, rfl, .inl (SqL.of (c3 _ _ nnb hn2)), _, _, rfl, rfl, .inr ⟨_, rfl, _, _, rfl, rfl, .inl ⟨by omega, by omega⟩, ?_⟩⟩⟩
  rw [hml]
  obtain ⟨n, en, hn1, hn2'⟩ : ∃ n : Nat, r1 * (if decide (1 < ((ns.length : Nat) : Int)) = true then 1 else 0) = (n : Int) ∧ (n : Int) ≤ m2 ∧ (0 < n → 2 ≤ ns.length) := by
    by_cases g : 1 < ((ns.length : Nat) : Int)
    · refine ⟨r1.toNat, ?_, by omega, fun _ => by omega⟩
      rw [decide_eq_true g, if_pos rfl]
      omega
    · refine ⟨0, ?_, by omega, fun z => by omega⟩
      rw [decide_eq_false g, if_neg (by decide)]
      omega
  have en' : V.int (r1 * (if decide (1 < ((ns.length : Nat) : Int)) = true then 1 else 0)) = V.int (n : Int) := congrArg V.int en
  show gName 5 (V.int (r1 * (if decide (1 < ((ns.length : Nat) : Int)) = true then 1 else 0))) _ _ _
  rw [en']
  clear en' en
  have hn3 := c3 _ _ nnb hn2
  have hk3 := c3 _ _ nkb hk2
  have c03 := c02.trans c3
  -- titles, last
  obtain ⟨l0, hl0, al0⟩ := atS (ss := ns) (j := 0) (by omega) (by omega)
  refine ⟨_, rfl, _, rfl, _, _, rfl, b, _, rfl, B3, ?_, ?_, fun tq ts H4 htn htq htl htnd htnm B4 c4 => ⟨_, rfl, np, _, _, _, rfl, rfl, SqL.of (c4 _ _ nnb hn3), al0, _, _, rfl, ?_⟩⟩
  · split <;> omega
  · split <;> omega
  have htl2 : n ≤ ts.length := by
    rw [htl]
    split <;> omega
  have ntb : tq ≠ b := B3.ne htn
  have hn4 := c4 _ _ nnb hn3
  have hk4 := c4 _ _ nkb hk3
  have c04 := c03.trans c4
  have ml0 : l0 ∈ ns := List.mem_of_getElem? hl0
  -- if ..: titles = ..
  refine ⟨fun σ' H' => ∃ (tq : Addr) (ts : List Str), σ' = [some (.ref b), some (.int m1), some (.int m2), some (.ref np), some (.ref kp), some (.int n), some (.ref tq), some (.str l0), none, none, none, none, none] ∧ H' tq = some (.lst (ts.map V.str)) ∧ tq ≠ kp ∧ tq ≠ b ∧ ts.Nodup ∧ (∀ x ∈ ts, Nm x) ∧ n ≤ ts.length ∧ H' np = some (.lst (ns.map V.str)) ∧ H' kp = some (.lst []) ∧ Box H' b ∧ Ch b H H', ?_, ?_⟩
  · refine ⟨_, rfl, b, 6, rfl, B4, by decide, by decide, fun r2 H5 r20 r21 B5 c5 => ⟨rfl, _, rfl, ?_⟩⟩
    have hn5 := c5 _ _ nnb hn4
    have hk5 := c5 _ _ nkb hk4
    have ht5 := c5 _ _ ntb htq
    have ntk : tq ≠ kp := (ne_of_none hk3 htn).symm
    refine ite2 (fun g => ?_) (fun g => ?_)
    · refine ⟨_, rfl, _, rfl, tq, rfl, ⟨_, SqL.of ht5⟩, fun D hD => ?_⟩
      have nDn : np ≠ D := ne_of_none hn5 hD
      have nDt : tq ≠ D := ne_of_none ht5 hD
      refine lc_list (K := K) (a := tq) (xs := ts.map V.str) (fun i Hx => Hx = upd H5 D (.lst (((ts.take i).filter fun t => !decide (t ∈ ns)).map V.str))) rfl (fun i Hx _ e => by subst e; exact SqL.of (by rw [upd_ne nDt]; exact ht5)) (fun i x Hx hx e => ?_) (fun Hx e => ?_)
      · subst e
        rw [List.getElem?_map] at hx
        obtain ⟨t, ht, rfl⟩ : ∃ t, ts[i]? = some t ∧ V.str t = x := by
          cases z : ts[i]? with
          | none => rw [z] at hx; cases hx
          | some t => rw [z] at hx; exact ⟨t, rfl, Option.some.inj hx⟩
        have et : ts.take (i + 1) = ts.take i ++ [t] := by rw [List.take_succ, ht]; rfl
        refine ⟨rfl, _, rfl, _, rfl, np, _, rfl, .inl (SqL.of (by rw [upd_ne nDn]; exact hn5)), rfl, flat_strs _, _, rfl, ?_⟩
        rw [inV_str, et, List.filter_append, List.map_append]
        by_cases hin : t ∈ ns
        · have ef : ([t].filter fun t => !decide (t ∈ ns)) = [] := by simp [hin]
          rw [decide_eq_true hin, ef]
          refine iteF ?_
          rw [List.map_nil, List.append_nil]
        · have ef : ([t].filter fun t => !decide (t ∈ ns)) = [t] := by simp [hin]
          rw [decide_eq_false hin, ef]
          refine iteT ⟨_, rfl, _, upd_same, ?_, ?_⟩
          · rw [List.length_map]
            refine Nat.lt_of_le_of_lt (List.length_filter_le _ _) (Nat.lt_of_le_of_lt (by rw [List.length_take]; exact Nat.min_le_right _ _) ?_)
            refine Nat.lt_of_lt_of_le (show ts.length < 100 from ?_) (by decide)
            rw [htl]
            split <;> omega
          · rw [upd_upd]
            rfl
      · subst e
        rw [List.length_map, List.take_length]
        refine ⟨np, D, _, _, rfl, rfl, (by rw [upd_ne nDn]; exact hn5), upd_same, ?_, fun p hp => ?_⟩
        · rw [List.length_map, List.length_map]
          have z := List.length_filter_le (fun t => !decide (t ∈ ns)) ts
          have y : ts.length ≤ 100 := by
            rw [htl]
            split <;> omega
          exact Nat.le_trans (show _ ≤ 200 by omega) (by decide)
        · have hnf : ∀ {a o}, H5 a = some o → (upd (upd H5 D (.lst ((ts.filter fun t => !decide (t ∈ ns)).map V.str))) p (.lst (ns.map V.str ++ (ts.filter fun t => !decide (t ∈ ns)).map V.str))) a = some o := fun h => same_new hp _ _ _ (same_new hD _ _ _ h)
          refine ⟨p, ns ++ ts.filter fun t => !decide (t ∈ ns), rfl, by rw [upd_same, List.map_append], fun z => ?_, fun z => ?_, titles_nd hnd htnd, titles_nm hnm htnm, Nat.le_trans htl2 (titles_len htnd), hnf hn5, hnf hk5, (B5.new hD _).new hp _, ((c04.trans c5).new hD _).new hp _⟩
          · have y := same_new hD (.lst ((ts.filter fun t => !decide (t ∈ ns)).map V.str)) _ _ hk5
            rw [z, y] at hp
            cases hp
          · exact (B5.new hD _).ne hp z
    · exact ⟨tq, ts, rfl, ht5, ntk, ntb, htnd, htnm, htl2, hn5, hk5, B5, c04.trans c5⟩
  rintro σ' H' ⟨tq, ts, rfl, ht6, ntk, ntb, htnd, htnm, htl2, hn6, hk6, B6, c06⟩
  refine ⟨_, rfl, _, rfl, by omega, by omega, ?_⟩
  refine for_range (lo := 0) (n := ((n : Int)).toNat) (fun i σ' H' => ∃ (as : List Addr) (rows : List (List Str)) (lv : Str) (vk v9 v10 v11 : Option V), σ' = [some (.ref b), some (.int m1), some (.int m2), some (.ref np), some (.ref kp), some (.int n), some (.ref tq), some (.str lv), vk, v9, v10, v11, none] ∧
    H' kp = some (.lst (as.map V.ref)) ∧ RowsAt H' as rows ∧ rows.length = i ∧ (rows.map fun r => r.headD "") = ts.take i ∧ (∀ r ∈ rows, ∃ n a b : Str, r = [n, a, b] ∧ n ∈ ts ∧ a ∈ ns ∧ b ∈ ns ∧ a ≠ b) ∧ lv ∈ ns ∧ H' np = some (.lst (ns.map V.str)) ∧ H' tq = some (.lst (ts.map V.str)) ∧ Box H' b ∧ Ch b H H')
    ⟨[], [], l0, none, none, none, none, rfl, hk6, RowsAt.nil, rfl, rfl, (fun r hr => by cases hr), ml0, hn6, ht6, B6, c06⟩ (fun i σ' H' hi hP => ?_) (fun σ' H' hP => ?_)
  · obtain ⟨as, rows, lv, vk, v9, v10, v11, rfl, hk7, hR7, hl7, hh7, hv7, mlv, hn7, ht7, B7, c07⟩ := hP
    have h2n : 2 ≤ ns.length := hn2' (by omega)
    -- one
    refine ⟨_, rfl, _, rfl, _, rfl, _, rfl, np, _, rfl, .inl (SqL.of hn7), b, _, rfl, B7, by omega, by omega, fun r2 Ha r20 r21 Ba ca => ?_⟩
    rw [hml] at r21
    obtain ⟨o1, ho1, ao1⟩ := atS (ss := ns) (j := r2) r20 r21
    refine ⟨np, _, _, _, rfl, rfl, SqL.of (ca _ _ nnb hn7), ao1, (by show 2 ≤ sizeLine; decide), fun lp hlp => ?_⟩
    have nlb : lp ≠ b := Ba.ne hlp
    refine ⟨_, rfl, b, 2, rfl, Ba.new hlp _, by decide, by decide, fun r3 Hb r30 r31 Bb cb => ?_⟩
    obtain ⟨ov, aov, mov⟩ : ∃ ov : Str, atI ([.str lv, .str o1] : List V) r3 = some (.str ov) ∧ ov ∈ ns := by
      have z : r3 = 0 ∨ r3 = 1 := by omega
      rcases z with rfl | rfl
      · exact ⟨lv, atI_nat (j := 0) rfl, mlv⟩
      · exact ⟨o1, atI_nat (j := 1) rfl, List.mem_of_getElem? ho1⟩
    refine ⟨lp, _, _, _, rfl, rfl, SqL.of (cb _ _ nlb upd_same), aov, ?_⟩
    have step : ∀ {a o}, a ≠ b → H' a = some o → Hb a = some o := fun na h => cb _ _ na (same_new hlp _ _ _ (ca _ _ na h))
    have hnb := step nnb hn7
    have htb := step ntb ht7
    have hkb := step nkb hk7
    have cHb : Ch b H Hb := ((c07.trans ca).new hlp _).trans cb
    have tub : Tu H' Hb := ((Tu.of ca B7).trans (Tu.new hlp _)).trans (Tu.of cb (Ba.new hlp _))
    -- at
    obtain ⟨j, hj⟩ := List.getElem?_of_mem mov
    have hjl : j < ns.length := (List.getElem?_eq_some_iff.mp hj).1
    refine ⟨_, rfl, .inl ⟨rfl, _, SqL.of hnb⟩, _, rfl, np, ns.map V.str, .str ov, j, .str ov, rfl, rfl, SqL.of hnb, rfl, flat_strs _, by rw [List.getElem?_map, hj]; rfl, by show (ov == ov) = true; exact beq_self_eq_true _, fun m z' hm hz => ?_, ?_⟩
    · rw [List.getElem?_map] at hz
      cases y : ns[m]? with
      | none => rw [y] at hz; cases hz
      | some x =>
        rw [y] at hz
        cases hz
        show (x == ov) = false
        refine beq_eq_false_iff_ne.mpr fun e => ?_
        subst e
        have := nd_ix hnd y hj
        omega
    -- other
    refine ⟨_, rfl, _, rfl, _, _, rfl, rfl, _, rfl, _, rfl, np, _, rfl, .inl (SqL.of hnb), _, _, rfl, rfl, b, _, rfl, Bb, (by rw [hml]; omega), (by rw [hml]; omega), fun r4 Hc r40 r41 Bc cc => ?_⟩
    rw [hml] at r41
    have hpos : (0 : Int) < (ns.length : Int) := by omega
    obtain ⟨ot, hot, aot⟩ := atS (ss := ns) (j := ((j : Int) + 1 + r4) % (ns.length : Int)) (Int.emod_nonneg _ (by omega)) (Int.emod_lt_of_pos _ hpos)
    refine ⟨_, _, rfl, rfl, _, rfl, np, _, rfl, .inl (SqL.of (cc _ _ nnb hnb)), _, _, rfl, rfl, (by rw [hml]; exact hpos), np, _, _, _, rfl, rfl, SqL.of (cc _ _ nnb hnb), (by rw [hml]; exact aot), ?_⟩
    have nother : ov ≠ ot := fun e => by
      subst e
      have z := nd_ix hnd hj hot
      have lt : (j : Int) < (ns.length : Int) := by omega
      by_cases g : (j : Int) + 1 + r4 < (ns.length : Int)
      · rw [Int.emod_eq_of_lt (by omega) g] at z
        omega
      · have y : ((j : Int) + 1 + r4) % (ns.length : Int) = (j : Int) + 1 + r4 - (ns.length : Int) := by
          rw [← Int.sub_emod_right]
          exact Int.emod_eq_of_lt (by omega) (by omega)
        rw [y] at z
        omega
    have htc := cc _ _ ntb htb
    have hkc := cc _ _ nkb hkb
    -- known.append(..)
    have hik : i < ts.length := by omega
    have ait : atI (ts.map V.str) (0 + (i : Int)) = some (.str ts[i]) := by
      rw [Int.zero_add]
      exact atI_nat (by rw [List.getElem?_map, List.getElem?_eq_getElem hik]; rfl)
    refine ⟨_, rfl, .inl ⟨rfl, _, SqL.of hkc⟩, _, rfl, _, rfl, tq, _, _, _, rfl, rfl, SqL.of htc, ait, _, rfl, _, rfl, (by show 3 ≤ sizeLine; decide), fun p hp => ?_⟩
    have npk : kp ≠ p := ne_of_none hkc hp
    have npb : p ≠ b := Bc.ne hp
    refine ⟨kp, _, _, rfl, rfl, same_new hp _ _ _ hkc, ?_, ?_⟩
    · rw [List.length_map, hR7.1, hl7]
      exact Nat.lt_of_lt_of_le (show i < 100 by omega) (by decide)
    have ntk' : ∀ {a xs}, (upd Hc p (.tup [.str ts[i], .str ov, .str ot])) a = some (.tup xs) → a ≠ kp := fun h z => by
      rw [z, same_new hp _ _ _ hkc] at h
      cases h
    have tuc : Tu H' (upd (upd Hc p (.tup [.str ts[i], .str ov, .str ot])) kp (.lst (as.map V.ref ++ [.ref p]))) := fun a xs h => by
      have z := same_new hp (.tup [.str ts[i], .str ov, .str ot]) _ _ ((tub.trans (Tu.of cc Bb)) a xs h)
      rw [upd_ne (ntk' z)]
      exact z
    refine ⟨_, rfl, as ++ [p], rows ++ [[ts[i], ov, ot]], ot, _, _, _, _, rfl, ?_, (hR7.tu tuc).snoc ?_, by rw [List.length_append, hl7]; rfl, ?_, ?_, List.mem_of_getElem? hot, ?_, ?_, ?_, ?_⟩
    · rw [upd_same, List.map_append]
      rfl
    · rw [upd_ne npk.symm]
      exact upd_same
    · rw [List.map_append, hh7, List.take_succ, List.getElem?_eq_getElem hik]
      rfl
    · intro r hr
      rcases List.mem_append.mp hr with hr | hr
      · exact hv7 r hr
      · have e := List.mem_singleton.mp hr
        exact ⟨_, _, _, e, List.getElem_mem hik, mov, List.mem_of_getElem? hot, nother⟩
    · rw [upd_ne nnk]
      exact same_new hp _ _ _ (cc _ _ nnb hnb)
    · rw [upd_ne ntk]
      exact same_new hp _ _ _ htc
    · exact (Bc.new hp _).upd nkb _
    · exact ((cHb.trans cc).new hp _).mut kfree _
  · obtain ⟨as, rows, lv, vk, v9, v10, v11, rfl, hk7, hR7, hl7, hh7, hv7, mlv, hn7, ht7, B7, c07⟩ := hP
    refine ⟨_, rfl, np, _, rfl, .inl ⟨SqL.of hn7, fun t1 h1 => ⟨_, rfl, kp, _, rfl, .inl ⟨SqL.of (same_new h1 _ _ _ hk7), fun t2 h2 => ⟨(by show 2 ≤ sizeLine; decide), fun t3 h3 => ?_⟩⟩⟩⟩⟩
    have tu : Tu H' (upd (upd (upd H' t1 (.tup (ns.map V.str))) t2 (.tup (as.map V.ref))) t3 (.tup [.ref t1, .ref t2])) := ((Tu.new h1 _).trans (Tu.new h2 _)).trans (Tu.new h3 _)
    refine q t3 ns rows _ ⟨t1, t2, upd_same, (Tu.new h3 _) _ _ ((Tu.new h2 _) _ _ upd_same), as, (Tu.new h3 _) _ _ upd_same, hR7.tu tu⟩ ⟨by omega, by omega, hnd, hnm, by omega, fun r hr => ?_, ?_⟩ (by omega) (by omega) (((B7.new h1 _).new h2 _).new h3 _) (((c07.new h1 _).new h2 _).new h3 _)
    · obtain ⟨x, y, z, e, e1, e2, e3, e4⟩ := hv7 r hr
      exact ⟨x, y, z, e, htnm x e1, e2, e3, e4⟩
    · rw [hh7]
      exact htnd.sublist (List.take_sublist _ _)
end
end Td
set_option maxHeartbeats 4000000
namespace Td
open PySem PySem.Spec PyProof.Rows L2
section
variable {P : Program} {w : World} {K : PySem.W.Frag} {mg : Str → Option Value} {base : Heap} {f : Addr} {fd : FuncData}
abbrev s_law_state : Stmt := top 19
abbrev n_law_state : List Str := ["box", "hall", "walkers", "faces", "pools", "titles", "names", "known", "door", "name"]
theorem sc_law_state : FnScope n_law_state ["box", "hall", "walkers"] (defScope s_law_state) := ⟨rfl, rfl, rfl, by decide +kernel, rfl, by decide +kernel, by decide +kernel⟩
theorem ok_law_state (F : FnP K "_law_state" s_law_state f fd) (hm : mg "_law_state" = some (.ref f)) (c_law_names : Cal P w K mg base 2 "_law_names" spNames) (c_law_take : Cal P w K mg base 1 "_law_take" spTake) (m_len : mg "len" = none) (m_list : mg "list" = none) (m_max : mg "max" = none) (m_sorted : mg "sorted" = none) (m_tuple : mg "tuple" = none) :
    Cal P w K mg base 3 "_law_state" spState := by
  refine cal_of (F.ok sc_law_state (fun vs H Q E h => ?_) (fun cdv A outer s H vs Q E hr h => ?_)) hm F.kp (F.bindsN (ps := ["box", "hall", "walkers"]) fun _ _ _ _ _ _ us hl => match us, hl with | [_, _, _], _ => rfl)
  · obtain ⟨b, hl, m, rooms, rows, rfl, hB, hHS, hV, hm0, hm5, q⟩ := h
    rfl
  obtain ⟨b, hl, m, rooms, rows, rfl, hB, hHS, hV, hm0, hm5, q⟩ := h
  have nd := sc_law_state.nd
  refine ⟨_, PSs.nox (pss_cons (ps_asg (pv 1) (pg_tup (by rfl) (pgs_cons (pg_name (i := 6) nd rfl (Or.inr rfl)) (pgs_cons (pg_name (i := 7) nd rfl (Or.inl rfl)) pgs_nil))))
    (pss_cons (ps_set (i := 3) nd rfl (Or.inl rfl) (pe_callTy (r := rTpOf K) call_tuple_of (by rfl) m_tuple (by decide +kernel) (pa_cons (pe_lc (own := [("door", 8)]) (g := (gName 8)) (by rfl) nd (pi_tup (pv 7)) (blkOk_by (own := [("door", 8)]) (N := n_law_state) (sc := defScope s_law_state) (by decide +kernel)) (fun _ _ _ _ _ => (pg_name (i := 8) nd rfl (Or.inl rfl))) (fun _ _ _ _ _ => pts_nil) (fun _ _ _ _ _ => (pe_ix (r := rIxT K) ix_tup (pv 8) (pe_op op_add pe_int (C8.pe_c c_law_take hr (by omega) (by rfl) (pa_cons (pv 0) (pa_cons pe_int pa_nil)))) (fun _ _ => rfl)))) pa_nil)))
    (pss_cons (ps_set (i := 4) nd rfl (Or.inl rfl) (pe_lst (pa_cons (C8.pe_c c_law_names hr (by omega) (by rfl) (pa_cons (pv 0) (pa_cons pe_int pa_nil))) (pa_cons (pe_callTy (r := rLsOf K) call_list_of (by rfl) m_list (by decide +kernel) (pa_cons (pv 6) pa_nil)) (pa_cons (pe_lc (own := [("door", 8)]) (g := (gName 8)) (by rfl) nd (pi_tup (pv 7)) (blkOk_by (own := [("door", 8)]) (N := n_law_state) (sc := defScope s_law_state) (by decide +kernel)) (fun _ _ _ _ _ => (pg_name (i := 8) nd rfl (Or.inl rfl))) (fun _ _ _ _ _ => pts_nil) (fun _ _ _ _ _ => (pe_ix (r := rIxT K) ix_tup (pv 8) pe_int (fun _ _ => rfl)))) pa_nil)))))
    (pss_cons (ps_set (i := 5) nd rfl (Or.inl rfl) (pe_callB (r := rSortedS K) cr_sortedS (by rfl) m_sorted (by decide +kernel) (pa_cons (pe_slice (r := rSlL K) sl_list (pe_ix (r := rIxL K) ix_list (pv 4) (pe_callB (call_max2 rfl) (by rfl) m_max (by decide +kernel) (pa_cons pe_int (pa_cons (pe_op op_sub (C8.pe_c c_law_take hr (by omega) (by rfl) (pa_cons (pv 0) (pa_cons pe_int pa_nil))) pe_int) pa_nil))) (fun _ _ => rfl)) po_none (po_some (C8.pe_c c_law_take hr (by omega) (by rfl) (pa_cons (pv 0) (pa_cons (pe_op op_add (pv 2) pe_int) pa_nil))))) pa_nil)))
    (pss_one (ps_ret (pe_tup (pa_cons (pv 3) (pa_cons (pe_callTy (r := rTpOf K) call_tuple_of (by rfl) m_tuple (by decide +kernel) (pa_cons (pe_lc (own := [("name", 9)]) (g := (gName 9)) (by rfl) nd (pi_list (pv 5)) (blkOk_by (own := [("name", 9)]) (N := n_law_state) (sc := defScope s_law_state) (by decide +kernel)) (fun _ _ _ _ _ => (pg_name (i := 9) nd rfl (Or.inl rfl))) (fun _ _ _ _ _ => pts_nil) (fun _ _ _ _ _ => (pe_tup (pa_cons (pv 9) (pa_cons (pe_ix (r := rIxT K) ix_tup (pv 6) (C8.pe_c c_law_take hr (by omega) (by rfl) (pa_cons (pv 0) (pa_cons (pe_callB (r := rLn K) call_len_seq (by rfl) m_len PySem.boot_len (pa_cons (pv 6) pa_nil)) pa_nil))) (fun _ _ => rfl)) pa_nil))))) pa_nil)) pa_nil))))))))), ?_⟩
  obtain ⟨ra, da, h1, h2, as, h3, hR⟩ := hHS
  have hml : (rooms.map V.str).length = rooms.length := List.length_map _
  have hrl : (as.map V.ref).length = rows.length := by rw [List.length_map]; exact hR.1
  have r1' := hV.r1
  have r8' := hV.r8
  have d12 := hV.d12
  refine ⟨_, rfl, hl, _, rfl, SqT.of h1, rfl, _, _, rfl, _, _, rfl, rfl, ?_⟩
  -- faces
  refine ⟨_, rfl, da, rfl, ⟨_, SqT.of h3⟩, fun D hD => ?_⟩
  have nDb : D ≠ b := hB.ne hD
  refine lc_tup (K := K) (a := da) (xs := as.map V.ref) (fun i Hx => Box Hx b ∧ Ch b H Hx ∧ ∃ fs : List Str, Hx D = some (.lst (fs.map V.str)) ∧ fs.length = i ∧ ∀ (j : Nat) (f : Str) (r : List Str), fs[j]? = some f → rows[j]? = some r → ∃ n a b : Str, r = [n, a, b] ∧ (f = a ∨ f = b))
    ⟨hB.new hD _, (Ch.refl b H).new hD _, [], upd_same, rfl, fun j f r e => by simp at e⟩ (fun i Hx _ ⟨B, c, _⟩ => SqT.of (Tu.of c hB _ _ h3)) (fun i x Hx hx ⟨B, c, fs, hfs, hfl, hfv⟩ => ?_) (fun Hx ⟨B1, c1, fs, hfs, hfl, hfv⟩ => ?_)
  · obtain ⟨a, r, rfl, hri, har⟩ := hR.row hx
    obtain ⟨n, x, y, rfl, _, hx1, hy1, hxy⟩ := hV.row r (List.mem_of_getElem? hri)
    refine ⟨rfl, lcY ?_⟩
    refine ⟨_, rfl, _, rfl, b, 2, rfl, B, by decide, by decide, fun r1 H3 r10 r11 B3 c3 => ?_⟩
    have har3 := Tu.of c3 B _ _ (Tu.of c hB _ _ har)
    obtain ⟨v, hv, hvv⟩ : ∃ v : Str, atI ([n, x, y].map V.str) (1 + r1) = some (.str v) ∧ (v = x ∨ v = y) := by
      have z : r1 = 0 ∨ r1 = 1 := by omega
      rcases z with rfl | rfl
      · exact ⟨x, atI_nat (j := 1) rfl, .inl rfl⟩
      · exact ⟨y, atI_nat (j := 2) rfl, .inr rfl⟩
    have hil : i < rows.length := (List.getElem?_eq_some_iff.mp hri).1
    refine ⟨_, _, rfl, rfl, a, _, _, _, rfl, rfl, SqT.of har3, hv, _, c3 _ _ nDb hfs, ?_, B3.upd nDb _, (c.trans c3).mut hD _, fs ++ [v], ?_, ?_, ?_⟩
    · rw [List.length_map, hfl]
      exact sz100 (by omega)
    · rw [upd_same, List.map_append]
      rfl
    · rw [List.length_append, hfl]
      rfl
    · intro j f r e1 e2
      by_cases hj : j < fs.length
      · rw [List.getElem?_append_left hj] at e1
        exact hfv j f r e1 e2
      · rw [List.getElem?_append_right (by omega)] at e1
        have hj2 : j = fs.length := by
          have z := (List.getElem?_eq_some_iff.mp e1).1
          rw [List.length_singleton] at z
          omega
        subst hj2
        rw [Nat.sub_self] at e1
        rw [hfl, hri] at e2
        cases e1
        cases e2
        exact ⟨n, x, y, rfl, hvv⟩
  rw [hrl] at hfl
  refine ⟨D, _, rfl, .inl ⟨SqL.of hfs, fun t1 ht1 => ?_⟩⟩
  have B2 := B1.new ht1 (.tup (fs.map V.str))
  have c2 := c1.new ht1 (.tup (fs.map V.str))
  have hf2 : upd Hx t1 (.tup (fs.map V.str)) t1 = some (.tup (fs.map V.str)) := upd_same
  clear hfs
  generalize upd Hx t1 (.tup (fs.map V.str)) = H2 at B2 c2 hf2 ⊢
  -- pools
  refine ⟨_, rfl, b, 5, rfl, B2, by decide, by decide, fun pp ps H4 hpn hpp hpl hpnd hpnm B4 c4 => ?_⟩
  have npb : pp ≠ b := B2.ne hpn
  have tu4 : Tu H H4 := (Tu.of c2 hB).trans (Tu.of c4 B2)
  refine ⟨_, rfl, ra, _, rfl, .inr (SqT.of (tu4 _ _ h2)), fun l2 hl2 => ?_⟩
  have nlb : l2 ≠ b := B4.ne hl2
  refine ⟨_, rfl, da, rfl, ⟨_, SqT.of (Tu.new hl2 _ _ _ (tu4 _ _ h3))⟩, fun E1 hE1 => ?_⟩
  have B5 := B4.new hl2 (.lst (rooms.map V.str))
  have nEb : E1 ≠ b := B5.ne hE1
  refine lc_tup (K := K) (a := da) (xs := as.map V.ref) (fun i Hx => Hx = upd (upd H4 l2 (.lst (rooms.map V.str))) E1 (.lst (((rows.take i).map fun r => r.headD "").map V.str))) rfl
    (fun i Hx _ e => by subst e; exact SqT.of (Tu.new hE1 _ _ _ (Tu.new hl2 _ _ _ (tu4 _ _ h3)))) (fun i x Hx hx e => ?_) (fun Hx e => ?_)
  · subst e
    obtain ⟨a, r, rfl, hri, har⟩ := hR.row hx
    obtain ⟨n, x, y, rfl, _, hx1, hy1, hxy⟩ := hV.row r (List.mem_of_getElem? hri)
    have hil : i < rows.length := (List.getElem?_eq_some_iff.mp hri).1
    refine ⟨rfl, lcY ?_⟩
    refine ⟨_, rfl, a, _, _, _, rfl, rfl, SqT.of (Tu.new hE1 _ _ _ (Tu.new hl2 _ _ _ (tu4 _ _ har))), atI_nat (j := 0) rfl, _, upd_same, ?_, ?_⟩
    · rw [List.length_map, List.length_map, List.length_take]
      exact sz100 (by omega)
    · rw [upd_upd, take_snoc hri, List.map_append, List.map_append]
      rfl
  subst e
  rw [hrl, List.take_length]
  refine ⟨(by show 3 ≤ sizeLine; decide), fun pl hpl' => ?_⟩
  have B6 : Box (upd (upd (upd H4 l2 (.lst (rooms.map V.str))) E1 (.lst ((rows.map fun r => r.headD "").map V.str))) pl (.lst [.ref pp, .ref l2, .ref E1])) b := (B5.new hE1 _).new hpl' _
  have c6 : Ch b H (upd (upd (upd H4 l2 (.lst (rooms.map V.str))) E1 (.lst ((rows.map fun r => r.headD "").map V.str))) pl (.lst [.ref pp, .ref l2, .ref E1])) := (((c2.trans c4).new hl2 _).new hE1 _).new hpl' _
  have nplb : pl ≠ b := (B5.new hE1 _).ne hpl'
  have hpl6 : (upd (upd (upd H4 l2 (.lst (rooms.map V.str))) E1 (.lst ((rows.map fun r => r.headD "").map V.str))) pl (.lst [.ref pp, .ref l2, .ref E1])) pl = some (.lst [.ref pp, .ref l2, .ref E1]) := upd_same
  have hpp6 := same_new hpl' (.lst [.ref pp, .ref l2, .ref E1]) _ _ (same_new hE1 (.lst ((rows.map fun r => r.headD "").map V.str)) _ _ (same_new hl2 (.lst (rooms.map V.str)) _ _ hpp))
  have hl26 := same_new hpl' (.lst [.ref pp, .ref l2, .ref E1]) _ _ (same_new hE1 (.lst ((rows.map fun r => r.headD "").map V.str)) _ _ (upd_same (H := H4) (a := l2) (o := .lst (rooms.map V.str))))
  have hE16 := same_new hpl' (.lst [.ref pp, .ref l2, .ref E1]) _ _ (upd_same (H := upd H4 l2 (.lst (rooms.map V.str))) (a := E1) (o := .lst ((rows.map fun r => r.headD "").map V.str)))
  have hf6 := Tu.new hpl' (.lst [.ref pp, .ref l2, .ref E1]) _ _ (Tu.new hE1 (.lst ((rows.map fun r => r.headD "").map V.str)) _ _ (Tu.new hl2 (.lst (rooms.map V.str)) _ _ (Tu.of c4 B2 _ _ hf2)))
  generalize (upd (upd (upd H4 l2 (.lst (rooms.map V.str))) E1 (.lst ((rows.map fun r => r.headD "").map V.str))) pl (.lst [.ref pp, .ref l2, .ref E1])) = H6 at B6 c6 hpl6 hpp6 hl26 hE16 hf6 ⊢
  -- titles
  refine ⟨_, rfl, _, rfl, b, 6, rfl, B6, by decide, by decide, fun r6 H7 r60 r61 B7 c7 => ⟨_, _, rfl, rfl, _, _, rfl, ?_⟩⟩
  obtain ⟨qa, ss, hqa, hss, hnd, hnm, nqb⟩ : ∃ (qa : Addr) (ss : List Str), atI ([.ref pp, .ref l2, .ref E1] : List V) (if r6 - 3 > 0 then r6 - 3 else 0) = some (.ref qa) ∧ H6 qa = some (.lst (ss.map V.str)) ∧ ss.Nodup ∧ (∀ x ∈ ss, Nm x) ∧ qa ≠ b := by
    have z : r6 - 3 ≤ 0 ∨ r6 = 4 ∨ r6 = 5 := by omega
    rcases z with z | rfl | rfl
    · rw [if_neg (by omega)]
      exact ⟨pp, ps, atI_nat (j := 0) rfl, hpp6, hpnd, hpnm, npb⟩
    · exact ⟨l2, rooms, atI_nat (j := 1) rfl, hl26, hV.nd, hV.nm, nlb⟩
    · refine ⟨E1, _, atI_nat (j := 2) rfl, hE16, hV.dn, fun x hx => ?_, nEb⟩
      obtain ⟨r, hr1, rfl⟩ := List.mem_map.mp hx
      obtain ⟨n, x, y, rfl, hn, _⟩ := hV.row r hr1
      exact hn
  refine ⟨pl, _, _, _, rfl, rfl, SqL.of (c7 _ _ nplb hpl6), hqa, ?_⟩
  refine ⟨_, rfl, _, rfl, _, _, rfl, rfl, b, _, rfl, B7, by omega, by omega, fun r7 H8 r70 r71 B8 c8 => ⟨_, rfl, qa, _, rfl, SqL.of (c8 _ _ nqb (c7 _ _ nqb hss)), fun p hp => ?_⟩⟩
  have ec : cutV (ss.map V.str) none (some r7) = (ss.take r7.toNat).map V.str := by rw [cut_to r70, List.map_take]
  rw [ec] at *
  have hkl : (ss.take r7.toNat).length ≤ r7.toNat := by rw [List.length_take]; exact Nat.min_le_left _ _
  refine ⟨p, ss.take r7.toNat, rfl, SqL.of upd_same, by omega, fun ys p2 perm srt hp2 => ?_⟩
  have ysnd : ys.Nodup := perm.nodup_iff.mpr (hnd.sublist (List.take_sublist _ _))
  have ysnm : ∀ x ∈ ys, Nm x := fun x hx => hnm x (List.mem_of_mem_take (perm.mem_iff.mp hx))
  have ysl : ys.length ≤ r7.toNat := by rw [perm.length_eq]; exact hkl
  have B9 := (B8.new hp (.lst ((ss.take r7.toNat).map V.str))).new hp2 (.lst (ys.map V.str))
  have c9 := (((c6.trans c7).trans c8).new hp (.lst ((ss.take r7.toNat).map V.str))).new hp2 (.lst (ys.map V.str))
  have np2b : p2 ≠ b := (B8.new hp _).ne hp2
  have hf9 := Tu.new hp2 (.lst (ys.map V.str)) _ _ (Tu.new hp (.lst ((ss.take r7.toNat).map V.str)) _ _ (Tu.of c8 B7 _ _ (Tu.of c7 B6 _ _ hf6)))
  have hy9 : upd (upd H8 p (.lst ((ss.take r7.toNat).map V.str))) p2 (.lst (ys.map V.str)) p2 = some (.lst (ys.map V.str)) := upd_same
  generalize upd (upd H8 p (.lst ((ss.take r7.toNat).map V.str))) p2 (.lst (ys.map V.str)) = H9 at B9 c9 hf9 hy9 ⊢
  have tu9 : Tu H H9 := Tu.of c9 hB
  have hyl : (ys.map V.str).length = ys.length := List.length_map _
  -- (faces, places)
  refine ⟨_, rfl, _, rfl, p2, rfl, ⟨_, SqL.of hy9⟩, fun D2 hD2 => ?_⟩
  have nD2 : D2 ≠ b := B9.ne hD2
  have nD2p : p2 ≠ D2 := ne_of_none hy9 hD2
  refine lc_list (K := K) (a := p2) (xs := ys.map V.str) (fun i Hx => ∃ (as2 : List Addr) (pls : List (List Str)), Hx D2 = some (.lst (as2.map V.ref)) ∧ RowsAt Hx as2 pls ∧ pls.length = i ∧ (pls.map fun p => p.headD "") = ys.take i ∧ (∀ p ∈ pls, ∃ w r : Str, p = [w, r] ∧ w ∈ ys ∧ r ∈ rooms) ∧ Box Hx b ∧ Ch b H9 Hx)
    ⟨[], [], upd_same, RowsAt.nil, rfl, rfl, (fun p hp => by cases hp), B9.new hD2 _, (Ch.refl b H9).new hD2 _⟩ (fun i Hx _ ⟨_, _, _, _, _, _, _, _, c⟩ => SqL.of (c _ _ np2b hy9)) (fun i x Hx hx ⟨as2, pls, hD, hR2, hpl2, hph, hpv, B, c⟩ => ?_) (fun Hx ⟨as2, pls, hD, hR2, hpl2, hph, hpv, B, c⟩ => ?_)
  · obtain ⟨t, ht, rfl⟩ := str_at hx
    refine ⟨rfl, lcY ?_⟩
    have tux : Tu H Hx := tu9.trans (Tu.of c B9)
    have hil : i < ys.length := (List.getElem?_eq_some_iff.mp ht).1
    refine ⟨_, rfl, _, rfl, _, rfl, _, rfl, ra, _, rfl, .inr (SqT.of (tux _ _ h2)), b, _, rfl, B, (by rw [hml]; omega), (by rw [hml]; omega), fun r9 Ha r90 r91 Ba ca => ?_⟩
    rw [hml] at r91
    obtain ⟨rm, hrm, arm⟩ := atS (ss := rooms) (j := r9) r90 r91
    refine ⟨ra, _, _, _, rfl, rfl, SqT.of (Tu.of ca B _ _ (tux _ _ h2)), arm, (by show 2 ≤ sizeLine; decide), fun tp htp => ?_⟩
    have hDa := same_new htp (.tup [.str t, .str rm]) _ _ (ca _ _ nD2 hD)
    have nDt : D2 ≠ tp := ne_of_none (ca _ _ nD2 hD) htp
    refine ⟨_, hDa, ?_, as2 ++ [tp], pls ++ [[t, rm]], ?_, ?_, by rw [List.length_append, hpl2]; rfl, ?_, ?_, (Ba.new htp _).upd nD2 _, ((c.trans ca).new htp _).mut hD2 _⟩
    · rw [List.length_map, hR2.1, hpl2]
      exact sz100 (by omega)
    · rw [upd_same, List.map_append]
      rfl
    · have tua : Tu Hx (upd (upd Ha tp (.tup [.str t, .str rm])) D2 (.lst (as2.map V.ref ++ [.ref tp]))) := fun a xs h => by
        have z := Tu.new htp (.tup [.str t, .str rm]) _ _ (Tu.of ca B _ _ h)
        rw [upd_ne (fun e => by rw [e, hD] at h; cases h)]
        exact z
      refine (hR2.tu tua).snoc ?_
      rw [upd_ne nDt.symm]
      exact upd_same
    · rw [List.map_append, hph, take_snoc ht]
      rfl
    · intro p hp
      rcases List.mem_append.mp hp with hp | hp
      · exact hpv p hp
      · exact ⟨t, rm, List.mem_singleton.mp hp, List.mem_of_getElem? ht, List.mem_of_getElem? hrm⟩
  rw [hyl] at hpl2 hph
  rw [List.take_length] at hph
  refine ⟨D2, _, rfl, .inl ⟨SqL.of hD, fun t2 ht2 => ⟨(by show 2 ≤ sizeLine; decide), fun t3 ht3 => ?_⟩⟩⟩
  have tuf : Tu H9 (upd (upd Hx t2 (.tup (as2.map V.ref))) t3 (.tup [.ref t1, .ref t2])) := ((Tu.of c B9).trans (Tu.new ht2 _)).trans (Tu.new ht3 _)
  have tuh : Tu Hx (upd (upd Hx t2 (.tup (as2.map V.ref))) t3 (.tup [.ref t1, .ref t2])) := (Tu.new ht2 _).trans (Tu.new ht3 _)
  refine q t3 fs pls _ ⟨t1, t2, upd_same, tuf _ _ hf9, as2, Tu.new ht3 _ _ _ upd_same, hR2.tu tuh⟩ ⟨hfl, hfv, by omega, fun p hp => ?_, ?_⟩ (by omega) ((B.new ht2 _).new ht3 _) (((c9.trans c).new ht2 _).new ht3 _)
  · obtain ⟨w, r, e, e1, e2⟩ := hpv p hp
    exact ⟨w, r, e, ysnm w e1, e2⟩
  · rw [hph]
    exact up_sorted srt ysnd ysnm
end
end Td
set_option maxHeartbeats 4000000
namespace Td
open PySem PySem.Spec PyProof.Rows L2
open PySem.HandSPX (excO)
open Builtin Builtin.ObjectAttr
/-! ### an own class over KeyError with its own __init__ (its maker is LookupError's) -/
abbrev keTail : List Value := [.type "KeyError", .type "LookupError", .type "Exception", .type "BaseException", .type "object"]
abbrev keObj (nm q : Str) (C N : Addr) (bs : List Value) (sn : List Str) (sub : List Value) (ab : Bool) (col : Option Bool) (dd : Option Addr) (k0 k1 k2 k3 k5 : Option Value) : Obj := excClassObj nm q C N bs keTail true sn sub ab col dd k0 k1 k2 k3 k5 "LookupError.__new__"
theorem ke_has (C : Addr) : (Value.ref C :: keTail).contains (.type "LookupError") = true := by rw [List.contains_cons, show keTail.contains (Value.type "LookupError") = true from by decide +kernel, Bool.or_true]
theorem ke_noA (C : Addr) : (Value.ref C :: keTail).contains (.type "AttributeError") = false := by rw [List.contains_cons, show keTail.contains (Value.type "AttributeError") = false from by decide +kernel]; rfl
theorem ke_noN (C : Addr) : (Value.ref C :: keTail).contains (.type "NameError") = false := by rw [List.contains_cons, show keTail.contains (Value.type "NameError") = false from by decide +kernel]; rfl
theorem ke_ob (C : Addr) : (Value.ref C :: keTail).contains (.type "object") = true := by rw [List.contains_cons, show keTail.contains (Value.type "object") = true from by decide +kernel, Bool.or_true]
theorem ke_pass (self : Value) : refuseLoop self "__setattr__" keTail = pure () := by kernel_rfl
theorem ke_pass_own (self : Value) (C : Addr) : refuseLoop self "__setattr__" (.ref C :: keTail) = pure () := by rw [refuseLoop_ref]; exact ke_pass self
section
variable {M : Model} {A : Around} {E : Value → Shared → Prop} {h : Heap} {g : Array GenState} {d : Drawn} {t : Nat} {os : OsState}
variable {nm q : Str} {C N : Addr} {bs : List Value} {sn : List Str} {sub : List Value} {ab : Bool} {col : Option Bool} {dd : Option Addr} {k0 k1 k2 k3 k5 : Option Value}
theorem ke_check {more : List Value} {Q : Unit → Shared → Prop} (at_ : h.get? C = some (keObj nm q C N bs sn sub ab col dd k0 k1 k2 k3 k5)) (hq : Q () ⟨h, g, d, t, os⟩) :
    wpAny M A (checkBuiltinCall "LookupError.__new__" ⟨.ref C :: more, []⟩) Q E ⟨h, g, d, t, os⟩ := by
  have c1 := ke_has C
  have c2 := PySem.F.excBase_LookupError.noStar
  simp only [checkBuiltinCall, PySem.F.excBase_LookupError.newKind, PySem.F.excBase_LookupError.newSplit, PySem.F.excBase_LookupError.newRow]
  repeat (first | refine wpAny_loadPart_at at_ ?_ | (refine wpAny_isSubtype_exc at_ ?_; rw [c1]) | refine wpAny_staticBase_exc at_ ?_ | refine wpAny_madeBy_exc at_ ?_ | simp only [bne_self_eq_false, Bool.false_eq_true, if_false] | wp_step)
  exact hq
end
section
variable {prog : Program} {w : World} {A : Around} {E : Value → Shared → Prop} {R : Result → Shared → Prop} {h : Heap} {g : Array GenState} {d : Drawn} {t : Nat} {os : OsState}
variable {nm q : Str} {C N : Addr} {bs : List Value} {sn : List Str} {sub : List Value} {ab : Bool} {col : Option Bool} {dd : Option Addr} {k0 k1 k2 k3 k5 : Option Value}
theorem ke_new {more : List Value} (at_ : h.get? C = some (keObj nm q C N bs sn sub ab col dd k0 k1 k2 k3 k5)) (few : more.length ≤ sizeLine)
    (hq : R (.ok (.ret (.ref (h.objs.size + 1)))) ⟨(h.push (PySem.W.kdv_tup more)).push (excO C h.objs.size), g, d, t, os⟩) : codeAny (model prog w) A (.builtin "LookupError.__new__" ⟨.ref C :: more, []⟩) R ⟨h, g, d, t, os⟩ := by
  have ends_ := PySem.F.excBase_LookupError.ends
  have c1 := ke_has C; have c2 := ke_noA C; have c3 := ke_noN C
  refine codeAny_builtinAt PySem.F.excBase_LookupError.entry ?_
  unfold Builtin.«BaseException.__new__»
  refine PySem.wpAt_bind ?_
  show PySem.wpAt _ _ _ (stack >>= _) _ _ _
  refine PySem.wpAt_bind (PySem.wpAt_stack fun p below => PySem.wpAt_of_wpAny ?_)
  wp_walk
  refine PySem.wpAt_of_wpAny ?_
  rw [PySem.F.excBase_LookupError.owner]
  repeat (first | with_reducible refine wpAny_madeHere_exc PySem.F.excBase_LookupError.canon at_ ?_ | with_reducible refine wpAny_loadPart_at at_ ?_ | (with_reducible refine wpAny_isSubtype_exc at_ ?_; first | rw [c1] | rw [c2] | rw [c3]) | wp_step)
  show R _ _
  rw [Heap.size_push]
  exact hq
theorem ke_type_call {more : List Value} {fI : Addr} {Q : Fin → Shared → Prop} (at_ : h.get? C = some (keObj nm q C N bs sn sub ab col dd k0 k1 k2 k3 k5))
    (li : PySem.W.Looks (model prog w) h (typeLookup (.ref C) "__init__") (some (.ref fI))) (lb : ∀ self, PySem.W.Looks (model prog w) h (bindSpecial (.ref fI) self) (.ref fI, [self])) (few : more.length ≤ sizeLine)
    (hq : codeAny (model prog w) A (.call (.ref fI) ⟨.ref (h.objs.size + 1) :: more, []⟩) (fun r s' => match r with | .ok (.ret v) => v = .none ∧ Q (.done (.ret (.ref (h.objs.size + 1)))) s' | .ok _ => False | .error e => E e s')
      ⟨(h.push (PySem.W.kdv_tup more)).push (excO C h.objs.size), g, d, t, os⟩) : wpAny (model prog w) A (Builtin.«type.__call__» ⟨.ref C :: more, []⟩) Q E ⟨h, g, d, t, os⟩ := by
  repeat (first | with_reducible refine wpAny_loadPart_at at_ ?_ | with_reducible refine wpAny_madeBy_exc at_ ?_ | wp_step)
  refine codeAny_call_builtin_code (Code.quiet_builtin _ PySem.F.excBase_LookupError.quiet) (ke_check at_ (ke_new at_ few ?_))
  show wpAny _ _ _ _ _ _
  have k : ∀ b o, h.get? b = some o → ((h.push (PySem.W.kdv_tup more)).push (excO C h.objs.size)).get? b = some o := fun b o e => Heap.get?_push_of_some _ (Heap.get?_push_of_some _ e)
  have at1 := k _ _ at_
  have at2 : ((h.push (PySem.W.kdv_tup more)).push (excO C h.objs.size)).get? (h.objs.size + 1) = some (excO C h.objs.size) := by heap_get
  have c0 : (Value.ref C :: keTail).contains (.ref C) = true := by simp
  have i1 := li.keeps k; have b1 := (lb (.ref (h.objs.size + 1))).keeps k
  unfold isInstance
  repeat (first | with_reducible refine wpAny_loadPart_at at2 ?_ | (with_reducible refine wpAny_isSubtype_exc at1 ?_; rw [c0]) | wp_step)
  show wpAny _ _ (typeLookup (.ref C) _) _ _ _
  refine i1.at (wpAny_holding (wpAny_bind (b1.at (wpAny_bind (wpAny_call (codeAny_mono hq fun r s' z => ?_))))))
  rcases r with e | (v | _ | _ | _) <;> first | exact z | exact z.elim | skip
  obtain ⟨rfl, z⟩ := z
  first | exact wpAny_pure (wpAny_pure z) | (wp_walk; exact z)
theorem ke_call {more : List Value} {fI : Addr} (at_ : h.get? C = some (keObj nm q C N bs sn sub ab col dd k0 k1 k2 k3 k5))
    (li : PySem.W.Looks (model prog w) h (typeLookup (.ref C) "__init__") (some (.ref fI))) (lb : ∀ self, PySem.W.Looks (model prog w) h (bindSpecial (.ref fI) self) (.ref fI, [self])) (few : more.length ≤ sizeLine)
    (hq : codeAny (model prog w) (A.under (.builtin "type.__call__" ⟨.ref C :: more, []⟩)) (.call (.ref fI) ⟨.ref (h.objs.size + 1) :: more, []⟩) (PySem.W.InitBack (h.objs.size + 1) R) ⟨(h.push (PySem.W.kdv_tup more)).push (excO C h.objs.size), g, d, t, os⟩) :
    codeAny (model prog w) A (.call (.ref C) ⟨more, []⟩) R ⟨h, g, d, t, os⟩ := by
  have f1 := tc_lookup; have f2 := tc_bind (.ref C)
  have ty : (⟨h, g, d, t, os⟩ : Shared).TypeIs (.ref C) "type" := ⟨_, at_, rfl⟩
  refine codeAny_of_tree ?_; show wpAny _ _ (callAny (.ref C) _) _ _ _
  repeat (any_goals (first | assumption | with_reducible refine wpAny_loadPart_at at_ ?_ | wp_step))
  refine ⟨rfl, codeAny_call_builtin_at (Code.quiet_builtin _ (by decide +kernel)) entry_typeCall (wpAny_check_type_call_sub at_ (ke_type_call at_ li lb few (codeAny_mono hq fun r s' z => ?_)))⟩
  rcases r with e | (v | _ | _ | _) <;> exact z
end
section
variable {prog : Program} {w : World} {A : Around} {E : Value → Shared → Prop} {R : Result → Shared → Prop} {hp : Heap} {g : Array GenState} {d : Drawn} {t : Nat} {os : OsState}
/-- self.name = v on a new one -/
theorem ke_store {K : PySem.W.Frag} {name : Str} {tk : Tok} {v : Value} {x C : Addr} {fv : Array Value} {cd : ClassData} (kin : K.In hp) (at_ : hp.get? x = some { cls := .ref C, data := .fields fv }) (hcd : PySem.W.clsIn K C = some cd) (hm : cd.mro = .ref C :: keTail) (hh : cd.hasDict = true)
    (no : PySem.W.findIn K (.ref C) name = some none)
    (hq : ∀ h' tk' dx, (∀ b o, b ≠ x → hp.get? b = some o → h'.get? b = some o) → hp.objs.size ≤ dx → dx ≠ x → h'.get? x = some { cls := .ref C, dict := some dx, data := .fields fv } →
      h'.Ns1 dx (fun y => if y = name then some v else none) → R (.ok (.ret .none)) ⟨h', g, d, tk', os⟩) :
    codeAny (model prog w) A (.call (.builtin "object.__setattr__") ⟨[.ref x, .str name tk, v], []⟩) R ⟨hp, g, d, t, os⟩ := by
  have inst : PySem.W.InstAt hp x { cls := .ref C, data := .fields fv } C none := ⟨at_, rfl, rfl, trivial⟩
  have sf := PySem.F.store_object
  have nx : x ≠ hp.objs.size := Nat.ne_of_lt (Heap.lt_size at_)
  have isb : PySem.W.Looks (model prog w) hp (isInstance (.ref x) (.type "object")) true := inst.type.andThen (PySem.W.looks_mroIn kin (by unfold PySem.W.mroIn; rw [hcd, Option.bind_some, hm, if_neg (fun q => nomatch q), ke_ob]))
  refine codeAny_call_builtin sf.slot.plain sf.entry (@PySem.W.check_slot (model prog w) _ _ ⟨hp, g, d, t, os⟩ "object.__setattr__" "object" "__setattr__" (.ref x) [.str name tk, v] [] _ sf.kind sf.split isb (sf.args (.ref x) (.str name tk) v) ?_)
  have lm : PySem.W.Looks (model prog w) hp (mroOf (.ref C)) cd.mro := (PySem.W.looks_clsIn kin hcd).andThen .now
  have l3 : PySem.W.Looks (model prog w) hp (storeTaker? none) none := .now
  have lc : PySem.W.Looks (model prog w) hp (classData C) cd := PySem.W.looks_clsIn kin hcd
  rw [PySem.W.osa_eq, refuse_eq]
  refine wpAny_bind (wpAny_bind (inst.type.at (wpAny_bind (lm.at ?_)))); rw [hm, ke_pass_own]
  refine wpAny_pure (wpAny_bind (inst.type.at (wpAny_bind ((PySem.W.looks_findIn kin no).at (wpAny_bind (l3.at ?_)))))); show wpAny _ _ (storeInOwnDict (.ref x) (.ref C) (.str name tk) name v false) _ _ _
  obtain ⟨nm, bs, mro, ns, qn, hd, sn, sb, ab, col, del⟩ := cd
  dsimp only at hh; subst hh
  unfold storeInOwnDict ownDictForStores
  repeat (first | with_reducible refine PySem.HandSPX.store_in_new ?_ ?_ | with_reducible refine wpAny_loadPart_at at_ ?_ | with_reducible refine lc.at ?_ | wp_step)
  · exact ⟨_, #[], _, (Heap.get?_update_ne _ _ _ _ nx.symm).trans (Heap.get?_push_at rfl rfl), rfl, fun e he => absurd he (by simp), fun _ => rfl⟩
  · intro h' tk' hn sb2
    have at1 : (hp.push { cls := .type "dict", data := .dict #[] }).get? x = some { cls := .ref C, data := .fields fv } := Heap.get?_push_of_some _ at_
    refine hq h' tk' hp.objs.size (fun b o hb ho => ?_) (Nat.le_refl _) nx.symm ((sb2.2 x nx).trans (Heap.get?_update_self _ at1 rfl)) hn
    exact (sb2.2 b (Nat.ne_of_lt (Heap.lt_size ho))).trans ((Heap.get?_update_ne _ _ _ _ hb).trans (Heap.get?_push_of_some _ ho))
end
end Td
set_option maxHeartbeats 4000000
namespace Td
open PySem PySem.Spec PyProof.Rows L2
/-! ### making and catching such errors, by rules -/
structure KexC (K : PySem.W.Frag) (C : Addr) : Prop where
  cls : ∃ nm q N bs sn sub ab col dd k0 k1 k2 k3 k5, K.lookup C = some (keObj nm q C N bs sn sub ab col dd k0 k1 k2 k3 k5)
  sa : PySem.W.findIn K (.ref C) "__setattr__" = some (some (.builtin "object.__setattr__"))
  exC : PySem.W.subIn K (.ref C) (.type "BaseException") = some true
  tyC : PySem.W.typeIn K (.ref C) = some (.type "type")
  kC : PySem.W.keepIn K (.ref C) = true
section
variable {X : Cx} {pins : List (Addr × Obj)} {σ : L2.St} {H : Hp} {s : Shared} {a C : Addr} {fld : Str} {y : V} {u : Value} {Q : Unit → Shared → Prop} {E : Value → Shared → Prop} {A : Around}
theorem kst_new (T : KexC X.K C) (I : Inv X pins σ H s) (e : H a = some (exo a C none)) (no : PySem.W.findIn X.K (.ref C) fld = some none) (ry : RelV y u)
    (h : ∀ dx s', H dx = none → dx ≠ a → Inv X pins σ (upd (upd H dx (exd dx [(fld, y)])) a (exo a C (some dx))) s' → Q () s') : wpAny (model X.prog X.w) A (setAttr (.ref a) fld u) Q E s := by
  obtain ⟨nm, q, N, bs, sn, sub, ab, col, dd, k0, k1, k2, k3, k5, hC⟩ := T.cls
  have kc : PySem.W.clsIn X.K C = some { name := nm, bases := bs, mro := .ref C :: keTail, ns := N, qualname := q, hasDict := true, slotNames := sn, subclasses := sub, abstract := ab, collection := col, hasDel := false } := by unfold PySem.W.clsIn; rw [hC] <;> rfl
  obtain ⟨t1, ho⟩ := exo_at I.hok e
  obtain ⟨hp, g, d, t, os⟩ := s
  refine PySem.W.set_plain I.kIn (ox := { cls := .ref C, dict := none, data := .fields #[.ref t1, .none, .none, .none, .bool false, .none] }) (od := none) ⟨ho, rfl, rfl, trivial⟩ T.sa ?_
  refine ke_store I.kIn ho kc rfl rfl no fun h' tk' dx k dn dne hx hn => ?_
  have nod : H dx = none := I.hok.fresh dn
  have ned : ∀ {b : Addr} {o : Obj}, hp.get? b = some o → b ≠ dx := fun {b o} q => Nat.ne_of_lt (Nat.lt_of_lt_of_le (Heap.lt_size q) dn)
  have nea : ∀ {b : Addr}, H b = none → b ≠ a := fun {b} n z => by subst z; rw [e] at n; cases n
  have both : ∀ {b : Addr} {o : HO}, H b = some o → b ≠ a → upd (upd H dx (exd dx [(fld, y)])) a (exo a C (some dx)) b = some o := fun {b o} q n => by
    rw [upd_ne n, upd_ne (ne_of_none q nod)]; exact q
  have un : Un X.fs [] H (upd (upd H dx (exd dx [(fld, y)])) a (exo a C (some dx))) hp h' :=
    { keep := fun b o q n _ _ => k b o (nea n) q
      slot := fun b o q n _ _ => ⟨o.slots, k b o (nea n) q⟩
      free := fun b o q n _ => by rw [upd_ne (nea n), upd_ne (ned q)]; exact n
      there := fun b o q _ => by
        by_cases hb : b = a
        · subst hb; exact ⟨_, hx⟩
        · exact ⟨o, k b o hb q⟩
      tups := fun b xs q => both q (at_ne e q exo_tup)
      frzs := fun b o v q => both q (at_ne e q exo_frz)
      tbls := fun b ps q => ⟨#[], by rw [both q (at_ne e q exo_tbl)]; simp⟩ }
  refine h dx _ nod dne (I.un (t' := tk') un fun b o q => ?_)
  by_cases hb : b = a
  · subst hb; rw [upd_same] at q; cases q; exact exo_ok hx
  · rw [upd_ne hb] at q
    by_cases hd : b = dx
    · subst hd; rw [upd_same] at q; cases q; exact exd_ok hn (relO_put (fs := []) ry fun g => True.intro)
    · rw [upd_ne hd] at q
      refine (I.hok b o q).stay (fun c v hc z => k c v ?_ z) (fun c hc => both hc (at_ne e hc exo_own)) (fun c xs hc => both hc (at_ne e hc exo_tup))
      rcases hc with hc | hc
      · rw [hc]; exact hb
      · exact at_ne e hc exo_own
end
def tKst (K : PySem.W.Frag) (fld : Str) (to te : TE) : TS := fun D σ H => te σ H fun y H1 => to σ H1 fun x H2 => ∃ a C : Addr, x = .ref a ∧ KexC K C ∧ PySem.W.findIn K (.ref C) fld = some none ∧ H2 a = some (exo a C none) ∧
  ∀ dx, H2 dx = none → dx ≠ a → D.nx σ (upd (upd H2 dx (exd dx [(fld, y)])) a (exo a C (some dx)))
theorem ps_kst {X : Cx} {o e : Expr} {to te : TE} {fld : Str} {p' pos : Pos} (ho : PE X o to) (he : PE X e te) (hs : swapsWith e (some (.Attribute o fld p')) pos.line X.env = pure false := by rfl) : PS X (.Assign [.Attribute o fld p'] e pos) (tKst X.K fld to te) := by
  refine ⟨fun pins s σ H D I h => plainObj_wpAny_Assign_Attribute (thn (he.run pins s σ H _ I h) fun v s1 ⟨y, H1, I1, r1, q1⟩ => thn (ho.run pins s1 σ H1 _ I1 q1) fun u s2 ⟨x, H2, I2, r2, a, C, ex, T, no, ea, q⟩ => ?_) hs⟩
  subst ex
  obtain rfl : u = Value.ref a := r2
  exact kst_new T I2 ea no r1 fun dx s' n ne J => ⟨σ, _, J, q dx n ne⟩
/-- C(e): its __init__ keeps sp -/
theorem pmk_kex {X : Cx} {CX : CXT} {x : Str} {C fI : Addr} {k : Nat} {fd : FuncData} {ps : List Str} {sp : Sp} {e : Expr} {es : List Expr} {ta : TA} {p pos : Pos} (T : KexC X.K C) (iC : PySem.W.findIn X.K (.ref C) "__init__" = some (some (.ref fI))) (tI : PySem.W.typeIn X.K (.ref fI) = some (.type "function"))
    (F1 : FnOk X.prog X.w X.K X.mg X.base CX k fI fd ps sp) (hr : Room (k + 1) X.A) (hb : Binds X.K fd ps []) (hx : Passes CX X (fun _ _ _ => False)) (hg : Gl X x) (hm : X.mg x = some (.ref C)) (ha : PA X (e :: es) ta)
    (hdb : (x == ("__debug__" : Str)) = false := by decide) (he : starEach (e :: es) X.env = (false, eval e X.env) :: starEach es X.env := by rfl) (hpl : (backTo pos (starEach es X.env)).any (·.1) = false := by rfl) :
    PMk X (.Call (.Name x p) (e :: es) [] pos) (tMkO C sp [] ta) := by
  intro pins s σ H Q I h
  obtain ⟨nm, q, N, bs, sn, sub, ab, col, dd, k0, k1, k2, k3, k5, hC⟩ := T.cls
  refine wpAny_Call_Name_kw (ld_glob I hg hm (PySem.W.callWith_K (h₀ := X.base) I.ok.mod.kin T.kC (thn (ha.run pos pins s σ H _ I h) fun us s1 ⟨vs, H1, I1, r1, hz, q1⟩ => ⟨I1.kIn, ?_⟩) he hpl) hdb)
  show wpAny _ _ (call (.ref C) us) _ _ _
  obtain ⟨hp, g, dr, tk, os⟩ := s1
  have le1 : hp.objs.size ≤ hp.objs.size + 1 := Nat.le_succ _
  have hn : H1 (hp.objs.size + 1) = none := I1.hok.fresh le1
  have hq := q1 (hp.objs.size + 1) hn
  have kk : ∀ b o, hp.get? b = some o → ((hp.push (PySem.W.kdv_tup us)).push (PySem.HandSPX.excO C hp.objs.size)).get? b = some o := fun b o z => Heap.get?_push_of_some _ (Heap.get?_push_of_some _ z)
  have at1 : ((hp.push (PySem.W.kdv_tup us)).push (PySem.HandSPX.excO C hp.objs.size)).get? (hp.objs.size + 1) = some (PySem.HandSPX.excO C hp.objs.size) := by heap_get
  have I2 : Inv X pins σ (upd H1 (hp.objs.size + 1) (exo (hp.objs.size + 1) C none)) ⟨(hp.push (PySem.W.kdv_tup us)).push (PySem.HandSPX.excO C hp.objs.size), g, dr, tk, os⟩ :=
    I1.laid (t' := tk) (a := hp.objs.size + 1) (o := exo (hp.objs.size + 1) C none) (h' := (hp.push (PySem.W.kdv_tup us)).push (PySem.HandSPX.excO C hp.objs.size)) kk le1 (exo_ok at1)
  have r2 : Vals (V.ref (hp.objs.size + 1) :: (vs ++ [])) (Value.ref (hp.objs.size + 1) :: (us ++ [])) := .cons rfl (r1.append .nil)
  have hl : (Value.ref (hp.objs.size + 1) :: us ++ []).length = ps.length := by
    have z := r2.length
    rw [F1.len _ _ _ _ hq] at z
    exact z.symm
  have few : us.length ≤ sizeLine := by
    rw [← Paired.length r1, sizeLine_eq]; omega
  have hb2 := hb _ (Value.ref (hp.objs.size + 1) :: us) I2.kIn hl
  rw [List.cons_append] at hb2
  refine wpAny_call (ke_call (I1.kIn _ _ hC) (PySem.W.looks_findIn I1.kIn iC) (fun self => PySem.W.bind_fn I1.kIn self tI) few (codeAny_mono (F1.run _ X.stack _ _ ⟨Value.ref (hp.objs.size + 1) :: us, []⟩ (Value.ref (hp.objs.size + 1) :: (us ++ [])) _ _ (fun _ _ _ => False)
    (hr.make C us []) (I2.env0.make C us []) hb2 r2 hq) fun r s' z => ?_))
  cases r with
  | error er => exact hx pins σ _ _ er s' I2 z
  | ok fl =>
    cases fl with
    | ret u =>
      obtain ⟨v, H2, os2, bare2, un2, hok2, rv, ev, d, fs, ea, ed, hd1, q2⟩ := z
      subst ev
      obtain ⟨h2, g2, d2, t2, os'⟩ := s'
      exact ⟨rv, mk_end (raises_own T.exC T.tyC) I1 le1 kk un2 hok2 os2 bare2 ea ed hd1 q2⟩
    | next => exact False.elim z
    | brk => exact False.elim z
    | cont => exact False.elim z
end Td
set_option maxHeartbeats 4000000
namespace Td
open PySem PySem.Spec PyProof.Rows L2
/-! ### try: .. except A as n: .. and further clauses behind it: what the body raises is caught by the first -/
/-- behind the suite: the name is gone -/
def Ends_ (D : Ends) (i : Nat) : Ends := { nx := fun σ H => D.nx (σ.set i none) H, rt := D.rt, bk := fun σ H => D.bk (σ.set i none) H, ct := fun σ H => D.ct (σ.set i none) H }
abbrev Cls_ := Value × Nat × (Addr → Value → Option Addr → TS)
/-- one of the clauses catches it -/
def wSeq (K : PySem.W.Frag) (D : Ends) : List Cls_ → WX
  | [] => fun _ _ _ _ => False
  | (c, i, ts) :: r => fun cls d σ H => (PySem.W.exmOne K cls c = some true ∧ ∀ a, H a = none → ts a cls d (Ends_ D i) (σ.set i (some (.ref a))) H) ∨ (PySem.W.exmOne K cls c = some false ∧ wSeq K D r cls d σ H)
/-- clauses with a name; what stands behind them never matters -/
inductive HdsAs (X : Cx) : List ExceptHandler → List Cls_ → Prop
  | any (hds : List ExceptHandler) : HdsAs X hds []
  | cons {x n : Str} {c : Value} {i : Nat} {ts : Addr → Value → Option Addr → TS} {b₀ : Stmt} {suite : List Stmt} {np pos' : Pos} {hds : List ExceptHandler} {l : List Cls_} (nam : Names X x c) (at_ : X.N[i]? = some n) (lcl : X.env.kindOf n = some .local)
      (caught : ∀ (a : Addr) (oe : Obj) (cls : Value) (d : Option Addr) (pn : List (Addr × Obj)), Zc cls d oe → (∃ vs, oe.data = .fields vs) → PSs (X.suite a ((a, oe) :: pn)) (b₀ :: suite) (ts a cls d)) (r : HdsAs X hds l) :
      HdsAs X (.ExceptHandler (some (.Name x np)) (some n) (b₀ :: suite) pos' :: hds) ((c, i, ts) :: l)
theorem ps_try_seq {X : Cx} {body : List Stmt} {h₀ : ExceptHandler} {hds : List ExceptHandler} {l : List Cls_} {pos : Pos} {tb : WX → TS}
    (stk : X.stack = X.env :: X.outer) (frm : X.env.frame = some X.env.locals) (nd : X.N.Nodup)
    (inner : ∀ (W : WX) (pn : List (Addr × Obj)) (xe : Value → Shared → Prop), Takes (X.tr pn xe) W → PassesOwn (model X.prog X.w) X.A X.env xe → PSs (X.tr pn xe) body (tb W))
    (hh : HdsAs X (h₀ :: hds) l) : PS X (.Try body (h₀ :: hds) [] [] pos) (fun D σ H => tb (wSeq X.K D l) D σ H) := by
  refine ⟨fun pins s σ H D I h => ?_⟩
  have okI := I.ok
  have frs_ : X.A.frames = some (X.env :: X.outer) := okI.frames.trans (congrArg some stk)
  refine wpAny_Try_except (wpAny_mono ((inner (wSeq X.K D l) (X.pn ++ pins) (fun e s1 => wpAny (model X.prog X.w) X.A (noteFrame e X.env) (fun _ s2 => wpAny (model X.prog X.w) X.A (setFlight e none) (fun _ s3 =>
    wpAny (model X.prog X.w) X.A (handleBy e X.env (h₀ :: hds)) (SP X pins D) X.xe s3) X.xe s2) X.xe s1) (fun u s2 xx => ?_) PassesOwn.looking).run [] s σ H D (I.toTry _) h) (fun f s1 q => ?_) (fun e s1 z => z))
  · obtain ⟨a, B, s0, pins2, σ2, H2, cls, d, rfl, J0, nb, up, sky, na, os, ag, wish⟩ := xx
    have J : Inv X pins σ2 H2 s0 := J0.ofTry okI
    have sky2 : Sky B (X.env :: X.outer) a (Zc cls d) X.env.locals s2.heap := stk ▸ sky
    show wpAny (model X.prog X.w) X.A (noteFrame (.ref a) X.env) _ _ _
    refine Sky.land Zc.steady frs_ frm sky2 fun g3 fl3 up3 => ?_
    have J3 : Inv X pins σ2 H2 { s2 with heap := g3 } := J.landed nb fl3.1 (up.trans up3) os ag
    obtain ⟨o3, v3, at3, z3, d3⟩ := fl3.there
    have nfr : a ∉ frs (X.env :: X.outer) := fun hm => by
      obtain ⟨_, o, e, nf⟩ := fl3.2.2.1.mem hm
      rw [at3] at e; cases e
      exact nf _ d3
    have nL : a ≠ X.env.locals := fun z => nfr (List.mem_filterMap.mpr ⟨X.env, List.mem_cons_self, by rw [frm, z]⟩)
    have nF : a ∉ X.fs := fun hm => by
      obtain ⟨e, he, q⟩ := List.mem_filterMap.mp hm
      exact nfr (List.mem_filterMap.mpr ⟨e, List.mem_cons_of_mem _ he, q⟩)
    have S3 := J3.suite at3 d3 na nL nF
    have look : PySem.W.Looks (model X.prog X.w) g3 (typeOf (.ref a)) cls := fun A Q E s k q => wpAny_typeOf_ref (k _ _ at3) (by rw [z3.1]; exact q)
    have go : ∀ {hs : List ExceptHandler} {l2 : List Cls_}, HdsAs X hs l2 → wSeq X.K D l2 cls d σ2 H2 → wpAny (model X.prog X.w) X.A (handleBy (.ref a) X.env hs) (SP X pins D) X.xe { s2 with heap := g3 } := by
      intro hs l2 hk
      induction hk with
      | any => intro z; exact False.elim z
      | @cons x n c i ts b₀ suite np pos' hs2 l3 nam at_ lcl caught r ih =>
        intro wish
        refine wpAny_handleBy_cons (codeAny_handlers_test ?_) (fun q => nomatch q)
        have test : ∀ {Q E : Value → Shared → Prop}, Q c { s2 with heap := g3 } → wpAny (model X.prog X.w) (X.A.mark (some (.ref a))) (eval (.Name x np) X.env) Q E { s2 with heap := g3 } := fun {Q E} q => by
          obtain ⟨hg, db, hm | ⟨hm, hv, nn⟩⟩ := nam
          · exact ld_glob (X := X.suite a ((a, o3) :: (X.pn ++ pins))) S3 hg hm q db
          · exact ld_blt (X := X.suite a ((a, o3) :: (X.pn ++ pins))) S3 hg hm hv q nn db
        rcases wish with ⟨hit, go1⟩ | ⟨hit, on⟩
        · refine test ((PySem.W.exm_one (M := model X.prog X.w) J3.kIn look hit).here (codeAny_handlers_suite_as (HandSPX.lands_againZ fl3 fun g4 fl4 up4 => ?_)))
          have J4 : Inv X pins σ2 H2 { s2 with heap := g4 } := J.landed nb fl4.1 ((up.trans up3).trans up4) os ag
          obtain ⟨o4, v4, at4, z4, d4⟩ := fl4.there
          refine store_ok (X := X.suite a ((a, o4) :: (X.pn ++ pins))) (v := .ref a) (J4.suite at4 d4 na nL nF) nd at_ (Or.inl lcl : Loc X.env.scope n) rfl (fun s5 S5 => ?_) (.inr lcl)
          refine wpAny_mono ((caught a o4 cls d (X.pn ++ pins) z4 ⟨_, d4⟩).run [] s5 _ H2 _ S5 (go1 a na)) (fun f s6 q => ?_) (fun _ _ z => z.elim)
          have over : ∀ {σ6 : L2.St} {H6 : Hp} {Q : Shared → Prop}, Inv (X.suite a ((a, o4) :: (X.pn ++ pins))) [] σ6 H6 s6 → (∀ s7, Inv X pins (σ6.set i none) H6 s7 → Q s7) →
              wpAny (model X.prog X.w) X.A (do bindName X.env n .none; unbindBehindTheSuite X.env n pos') (fun _ s7 => Q s7) X.xe s6 := fun {σ6 H6 Q} S6 hq => gone_ok (S6.unsuite okI) nd at_ lcl hq
          cases f with
          | next => obtain ⟨σ6, H6, S6, q6⟩ := q; exact over S6 fun s7 J7 => ⟨_, _, J7, q6⟩
          | brk => obtain ⟨σ6, H6, S6, q6⟩ := q; exact over S6 fun s7 J7 => ⟨_, _, J7, q6⟩
          | cont => obtain ⟨σ6, H6, S6, q6⟩ := q; exact over S6 fun s7 J7 => ⟨_, _, J7, q6⟩
          | ret u => obtain ⟨v6, σ6, H6, S6, r6, q6⟩ := q; exact over S6 fun s7 J7 => ⟨_, _, _, J7, r6, q6⟩
        · refine test ((PySem.W.exm_one (M := model X.prog X.w) J3.kIn look hit).here ?_)
          exact ih on
    exact go hh wish
  · cases f with
    | next => obtain ⟨σ2, H2, J2, r⟩ := q; exact wpAny_execs_nil ⟨σ2, H2, J2.ofTry okI, r⟩
    | brk => obtain ⟨σ2, H2, J2, r⟩ := q; exact ⟨σ2, H2, J2.ofTry okI, r⟩
    | cont => obtain ⟨σ2, H2, J2, r⟩ := q; exact ⟨σ2, H2, J2.ofTry okI, r⟩
    | ret u => obtain ⟨v, σ2, H2, J2, e, r⟩ := q; exact ⟨v, σ2, H2, J2.ofTry okI, e, r⟩
end Td
set_option maxHeartbeats 4000000
namespace Td
open PySem PySem.Spec PyProof.Rows L2
/-! ### isinstance of a caught error that has a dict -/
section
variable {prog : Program} {w : World} {A : Around} {E : Value → Shared → Prop} {s : Shared} {K : PySem.W.Frag} {x D : Addr} {ox : Obj} {od : Option Obj}
theorem find_data {C : Addr} {name : Str} {a g : Value} (hc : (PySem.W.clsIn K C).isSome = true) (ha : PySem.W.findIn K (.ref C) name = some (some a)) (hg : PySem.W.specialIn K a "__get__" = some (some g)) (ht : PySem.W.takesIn K a = some true) :
    PySem.W.findObj K C od name = some (.bind g a) := by
  obtain ⟨cd, e⟩ := Option.isSome_iff_exists.mp hc
  unfold PySem.W.findObj; rw [e, Option.bind_some, ha, Option.bind_some]
  simp [hg, ht]
theorem class_of_exc {Q : Option Value → Shared → Prop} (T : ExcC K D) (kin : K.In s.heap) (I : PySem.W.InstAt s.heap x ox D od) (h : Q (some (.ref D)) { s with toks := s.toks + 1 }) : wpAny (model prog w) A (getAttr? (.ref x) "__class__") Q E s := by
  have fnd : PySem.W.findObj K D od "__class__" = some (.bind (.builtin "getset_descriptor.__get__") (.builtin "object.__class__")) := find_data (by obtain ⟨cd, e, _⟩ := PySem.W.any_some T.hd; rw [e]; rfl) T.ha T.hn T.ht
  obtain ⟨hp, g, d, t, os⟩ := s
  have w0 := I.type (M := model prog w); have w1 := PySem.W.looks_findIn (M := model prog w) kin T.hg
  have w2 := PySem.W.looks_findIn (M := model prog w) kin T.hk; have w3 := PySem.W.looks_find (M := model prog w) kin I fnd
  have isE : PySem.W.Looks (model prog w) hp (isInstance (.ref x) (.type "BaseException")) true := w0.andThen (PySem.W.looks_subIn kin T.hs)
  have e0 : (Value.builtin "BaseException.__getattribute__" == Value.builtin "object.__getattribute__") = false := by decide +kernel
  have e1 : (onTheHeap (Value.ref D) && Value.builtin "BaseException.__getattribute__" == Value.builtin "object.__getattribute__") = false := by rw [e0]; rfl
  have e2 : (false && onTheHeap (Value.builtin "BaseException.__getattribute__")) = false := rfl
  unfold getAttr? getAttrBy? getAttrBy
  refine wpAny_bind (wpAny_mkText (wpAny_bind (wpAny_attempt (wpAny_holding (wpAny_bind (w0.at (wpAny_bind (w1.at ?_))))))))
  show wpAny _ _ (if (onTheHeap (Value.ref D) && Value.builtin "BaseException.__getattribute__" == Value.builtin "object.__getattribute__") = true then _ else _) _ _ _; rw [e1, if_neg Bool.false_ne_true]
  unfold getAttrByItsOwn hookBefore
  refine wpAny_bind ?_; rw [if_pos (show onTheHeap (Value.ref D) = true from rfl)]
  refine w2.at (wpAny_bind (wpAny_attempt (wpAny_holding ?_))); unfold callGetattribute; rw [e2, if_neg Bool.false_ne_true]
  unfold boundAndCalled; rw [PySem.F.excAttr_ValueError.ga.bind (.ref x)]
  refine wpAny_bind (wpAny_pure ?_); show wpAny _ _ (call (.builtin "BaseException.__getattribute__") [.ref x, .str "__class__" t]) _ _ _
  refine wpAny_call (codeAny_call_builtin PySem.F.excAttr_ValueError.ga.plain PySem.F.entry_bexc_ga (@PySem.W.check_slot (model prog w) _ _ ⟨hp, g, d, t + 1, os⟩ "BaseException.__getattribute__" "BaseException" "__getattribute__" (.ref x) [.str "__class__" t] [] _ (by decide +kernel) (by decide +kernel) isE (PySem.F.args_bexc_ga (.ref x) (.str "__class__" t)) ?_))
  unfold Builtin.«object.__getattribute__»
  refine wpAny_bind (wpAny_of_eq (a := ((Value.ref x : Value), [Value.str "__class__" t])) (by first | rfl | (simp only [slotArgs]; rfl)) (wpAny_bind (wpAny_pure (wpAny_bind (w0.at (wpAny_bind (w3.at ?_)))))))
  show wpAny _ _ (holding [Value.builtin "object.__class__"] (call (.builtin "getset_descriptor.__get__") [.builtin "object.__class__", .ref x, .ref D]) >>= ret) _ _ _
  refine wpAny_bind (wpAny_holding (wpAny_call (PySem.W.class_get (s := ⟨hp, g, d, t + 1, os⟩) (ox := ox) (od := od) kin I T.hm ?_)))
  refine wpAny_pure ?_; show wpAny _ _ (handedOut (.ref D)) _ _ _; rw [PySem.W.handedOut_of (v := .ref D) rfl]
  first | exact wpAny_pure (wpAny_pure h) | exact wpAny_pure h | exact wpAny_pure (wpAny_bind (wpAny_pure (wpAny_pure h)))
theorem kitx_excD (T : ExcC K D) : PySem.W.KitX K (.ref x) (.ref D) (fun h => PySem.W.InstAt h x ox D od) := by
  have Z := PySem.W.handS_kitx_exc (x := x) (ox := ox) T.hg T.hk T.hs T.hd T.ha T.hn T.ht T.hm
  obtain ⟨cdD, hcD, _⟩ := PySem.W.any_some T.hd
  have there : ∃ o, K.lookup D = some o ∧ ∃ z, o.data = .cls z := by
    unfold PySem.W.clsIn at hcD
    split at hcD
    · rename_i c' d' cd' sl' ho
      exact ⟨_, ho, cd', rfl⟩
    · cases hcD
  refine { ty := fun _ _ _ I => I.type, it := fun _ _ kin _ => ?_, ne := fun h tp dd its n sl kin at_ => ?_, ca := fun kin I k => class_of_exc T kin I k }
  · obtain ⟨o, ho, z, e⟩ := there
    intro A' Q' E' s' k q
    unfold isType loadHead
    refine wpAny_bind (wpAny_loadPart (k _ _ (kin _ _ ho)) (wpAny_pure ?_))
    rw [e]
    exact q
  · obtain ⟨o, ho, z, e⟩ := there
    refine Bool.eq_false_iff.mpr fun q => ?_
    have e2 : D = tp := Value.ref.inj (beq_iff_eq.mp q)
    subst e2
    have e3 := (kin _ _ ho).symm.trans at_
    cases e3
    cases e
end
/-- isinstance(e, c): c a class; isinstance(e, (c, ..)) -/
def rIsX (K : PySem.W.Frag) (a : Addr) (cls : Value) (d : Option Addr) : List V → Hp → VK → Prop := fun xs H Q => ∃ (D dd : Addr) (fs : List (Str × V)) (c u : _) (b : Bool), cls = .ref D ∧ ExcC K D ∧ d = some dd ∧ H dd = some (.xd fs) ∧ xs = [.ref a, c] ∧ ClsV c u ∧ PySem.W.kitOne K (.ref D) u = some b ∧ Q (.bl b) H
def rIsXT (K : PySem.W.Frag) (a : Addr) (cls : Value) (d : Option Addr) : List V → Hp → VK → Prop := fun xs H Q => ∃ (D dd tp : Addr) (fs : List (Str × V)) (cs : List V) (us : List Value) (b : Bool), cls = .ref D ∧ ExcC K D ∧ d = some dd ∧ H dd = some (.xd fs) ∧ xs = [.ref a, .ref tp] ∧
  H tp = some (.tup cs) ∧ Paired ClsV cs us ∧ PySem.W.kitAny K (.ref D) us = some b ∧ Q (.bl b) H
section
variable {X : Cx} {a : Addr} {oe : Obj} {cls : Value} {d : Option Addr} {pn : List (Addr × Obj)}
theorem inst_of {pins : List (Addr × Obj)} {σ : L2.St} {H : Hp} {s : Shared} {D dd : Addr} {fs : List (Str × V)} (I : Inv (X.suite a ((a, oe) :: pn)) pins σ H s) (hz : Zc (.ref D) (some dd) oe) (hf : ∃ vs, oe.data = .fields vs) (hd : H dd = some (.xd fs)) :
    ∃ od, PySem.W.InstAt s.heap a oe D (some od) := by
  obtain ⟨hget, _⟩ := I.pin (a, oe) (List.mem_append.mpr (.inl List.mem_cons_self))
  obtain ⟨vs, hv⟩ := hf
  obtain ⟨mA, hns, _⟩ := (show ObjOk X.prog X.w H s.heap dd (.xd fs) from I.hok dd _ hd)
  obtain ⟨od, ho, _⟩ := lookIn_ns hns
  exact ⟨od, hget, hz.1, by unfold PySem.W.notCls; rw [hv] <;> rfl, by rw [hz.2]; exact ho⟩
theorem call_isX (hz : Zc cls d oe) (hf : ∃ vs, oe.data = .fields vs) : CallR (X.suite a ((a, oe) :: pn)) (.builtin "isinstance") (rIsX X.K a cls d) := by
  intro pins s σ H xs us Q I r h
  obtain ⟨D, dd, fs, c, u, b, rfl, T, rfl, hd, rfl, kc, e, q⟩ := h
  obtain ⟨u1, u2, rfl, r1, r2⟩ := vals2 r
  cases r1
  have e2 := kc.eq r2
  subst e2
  obtain ⟨od, J⟩ := inst_of I hz hf hd
  exact PySem.W.kia_one (kitx_excD T) I.kIn J e (fun z => nomatch z) fun tk => ⟨.bl b, H, I.tok tk, rfl, q⟩
theorem call_isXT (hz : Zc cls d oe) (hf : ∃ vs, oe.data = .fields vs) : CallR (X.suite a ((a, oe) :: pn)) (.builtin "isinstance") (rIsXT X.K a cls d) := by
  intro pins s σ H xs us Q I r h
  obtain ⟨D, dd, tp, fs, cs, ws, b, rfl, T, rfl, hd, rfl, ht, pc, e, q⟩ := h
  obtain ⟨u1, u2, rfl, r1, r2⟩ := vals2 r
  cases r1
  cases r2
  obtain ⟨its, rv, hp, hl⟩ := I.tuple (SqT.of ht)
  have e2 := ClsV.all pc rv
  subst e2
  obtain ⟨od, J⟩ := inst_of I hz hf hd
  obtain ⟨⟨oc, odd, oda, osl⟩, h1, h2, n, h3⟩ := hp
  dsimp only at h2 h3
  subst h2; subst h3
  exact PySem.W.kia_tup (kitx_excD T) I.kIn J h1 e (fun z => nomatch z) fun tk => ⟨.bl b, H, I.tok tk, rfl, q⟩
end
end Td
set_option maxHeartbeats 4000000
namespace Td
open PySem PySem.Spec PyProof.Rows L2
/-! ### what the written part says of such a class, as a Bool -/
def keB (K : PySem.W.Frag) (C : Addr) : Bool := match K.lookup C with
  | some ⟨.type ty, _, .cls cd, sl⟩ => decide (ty = "type") && (decide (cd.mro = .ref C :: keTail) && (cd.hasDict && (!cd.hasDel && (match sl.toList with
    | [_, _, _, _, some (.builtin n), _] => decide (n = "LookupError.__new__")
    | _ => false))))
  | _ => false
theorem keB_ok {K : PySem.W.Frag} {C : Addr} (h : keB K C = true) : ∃ nm q N bs sn sub ab col dd k0 k1 k2 k3 k5, K.lookup C = some (keObj nm q C N bs sn sub ab col dd k0 k1 k2 k3 k5) := by
  unfold keB at h
  split at h
  · rename_i ty dd cd sl ho
    simp only [Bool.and_eq_true, decide_eq_true_eq, Bool.not_eq_true'] at h
    obtain ⟨rfl, hm, hd, hx, hs⟩ := h
    split at hs
    · rename_i k0 k1 k2 k3 n k5 hl
      obtain rfl : n = "LookupError.__new__" := of_decide_eq_true hs
      obtain ⟨nm, bs, mro, ns, qn, hdc, sn, sub, ab, col, del⟩ := cd
      dsimp only at hm hd hx
      subst hm hd hx
      obtain ⟨l⟩ := sl
      simp only at hl
      subst hl
      exact ⟨nm, qn, ns, bs, sn, sub, ab, col, dd, k0, k1, k2, k3, k5, ho⟩
    · cases hs
  · cases h
structure ErrT (K : PySem.W.Frag) (x : Str) : Prop where
  kx : KexC K (He.ga K x)
  xf : XfC K (He.ga K x)
  ec : ExcC K (He.ga K x)
  no : PySem.W.findIn K (.ref (He.ga K x)) "name" = some none
  iC : PySem.W.findIn K (.ref (He.ga K x)) "__init__" = some (some (.ref (He.ma K (He.ga K x) "__init__")))
  tI : PySem.W.typeIn K (.ref (He.ma K (He.ga K x) "__init__")) = some (.type "function")
  me : PySem.W.exmOne K (.ref (He.ga K x)) (.ref (He.ga K x)) = some true
def errB (K : PySem.W.Frag) (x : Str) : Bool := keB K (He.ga K x) && (decide (PySem.W.findIn K (.ref (He.ga K x)) "__setattr__" = some (some (.builtin "object.__setattr__"))) && (decide (PySem.W.subIn K (.ref (He.ga K x)) (.type "BaseException") = some true) &&
  (decide (PySem.W.typeIn K (.ref (He.ga K x)) = some (.type "type")) && (PySem.W.keepIn K (.ref (He.ga K x)) && (xfB K (He.ga K x) && (decide (PySem.W.findIn K (.ref (He.ga K x)) "__class__" = some (some (.builtin "object.__class__"))) &&
  (decide (PySem.W.specialIn K (.builtin "object.__class__") "__get__" = some (some (.builtin "getset_descriptor.__get__"))) && (decide (PySem.W.takesIn K (.builtin "object.__class__") = some true) && (decide (PySem.W.mroIn K (He.ga K x) (.type "object") = some true) &&
  (decide (PySem.W.findIn K (.ref (He.ga K x)) "name" = some none) && (decide (PySem.W.findIn K (.ref (He.ga K x)) "__init__" = some (some (.ref (He.ma K (He.ga K x) "__init__")))) && (decide (PySem.W.typeIn K (.ref (He.ma K (He.ga K x) "__init__")) = some (.type "function")) &&
  decide (PySem.W.exmOne K (.ref (He.ga K x)) (.ref (He.ga K x)) = some true)))))))))))))
theorem errB_ok {K : PySem.W.Frag} {x : Str} (h : errB K x = true) : ErrT K x := by
  unfold errB at h
  simp only [Bool.and_eq_true, decide_eq_true_eq] at h
  obtain ⟨h1, h2, h3, h4, h5, h6, h7, h8, h9, h10, h11, h12, h13, h14⟩ := h
  have X := xfB_ok h6
  exact ⟨⟨keB_ok h1, h2, h3, h4, h5⟩, X, ⟨X.ga, X.gg, X.exC, X.hdC, h7, h8, h9, h10⟩, h11, h12, h13, h14⟩
/-! ### its __init__ -/
def spErrI (C : Addr) : Sp := fun vs H Q _ => ∃ (a : Addr) (v : V), vs = [.ref a, v] ∧ H a = some (exo a C none) ∧ ∀ dx, H dx = none → dx ≠ a → Q .non (upd (upd H dx (exd dx [("name", v)])) a (exo a C (some dx)))
/-- raise C(v) ends so -/
theorem mk_end_k {C : Addr} {H : Hp} {Q : XK} {v : V} (h : ∀ d, H d = none → Q (.ref C) (some d) (upd H d (.xd [("name", v)]))) :
    ([v] : List V).length ≤ 1000 ∧ ∀ a, H a = none → spErrI C (.ref a :: ([v] ++ [])) (upd H a (exo a C none)) (fun u H2 => u = .non ∧ ∃ (d : Addr) (fs : List (Str × V)), H2 a = some (exo a C (some d)) ∧ H2 d = some (exd d fs) ∧ H d = none ∧ Q (.ref C) (some d) (upd (del H2 a) d (.xd fs))) (fun _ _ _ => False) := by
  refine ⟨by show 1 ≤ 1000; decide, fun a ha => ⟨a, v, rfl, upd_same, fun dx hd ne => ⟨rfl, dx, [("name", v)], upd_same, by rw [upd_ne ne]; exact upd_same, by rw [upd_ne ne] at hd; exact hd, ?_⟩⟩⟩
  rw [upd_ne ne] at hd
  have e : upd (del (upd (upd (upd H a (exo a C none)) dx (exd dx [("name", v)])) a (exo a C (some dx))) a) dx (.xd [("name", v)]) = upd H dx (.xd [("name", v)]) := by
    funext b
    by_cases hb : b = dx
    · rw [hb, upd_same, upd_same]
    · rw [upd_ne hb, upd_ne hb]
      by_cases hb2 : b = a
      · rw [hb2, del_same, ha]
      · rw [del_ne hb2, upd_ne hb2, upd_ne hb, upd_ne hb2]
  rw [e]
  exact h dx hd
end Td
set_option maxHeartbeats 4000000
namespace Td
open PySem PySem.Spec PyProof.Rows L2
/-! ### xs.count(x): texts, in a list, in a tuple -/
def eqT (x : Str) : Value → Bool
  | .str y _ => y == x
  | _ => false
theorem eqT_gives {x : Str} {t : Tok} : ∀ {us : List Value} {ss : List Str}, Vals (ss.map V.str) us → ∀ y ∈ us, MeetsSeq.EqGives y (.str x t) (eqT x y)
  | _, [], .nil => fun y hy => by cases hy
  | _, s :: ss, .cons r rr => fun y hy => by
    obtain ⟨tk, rfl⟩ := r
    rcases List.mem_cons.mp hy with e | e
    · rw [e]
      exact fun _ _ _ _ _ _ h => wpAny_eqBool_str h
    · exact eqT_gives rr y e
theorem eqT_count {x : Str} : ∀ {us : List Value} {ss : List Str}, Vals (ss.map V.str) us → us.countP (eqT x) = ss.count x
  | _, [], .nil => rfl
  | _, s :: ss, .cons r rr => by
    obtain ⟨tk, rfl⟩ := r
    have ih := eqT_count (x := x) rr
    rw [List.countP_cons, List.count_cons, ih] <;> rfl
section
variable {X : Cx}
def rCntS (K : PySem.W.Frag) : V → List V → Hp → VK → Prop := fun x xs H Q => ∃ (p : Addr) (ss : List Str) (k : Str), x = .ref p ∧ xs = [.str k] ∧ SqL K H p (ss.map V.str) ∧ Q (.int (ss.count k : Nat)) H
def rCntST (K : PySem.W.Frag) : V → List V → Hp → VK → Prop := fun x xs H Q => ∃ (p : Addr) (ss : List Str) (k : Str), x = .ref p ∧ xs = [.str k] ∧ SqT K H p (ss.map V.str) ∧ Q (.int (ss.count k : Nat)) H
theorem mt_countS : MtR X "list.count" (rCntS X.K) := by
  intro pins s σ H x xs v us Q I rx rxs h
  obtain ⟨p, ss, k, rfl, rfl, hs, q⟩ := h
  cases rx
  obtain ⟨u, rfl, t, rfl⟩ := rxs.one
  obtain ⟨its, rv, ⟨⟨c, dd, dt, sl⟩, n, ho, hc, _, hd⟩, _⟩ := I.list hs
  simp only at hc hd
  subst hc hd
  refine call_meets PySem.F.slot_list_count ⟨_, ho, rfl⟩ PySem.F.entry_list_count (PySem.F.args_list_count_2 _ _) (SeqAt.list_countAt p its.toArray n dd sl (.str k t) (eqT k)) ⟨ho, fun y hy => (eqT_gives rv y (by simpa using hy)).at _ _, ?_⟩
  refine ⟨.int (ss.count k : Nat), H, I.tok _, ⟨s.toks, ?_⟩, q⟩
  rw [← eqT_count (x := k) rv]
theorem mt_countST : MtR X "tuple.count" (rCntST X.K) := by
  intro pins s σ H x xs v us Q I rx rxs h
  obtain ⟨p, ss, k, rfl, rfl, hs, q⟩ := h
  cases rx
  obtain ⟨u, rfl, t, rfl⟩ := rxs.one
  obtain ⟨its, rv, ⟨⟨c, dd, dt, sl⟩, ho, hc, n, hd⟩, _⟩ := I.tuple hs
  simp only at hc hd
  subst hc hd
  refine call_meets PySem.F.slot_tuple_count ⟨_, ho, rfl⟩ PySem.F.entry_tuple_count (PySem.F.args_tuple_count_2 _ _) (SeqAt.tuple_countAt p its.toArray n dd sl (.str k t) (eqT k)) ⟨ho, fun y hy => (eqT_gives rv y (by simpa using hy)).at _ _, ?_⟩
  refine ⟨.int (ss.count k : Nat), H, I.tok _, ⟨s.toks, ?_⟩, q⟩
  rw [← eqT_count (x := k) rv]
end
end Td
set_option maxHeartbeats 4000000
namespace Td
open PySem PySem.Spec PyProof.Rows L2
/-! ### counts and crowds: the promises -/
def rm (p : List Str) : Str := p.getD 1 ""
def crN (rooms : List Str) (places : List (List Str)) : List Int := rooms.map fun r => (((places.map rm).count r : Nat) : Int)
def coN (rooms faces : List Str) (places : List (List Str)) : List Int := rooms.map fun r => ((faces.count r : Nat) : Int) - (((places.map rm).count r : Nat) : Int)
def spCrowd (f : List Str → List (List Str) → List Int) : Sp := fun vs H Q _ => ∃ (h st : Addr) (rooms : List Str) (rows : List (List Str)) (faces : List Str) (places : List (List Str)), vs = [.ref h, .ref st] ∧ HS H h rooms rows ∧ HallV rooms rows ∧ HS H st faces places ∧ StV rooms rows faces places ∧
  ∀ p H', Same H H' → H' p = some (.tup ((f rooms places).map V.int)) → Q (.ref p) H'
def spCounts : Sp := fun vs H Q _ => ∃ (h st : Addr) (rooms : List Str) (rows : List (List Str)) (faces : List Str) (places : List (List Str)), vs = [.ref h, .ref st] ∧ HS H h rooms rows ∧ HallV rooms rows ∧ HS H st faces places ∧ StV rooms rows faces places ∧
  ∀ p H', Same H H' → H' p = some (.tup ((coN rooms faces places).map V.int)) → Q (.ref p) H'
/-- the walker's room -/
def rmOf (places : List (List Str)) (x : Str) : Option Str := (places.find? fun p => p.headD "" == x).map rm
def spRoomOf (C : Addr) : Sp := fun vs H Q E => ∃ (st : Addr) (x : Str) (faces : List Str) (places : List (List Str)), vs = [.ref st, .str x] ∧ HS H st faces places ∧ (∀ p ∈ places, ∃ w r : Str, p = [w, r]) ∧
  (∀ r, rmOf places x = some r → ∀ H', Same H H' → Q (.str r) H') ∧ (rmOf places x = none → ∀ H', Same H H' → ∀ d, H' d = none → E (.ref C) (some d) (upd H' d (.xd [("name", .str x)])))
/-- the walker can pass the door -/
def WayOk (rows : List (List Str)) (faces : List Str) (places : List (List Str)) (w n : Str) : Prop := ∃ (i : Nat) (r a b : Str), rows[i]? = some [n, a, b] ∧ faces[i]? = some r ∧ [w, r] ∈ places
def spPassed : Sp := fun vs H Q _ => ∃ (h st : Addr) (w n : Str) (rooms : List Str) (rows : List (List Str)) (faces : List Str) (places : List (List Str)), vs = [.ref h, .ref st, .str w, .str n] ∧ HS H h rooms rows ∧ HallV rooms rows ∧ HS H st faces places ∧ StV rooms rows faces places ∧
  WayOk rows faces places w n ∧ ∀ p faces' places' H', Same H H' → HS H' p faces' places' → StV rooms rows faces' places' → Q (.ref p) H'
def spDeeds : Sp := fun vs H Q _ => ∃ (h st : Addr) (rooms : List Str) (rows : List (List Str)) (faces : List Str) (places : List (List Str)), vs = [.ref h, .ref st] ∧ HS H h rooms rows ∧ HallV rooms rows ∧ HS H st faces places ∧ StV rooms rows faces places ∧
  ∀ p (as : List Addr) (ws : List (List Str)) H', Same H H' → H' p = some (.lst (as.map V.ref)) → RowsAt H' as ws → ws.length ≤ 60 → (∀ x ∈ ws, ∃ w n : Str, x = [w, n] ∧ WayOk rows faces places w n) → Q (.ref p) H'
def spWalk : Sp := fun vs H Q _ => ∃ (b h st : Addr) (m : Int) (rooms : List Str) (rows : List (List Str)) (faces : List Str) (places : List (List Str)), vs = [.ref b, .ref h, .ref st, .int m] ∧ Box H b ∧ HS H h rooms rows ∧ HallV rooms rows ∧ HS H st faces places ∧ StV rooms rows faces places ∧ 0 ≤ m ∧ m ≤ 40 ∧
  ∀ p row s2 faces' places' H', H' p = some (.tup [.ref row, .ref s2]) → HS H' s2 faces' places' → StV rooms rows faces' places' → Box H' b → Ch b H H' → Q (.ref p) H'
def spRight7 : Sp := fun vs H Q _ => ∃ (h st : Addr) (rooms : List Str) (rows : List (List Str)) (faces : List Str) (places : List (List Str)), vs = [.ref h, .ref st] ∧ HS H h rooms rows ∧ HallV rooms rows ∧ HS H st faces places ∧ StV rooms rows faces places ∧
  ∀ H', Same H H' → Q (.bl true) H'
def spUnknown : Sp := fun vs H Q _ => ∃ (st : Addr) (x : Str) (faces : List Str) (places : List (List Str)), vs = [.ref st, .str x] ∧ HS H st faces places ∧ (∀ p ∈ places, ∃ w r : Str, p = [w, r]) ∧ rmOf places x = none ∧ ∀ H', Same H H' → Q (.str x) H'
def spFree : Sp := fun vs H Q _ => ∃ (l : Addr) (ts : List Str), vs = [.ref l] ∧ H l = some (.lst (ts.map V.str)) ∧ ∀ p (ss : List Str) H', Same H H' → H' p = some (.lst (ss.map V.str)) → ss.length ≤ 15 → (∀ x ∈ ss, x ∉ ts) → Q (.ref p) H'
def spStrange : Sp := fun vs H Q _ => ∃ (b h st l : Addr) (rooms : List Str) (rows : List (List Str)) (faces : List Str) (places : List (List Str)) (ts : List Str), vs = [.ref b, .ref h, .ref st, .ref l] ∧ Box H b ∧ HS H h rooms rows ∧ HallV rooms rows ∧ HS H st faces places ∧ StV rooms rows faces places ∧
  H l = some (.lst (ts.map V.str)) ∧ b ≠ l ∧ ∀ p (ss : List Str) H', H' p = some (.lst (ss.map V.str)) → ss.length ≤ 60 → (∀ x ∈ ss, x ∉ ts) → Box H' b → Ch b H H' → Q (.ref p) H'
/-! ### a def that may raise, and its calls -/
def CalX (P : Program) (w : World) (K : PySem.W.Frag) (mg : Str → Option Value) (base : Heap) (k : Nat) (x : Str) (sp : Sp) : Prop := ∃ (f : Addr) (fd : FuncData) (ps : List Str), FnOk P w K mg base (L2.CX P w) k f fd ps sp ∧ mg x = some (.ref f) ∧ PySem.W.keepIn K (.ref f) = true ∧ Binds K fd ps []
/-- an error class: what is said of it, its global, its __init__ -/
structure ErrM (P : Program) (w : World) (K : PySem.W.Frag) (mg : Str → Option Value) (base : Heap) (x : Str) : Prop where
  t : ErrT K x
  g : mg x = some (.ref (He.ga K x))
  i : ∃ (fd : FuncData) (ps : List Str), FnOk P w K mg base C8.CX0 1 (He.ma K (He.ga K x) "__init__") fd ps (spErrI (He.ga K x)) ∧ Binds K fd ps []
section
variable {X : Cx} {x : Str} {p pos : Pos} {e : Expr} {es : List Expr} {t : TA} {sp : Sp} {E : L2.St → XK}
theorem pe_cX {j k : Nat} (c : CalX X.prog X.w X.K X.mg X.base j x sp) (hr : Room k X.A) (hj : j ≤ k) (hx : ∀ σ, PassesAt (L2.CX X.prog X.w) X σ (E σ)) (hg : Gl X x) (ha : PA X (e :: es) t) (hdb : (x == ("__debug__" : Str)) = false := by decide)
    (he : starEach (e :: es) X.env = (false, eval e X.env) :: starEach es X.env := by rfl) (hpl : (backTo pos (starEach es X.env)).any (·.1) = false := by rfl) : PE X (.Call (.Name x p) (e :: es) [] pos) (tCallS sp E t) := by
  refine ⟨fun pins s σ H Q I h => ?_⟩
  obtain ⟨f, fd, ps, F, hm, hk, hb⟩ := c
  exact (pe_callS F (hr.mono hj) hg hm hk hb hx ha hdb he hpl).run pins s σ H Q I h
/-- where it does not raise -/
theorem passF {σ : L2.St} : PassesAt (L2.CX X.prog X.w) X σ (fun _ _ _ => False) := fun _ _ _ _ _ _ ⟨_, _, _, _, _, _, _, _, _, _, _, _, z⟩ => z.elim
theorem pmk_err {k : Nat} (M : ErrM X.prog X.w X.K X.mg X.base x) (hr : Room k X.A) (hk : 2 ≤ k) (hg : Gl X x) (ha : PA X (e :: es) t) (hdb : (x == ("__debug__" : Str)) = false := by decide)
    (he : starEach (e :: es) X.env = (false, eval e X.env) :: starEach es X.env := by rfl) (hpl : (backTo pos (starEach es X.env)).any (·.1) = false := by rfl) :
    PMk X (.Call (.Name x p) (e :: es) [] pos) (tMkO (He.ga X.K x) (spErrI (He.ga X.K x)) [] t) := by
  obtain ⟨fd, ps, F, hb⟩ := M.i
  exact pmk_kex (CX := C8.CX0) M.t.kx M.t.iC M.t.tI F (hr.mono hk) hb C8.pass0 hg M.g ha hdb he hpl
end
end Td
set_option maxHeartbeats 4000000
namespace Td
open PySem PySem.Spec PyProof.Rows L2
/-! ### an own class over ValueError with its own __init__, one field -/
def veB (K : PySem.W.Frag) (C : Addr) : Bool := match K.lookup C with
  | some ⟨.type ty, _, .cls cd, sl⟩ => decide (ty = "type") && (cd.hasDict && (!cd.hasDel && (match cd.mro, sl.toList with
    | .ref C' :: bm, [_, _, _, _, some (.builtin n), _] => decide (C' = C) && (decide (n = "ValueError.__new__") && PySem.HandSPX.refsVE bm)
    | _, _ => false)))
  | _ => false
theorem veB_ok {K : PySem.W.Frag} {C : Addr} (h : veB K C = true) : ∃ nm q N bs bm sn sub ab col dd k0 k1 k2 k3 k5, K.lookup C = some (excClassObj nm q C N bs bm true sn sub ab col dd k0 k1 k2 k3 k5 "ValueError.__new__") ∧ PySem.HandSPX.refsVE bm = true := by
  unfold veB at h
  split at h
  · rename_i ty dd cd sl ho
    simp only [Bool.and_eq_true, decide_eq_true_eq, Bool.not_eq_true'] at h
    obtain ⟨rfl, hd, hx, hs⟩ := h
    split at hs
    · rename_i C' bm k0 k1 k2 k3 n k5 hm hl
      simp only [Bool.and_eq_true, decide_eq_true_eq] at hs
      obtain ⟨rfl, rfl, hr⟩ := hs
      obtain ⟨nm, bs, mro, ns, qn, hdc, sn, sub, ab, col, del⟩ := cd
      dsimp only at hm hd hx
      subst hm hd hx
      obtain ⟨l⟩ := sl
      simp only at hl
      subst hl
      exact ⟨nm, qn, ns, bs, bm, sn, sub, ab, col, dd, k0, k1, k2, k3, k5, ho, hr⟩
    · cases hs
  · cases h
structure ErrV (K : PySem.W.Frag) (x fl : Str) : Prop where
  ox : OexC K (He.ga K x)
  xf : XfC K (He.ga K x)
  no : PySem.W.findIn K (.ref (He.ga K x)) fl = some none
  iC : PySem.W.findIn K (.ref (He.ga K x)) "__init__" = some (some (.ref (He.ma K (He.ga K x) "__init__")))
  tI : PySem.W.typeIn K (.ref (He.ma K (He.ga K x) "__init__")) = some (.type "function")
  me : PySem.W.exmOne K (.ref (He.ga K x)) (.ref (He.ga K x)) = some true
def errVB (K : PySem.W.Frag) (x fl : Str) : Bool := veB K (He.ga K x) && (decide (PySem.W.findIn K (.ref (He.ga K x)) "__setattr__" = some (some (.builtin "object.__setattr__"))) && (decide (PySem.W.subIn K (.ref (He.ga K x)) (.type "BaseException") = some true) &&
  (decide (PySem.W.typeIn K (.ref (He.ga K x)) = some (.type "type")) && (PySem.W.keepIn K (.ref (He.ga K x)) && (xfB K (He.ga K x) && (decide (PySem.W.findIn K (.ref (He.ga K x)) fl = some none) &&
  (decide (PySem.W.findIn K (.ref (He.ga K x)) "__init__" = some (some (.ref (He.ma K (He.ga K x) "__init__")))) && (decide (PySem.W.typeIn K (.ref (He.ma K (He.ga K x) "__init__")) = some (.type "function")) &&
  decide (PySem.W.exmOne K (.ref (He.ga K x)) (.ref (He.ga K x)) = some true)))))))))
theorem errVB_ok {K : PySem.W.Frag} {x fl : Str} (h : errVB K x fl = true) : ErrV K x fl := by
  unfold errVB at h
  simp only [Bool.and_eq_true, decide_eq_true_eq] at h
  obtain ⟨h1, h2, h3, h4, h5, h6, h7, h8, h9, h10⟩ := h
  exact ⟨⟨veB_ok h1, h2, h3, h4, h5⟩, xfB_ok h6, h7, h8, h9, h10⟩
def spErrV (C : Addr) (fl : Str) : Sp := fun vs H Q _ => ∃ (a : Addr) (v : V), vs = [.ref a, v] ∧ H a = some (exo a C none) ∧ ∀ dx, H dx = none → dx ≠ a → Q .non (upd (upd H dx (exd dx [(fl, v)])) a (exo a C (some dx)))
theorem mk_end_v {C : Addr} {fl : Str} {H : Hp} {Q : XK} {v : V} (h : ∀ d, H d = none → Q (.ref C) (some d) (upd H d (.xd [(fl, v)]))) :
    ([v] : List V).length ≤ 1000 ∧ ∀ a, H a = none → spErrV C fl (.ref a :: ([v] ++ [])) (upd H a (exo a C none)) (fun u H2 => u = .non ∧ ∃ (d : Addr) (fs : List (Str × V)), H2 a = some (exo a C (some d)) ∧ H2 d = some (exd d fs) ∧ H d = none ∧ Q (.ref C) (some d) (upd (del H2 a) d (.xd fs))) (fun _ _ _ => False) := by
  refine ⟨by show 1 ≤ 1000; decide, fun a ha => ⟨a, v, rfl, upd_same, fun dx hd ne => ⟨rfl, dx, [(fl, v)], upd_same, by rw [upd_ne ne]; exact upd_same, by rw [upd_ne ne] at hd; exact hd, ?_⟩⟩⟩
  rw [upd_ne ne] at hd
  have e : upd (del (upd (upd (upd H a (exo a C none)) dx (exd dx [(fl, v)])) a (exo a C (some dx))) a) dx (.xd [(fl, v)]) = upd H dx (.xd [(fl, v)]) := by
    funext b
    by_cases hb : b = dx
    · rw [hb, upd_same, upd_same]
    · rw [upd_ne hb, upd_ne hb]
      by_cases hb2 : b = a
      · rw [hb2, del_same, ha]
      · rw [del_ne hb2, upd_ne hb2, upd_ne hb, upd_ne hb2]
  rw [e]
  exact h dx hd
structure ErrMV (P : Program) (w : World) (K : PySem.W.Frag) (mg : Str → Option Value) (base : Heap) (x fl : Str) : Prop where
  t : ErrV K x fl
  g : mg x = some (.ref (He.ga K x))
  i : ∃ (fd : FuncData) (ps : List Str), FnOk P w K mg base C8.CX0 1 (He.ma K (He.ga K x) "__init__") fd ps (spErrV (He.ga K x) fl) ∧ Binds K fd ps []
theorem pmk_errV {X : Cx} {x fl : Str} {p pos : Pos} {e : Expr} {es : List Expr} {t : TA} {k : Nat} (M : ErrMV X.prog X.w X.K X.mg X.base x fl) (hr : Room k X.A) (hk : 2 ≤ k) (hg : Gl X x) (ha : PA X (e :: es) t) (hdb : (x == ("__debug__" : Str)) = false := by decide)
    (he : starEach (e :: es) X.env = (false, eval e X.env) :: starEach es X.env := by rfl) (hpl : (backTo pos (starEach es X.env)).any (·.1) = false := by rfl) :
    PMk X (.Call (.Name x p) (e :: es) [] pos) (tMkO (He.ga X.K x) (spErrV (He.ga X.K x) fl) [] t) := by
  obtain ⟨fd, ps, F, hb⟩ := M.i
  exact pmk_oex (CX := C8.CX0) (ds := []) (dvs := []) M.t.ox M.t.iC M.t.tI F (hr.mono hk) hb .nil C8.pass0 hg M.g ha hdb he hpl
end Td
set_option maxHeartbeats 4000000
namespace Td
open PySem PySem.Spec PyProof.Rows L2
section
variable {P : Program} {w : World} {K : PySem.W.Frag} {mg : Str → Option Value} {base : Heap} {f : Addr} {fd : FuncData}
theorem ok_er {x q : Str} {st : Stmt} (T : ErrT K x) (sc : FnScope ["self", "name"] ["self", "name"] (defScope st))
    (wk : ∀ (cdv : Value) (A : Around) (outer : List Env) (s : Shared) (H : Hp) (E : XK), PSs (cxOf C8.CX0 P w K mg base ["self", "name"] q (defScope st) f cdv A outer s H E) (defBody st) (tKst K "name" (tVar 0) (tVar 1)))
    (F : FunD K "__init__" q (defArgs st) (defBody st) (defScope st) [] [] f fd) : FnOk P w K mg base C8.CX0 1 f fd ["self", "name"] (spErrI (He.ga K x)) := by
  refine F.ok sc (fun vs H Q E h => ?_) (fun cdv A outer s H vs Q E hr h => ?_)
  · obtain ⟨a, v, rfl, ha, q⟩ := h
    rfl
  obtain ⟨a, v, rfl, ha, q⟩ := h
  exact ⟨_, wk cdv A outer s H E, _, rfl, _, rfl, a, He.ga K x, rfl, T.kx, T.no, ha, fun dx hd ne => q dx hd ne⟩
theorem ok_ev {x q fl : Str} {st : Stmt} (T : ErrV K x fl) (sc : FnScope ["self", fl] ["self", fl] (defScope st))
    (wk : ∀ (cdv : Value) (A : Around) (outer : List Env) (s : Shared) (H : Hp) (E : XK), PSs (cxOf C8.CX0 P w K mg base ["self", fl] q (defScope st) f cdv A outer s H E) (defBody st) (tOst K fl (tVar 0) (tVar 1)))
    (F : FunD K "__init__" q (defArgs st) (defBody st) (defScope st) [] [] f fd) : FnOk P w K mg base C8.CX0 1 f fd ["self", fl] (spErrV (He.ga K x) fl) := by
  refine F.ok sc (fun vs H Q E h => ?_) (fun cdv A outer s H vs Q E hr h => ?_)
  · obtain ⟨a, v, rfl, ha, q⟩ := h
    rfl
  obtain ⟨a, v, rfl, ha, q⟩ := h
  exact ⟨_, wk cdv A outer s H E, _, rfl, _, rfl, a, He.ga K x, rfl, T.ox, T.no, .inl ⟨ha, fun dx hd ne => q dx hd ne⟩⟩
end
end Td
set_option maxHeartbeats 4000000
namespace Td
open PySem PySem.Spec PyProof.Rows L2
/-! ### an own class over ValueError with its own __init__, two fields -/
structure ErrV2 (K : PySem.W.Frag) (x f1 f2 : Str) : Prop where
  v : ErrV K x f1
  no2 : PySem.W.findIn K (.ref (He.ga K x)) f2 = some none
def errV2B (K : PySem.W.Frag) (x f1 f2 : Str) : Bool := errVB K x f1 && decide (PySem.W.findIn K (.ref (He.ga K x)) f2 = some none)
theorem errV2B_ok {K : PySem.W.Frag} {x f1 f2 : Str} (h : errV2B K x f1 f2 = true) : ErrV2 K x f1 f2 := by
  unfold errV2B at h
  simp only [Bool.and_eq_true, decide_eq_true_eq] at h
  exact ⟨errVB_ok h.1, h.2⟩
def spErrV2 (C : Addr) (f1 f2 : Str) : Sp := fun vs H Q _ => ∃ (a : Addr) (v u : V), vs = [.ref a, v, u] ∧ H a = some (exo a C none) ∧ ∀ dx, H dx = none → dx ≠ a → Q .non (upd (upd (upd H dx (exd dx [(f1, v)])) a (exo a C (some dx))) dx (exd dx [(f2, u), (f1, v)]))
theorem mk_end_v2 {C : Addr} {f1 f2 : Str} {H : Hp} {Q : XK} {v u : V} (h : ∀ d, H d = none → Q (.ref C) (some d) (upd H d (.xd [(f2, u), (f1, v)]))) :
    ([v, u] : List V).length ≤ 1000 ∧ ∀ a, H a = none → spErrV2 C f1 f2 (.ref a :: ([v, u] ++ [])) (upd H a (exo a C none)) (fun z H2 => z = .non ∧ ∃ (d : Addr) (fs : List (Str × V)), H2 a = some (exo a C (some d)) ∧ H2 d = some (exd d fs) ∧ H d = none ∧ Q (.ref C) (some d) (upd (del H2 a) d (.xd fs))) (fun _ _ _ => False) := by
  refine ⟨by show 2 ≤ 1000; decide, fun a ha => ⟨a, v, u, rfl, upd_same, fun dx hd ne => ⟨rfl, dx, [(f2, u), (f1, v)], by rw [upd_ne ne.symm]; exact upd_same, upd_same, by rw [upd_ne ne] at hd; exact hd, ?_⟩⟩⟩
  rw [upd_ne ne] at hd
  have e : upd (del (upd (upd (upd (upd H a (exo a C none)) dx (exd dx [(f1, v)])) a (exo a C (some dx))) dx (exd dx [(f2, u), (f1, v)])) a) dx (.xd [(f2, u), (f1, v)]) = upd H dx (.xd [(f2, u), (f1, v)]) := by
    funext b
    by_cases hb : b = dx
    · rw [hb, upd_same, upd_same]
    · rw [upd_ne hb, upd_ne hb]
      by_cases hb2 : b = a
      · rw [hb2, del_same, ha]
      · rw [del_ne hb2, upd_ne hb, upd_ne hb2, upd_ne hb, upd_ne hb2]
  rw [e]
  exact h dx hd
structure ErrMV2 (P : Program) (w : World) (K : PySem.W.Frag) (mg : Str → Option Value) (base : Heap) (x f1 f2 : Str) : Prop where
  t : ErrV2 K x f1 f2
  g : mg x = some (.ref (He.ga K x))
  i : ∃ (fd : FuncData) (ps : List Str), FnOk P w K mg base C8.CX0 1 (He.ma K (He.ga K x) "__init__") fd ps (spErrV2 (He.ga K x) f1 f2) ∧ Binds K fd ps []
theorem pmk_errV2 {X : Cx} {x f1 f2 : Str} {p pos : Pos} {e : Expr} {es : List Expr} {t : TA} {k : Nat} (M : ErrMV2 X.prog X.w X.K X.mg X.base x f1 f2) (hr : Room k X.A) (hk : 2 ≤ k) (hg : Gl X x) (ha : PA X (e :: es) t) (hdb : (x == ("__debug__" : Str)) = false := by decide)
    (he : starEach (e :: es) X.env = (false, eval e X.env) :: starEach es X.env := by rfl) (hpl : (backTo pos (starEach es X.env)).any (·.1) = false := by rfl) :
    PMk X (.Call (.Name x p) (e :: es) [] pos) (tMkO (He.ga X.K x) (spErrV2 (He.ga X.K x) f1 f2) [] t) := by
  obtain ⟨fd, ps, F, hb⟩ := M.i
  exact pmk_oex (CX := C8.CX0) (ds := []) (dvs := []) M.t.v.ox M.t.v.iC M.t.v.tI F (hr.mono hk) hb .nil C8.pass0 hg M.g ha hdb he hpl
section
variable {P : Program} {w : World} {K : PySem.W.Frag} {mg : Str → Option Value} {base : Heap} {f : Addr} {fd : FuncData}
theorem ok_ev2 {x q f1 f2 : Str} {st : Stmt} (T : ErrV2 K x f1 f2) (sc : FnScope ["self", f1, f2] ["self", f1, f2] (defScope st))
    (wk : ∀ (cdv : Value) (A : Around) (outer : List Env) (s : Shared) (H : Hp) (E : XK), PSs (cxOf C8.CX0 P w K mg base ["self", f1, f2] q (defScope st) f cdv A outer s H E) (defBody st) (fun D => tOst K f1 (tVar 0) (tVar 1) { D with nx := fun σ H => tOst K f2 (tVar 0) (tVar 2) D σ H }))
    (F : FunD K "__init__" q (defArgs st) (defBody st) (defScope st) [] [] f fd) : FnOk P w K mg base C8.CX0 1 f fd ["self", f1, f2] (spErrV2 (He.ga K x) f1 f2) := by
  refine F.ok sc (fun vs H Q E h => ?_) (fun cdv A outer s H vs Q E hr h => ?_)
  · obtain ⟨a, v, u, rfl, ha, q⟩ := h
    rfl
  obtain ⟨a, v, u, rfl, ha, q⟩ := h
  refine ⟨_, wk cdv A outer s H E, _, rfl, _, rfl, a, He.ga K x, rfl, T.v.ox, T.v.no, .inl ⟨ha, fun dx hd ne => ?_⟩⟩
  exact ⟨_, rfl, _, rfl, a, He.ga K x, rfl, T.v.ox, T.no2, .inr ⟨dx, [(f1, v)], upd_same, by rw [upd_ne ne]; exact upd_same, by show 1 ≤ 900; decide, q dx hd ne⟩⟩
end
end Td
set_option maxHeartbeats 4000000
namespace Td
open PySem PySem.Spec PyProof.Rows L2
/-! ### a def that is called where no repr is under way -/
structure FnG (P : Program) (w : World) (K : PySem.W.Frag) (mg : Str → Option Value) (base : Heap) (CX : CXT) (k : Nat) (f : Addr) (fd : FuncData) (ps : List Str) (sp : Sp) : Prop where
  len : ∀ vs H Q E, sp vs H Q E → vs.length = ps.length
  run : ∀ (A : Around) (outer : List Env) (s : Shared) (H : Hp) (args : Args) (us : List Value) (vs : List V) (Q : VK) (E : XK), A.guards = some [] → Room k A → Env0 P w K mg base A outer s H → BindsTo s fd args (ps.zip us) → Vals vs us → sp vs H Q E →
    codeAny (model P w) A (.call (.ref f) args) (CR CX outer P w H s Q E) s
theorem okG {P : Program} {w : World} {K : PySem.W.Frag} {mg : Str → Option Value} {base : Heap} {CX : CXT} {N ps : List Str} {k : Nat} {sp : Sp} {x qual : Str} {params : Arguments} {body : List Stmt} {scope : Scope} {dvs : List V} {kws : List (Str × V)} {f : Addr} {fd : FuncData}
    (F : FunD K x qual params body scope dvs kws f fd) (S : FnScope N ps scope) (len : ∀ vs H Q E, sp vs H Q E → vs.length = ps.length)
    (walk : ∀ (cdv : Value) (A : Around) (outer : List Env) (s : Shared) (H : Hp) (vs : List V) (Q : VK) (E : XK), A.guards = some [] → Room k (A.deeper (envOfC qual scope s.heap.objs.size f cdv)) → sp vs H Q E →
      ∃ t, PSs (cxOf CX P w K mg base N qual scope f cdv A outer s H E) body t ∧ t { nx := fun _ H' => Q .non H', rt := Q } (start N vs) H) : FnG P w K mg base CX (k + 1) f fd ps sp := by
  obtain ⟨oc, od, dV, kV, doc, pm, an, cdv, ct, osl, rfl, lk, hcd, _, _⟩ := F.ex
  refine ⟨len, fun A outer s H args us vs Q E gd hr e0 hb r hsp => ?_⟩
  have ln := len _ _ _ _ hsp
  have kin : K.In s.heap := e0.mod.kin.keeps fun b o e => (e0.bs b o e).1
  have lim : s.heap.NoLimit := e0.mod.nolimit.keeps fun b o e => (e0.bs b o e).1
  have kinds : ∀ y ∈ ps.zip us, scope.names.lookup y.1 = some .local ∨ (scope.names.lookup y.1 = some .cell ∧ ((cellsFrom (s.heap.objs.size + 1) scope.names []).lookup y.1).isSome = true) := fun ⟨n, v⟩ hy =>
    (S.par n (List.of_mem_zip hy).1).elim .inl fun q => .inr ⟨q, PySem.W.cellsFrom_some _ _ _ (.inl q)⟩
  refine codeAny_call_function hr.depth (kin _ _ lk) rfl S.co S.gen rfl (PySem.W.codeRec_of kin hcd) (hb _ _ _ _ (wpAny_newFunctionEnv_cells S.kind kinds fun env he s1 xx => ?_))
  subst he
  refine ⟨lim.keeps xx.toInCall.keep, codeAny_func ?_⟩
  obtain ⟨t, ht, hq⟩ := walk cdv A outer s H vs Q E gd (hr.deeper _) hsp
  have I : Inv (cxOf CX P w K mg base N qual scope f cdv A outer s H E) [] (start N vs) H s1 := inv_start S hr.hd e0 ln r xx
  refine wpAny_mono (ht.run [] s1 (start N vs) H _ I hq) (fun fl s2 z => ?_) fun e s2 z => z
  cases fl with
  | ret u => obtain ⟨v, σ2, H2, J, rv, q⟩ := z; exact ⟨v, H2, J.os, J.bare, J.base, J.hok, rv, q⟩
  | next => obtain ⟨σ2, H2, J, q⟩ := z; exact ⟨.non, H2, J.os, J.bare, J.base, J.hok, rfl, q⟩
  | brk => obtain ⟨_, _, _, q⟩ := z; exact q.elim
  | cont => obtain ⟨_, _, _, q⟩ := z; exact q.elim
/-! ### the law's own call -/
theorem law_callG {P : Program} {w : World} {K : PySem.W.Frag} {mg mb : Str → Option Value} {CX : CXT} {k : Nat} {fa a : Addr} {fd : FuncData} {x : Str} {sp : Sp} {s1 : Shared} {vs : List Value} {ns : List Int}
    (kx : K.In s1.heap) (hns : s1.heap.Ns mainGlobals mg) (hb : s1.heap.Ns builtinsNs mb) (hbb : ∀ x : Str, x ≠ "__name__" → mb x = bootBuiltins x) (lim : s1.heap.NoLimit) (hg : s1.gens = #[])
    (ha : s1.heap.get? a = some { cls := .type "list", data := .seq vs.toArray }) (hi : IntsAre vs ns) (hl : ns.length ≤ sizeLine) (hr : Room k callerA)
    (F : ∀ base : Heap, K.In base → base.Ns mainGlobals mg → FnG P w K mg base CX k fa fd [x] sp) (bind : ∀ (s : Shared) (u : Value), BindsTo s fd ⟨[u], []⟩ [(x, u)])
    (hsp : ∀ H : Hp, Only H → SqL K H a (ns.map V.int) → sp [.ref a] H (fun v _ => v = .bl true) fun _ _ _ => False) (hCX : ∀ H e s', CX [] H s1 (fun _ _ _ => False) e s' → False) :
    codeAny (model P w) callerA (.call (.ref fa) ⟨[.ref a], []⟩) (fun r s' => r = .ok (.ret (.bool true)) ∧ OldK s1.heap s'.heap ∧ s'.os = s1.os ∧ AllBare s'.gens) s1 := by
  have rv := vals_ints hi
  have core : ∀ H : Hp, Only H → SqL K H a (ns.map V.int) → HOk P w H s1.heap → (∀ b, H b ≠ none → b = a) → (H a ≠ none → K.lookup a = none) →
      codeAny (model P w) callerA (.call (.ref fa) ⟨[.ref a], []⟩) (fun r s' => r = .ok (.ret (.bool true)) ∧ OldK s1.heap s'.heap ∧ s'.os = s1.os ∧ AllBare s'.gens) s1 := by
    intro H only hS hok alone hK
    have up : ∀ {b : Addr} {o : Obj}, s1.heap.get? b = some o → H b = none → (hidT s1.heap H).get? b = some o := fun e n => hidT_get e n
    have noD : ∀ {b : Addr} {o : Obj} {es : Array DictEntry} {ep : Nat}, s1.heap.get? b = some o → o.data = .dict es ep → H b = none := fun {b o es ep} e d => by
      refine Classical.byContradiction fun z => ?_
      obtain rfl := alone b z
      rw [ha] at e; cases e <;> cases d
    have ns' : ∀ {b : Addr} {m : Str → Option Value}, s1.heap.Ns b m → (hidT s1.heap H).Ns b m := fun {b m} ⟨o, es, ep, e, d, r⟩ => ⟨o, es, ep, up e (noD e d), d, r⟩
    have kb : K.In (hidT s1.heap H) := fun b o e => up (kx b o e) (Classical.byContradiction fun z => by
      obtain rfl := alone b z
      rw [hK z] at e; cases e)
    have hM : Mod K mg (hidT s1.heap H) := ⟨kb, ns' hns, ⟨mb, ns' hb, hbb⟩, lim.elim fun mc h => ⟨mc, ns' h.1, h.2⟩⟩
    have e0 : Env0 P w K mg (hidT s1.heap H) callerA [] s1 H := ⟨rfl, hM, fun b o e => of_hidT e, Nat.le_of_eq (hidT_size _ _), trivial, fun b hb => absurd hb List.not_mem_nil, hok, .of_eq hg⟩
    refine codeAny_mono ((F _ kb (ns' hns)).run callerA [] s1 H ⟨[.ref a], []⟩ [.ref a] [.ref a] _ _ rfl hr e0 (bind s1 (.ref a)) (.cons rfl .nil) (hsp H only hS)) fun r s' h => ?_
    cases r with
    | error e => exact (hCX H e s' h).elim
    | ok fl =>
      cases fl with
      | next => exact h.elim
      | brk => exact h.elim
      | cont => exact h.elim
      | ret u =>
        obtain ⟨v, H2, os, bare, un, hok2, r2, q⟩ := h
        obtain rfl : v = .bl true := q
        obtain rfl : u = Value.bool true := r2
        refine ⟨rfl, OldK.of_keep fun b o e => ?_, os, bare⟩
        cases q : H b with
        | none => exact un.keep b o e q List.not_mem_nil List.not_mem_nil
        | some u =>
          rcases only b with z | ⟨ob, xs, z⟩
          · rw [q] at z; cases z
          · obtain ⟨e1, _⟩ := hok b _ z
            obtain ⟨e2, _⟩ := hok2 b _ (un.frzs b ob _ z)
            rw [e] at e1; cases e1
            exact e2
  cases hk : K.lookup a with
  | some o =>
    have e := (kx a o hk).symm.trans ha
    cases e
    exact core (fun _ => none) (fun _ => .inl rfl) (.inr ⟨_, vs.toArray, _, hk, rfl, rfl, rfl, by rw [List.size_toArray, hi.length]; exact hl, by simpa using rv⟩) (fun b u z => nomatch (show (none : Option HO) = some u from z)) (fun b z => absurd rfl z) fun z => absurd rfl z
  | none =>
    have at1 : ∀ {b : Addr} {u : HO}, (if b = a then some (HO.frz { cls := .type "list", data := .seq vs.toArray } (.lst (ns.map V.int))) else none) = some u → b = a ∧ u = .frz { cls := .type "list", data := .seq vs.toArray } (.lst (ns.map V.int)) := fun {b u} z => by
      by_cases hb : b = a
      · rw [if_pos hb] at z; cases z; exact ⟨hb, rfl⟩
      · rw [if_neg hb] at z; cases z
    refine core (fun b => if b = a then some (.frz { cls := .type "list", data := .seq vs.toArray } (.lst (ns.map V.int))) else none) (fun b => ?_) (.inl (.inr ⟨{ cls := .type "list", data := .seq vs.toArray }, if_pos rfl⟩)) (fun b u z => ?_) (fun b z => ?_) fun _ => hk
    · by_cases hb : b = a
      · exact .inr ⟨_, _, if_pos hb⟩
      · exact .inl (if_neg hb)
    · obtain ⟨rfl, rfl⟩ := at1 z
      exact ⟨ha, by rw [List.length_map]; exact hl, vs, _, rv, ha⟩
    · exact Classical.byContradiction fun hb => z (if_neg hb)
theorem walk_ofG {l : PySem.W.OpenLaw} {n k : Nat} {q : Program} {loose : List Str} {XP : (Str → Option Value) → Heap → Prop} {YP : World → Heap → Prop} {d : DefRec} {CX : CXT} {x : Str} (hn : l.most = some n) (hn2 : n ≤ sizeLine) (hdf : d.params.defaults = []) (hr : Room k callerA)
    (F : ∀ (w : World) (mg : Str → Option Value) (fa : Addr) (h : Heap), YP w h → h.Ns mainGlobals mg → mg d.name = some (.ref fa) → ∃ (K : PySem.W.Frag) (fd : FuncData) (sp : Sp), K.In h ∧ (∀ (s : Shared) (u : Value), BindsTo s fd ⟨[u], []⟩ [(x, u)]) ∧
      (∀ (H : Hp) (a : Addr) (ns : List Int), ns.length ≤ n → Only H → SqL K H a (ns.map V.int) → sp [.ref a] H (fun v _ => v = .bl true) fun _ _ _ => False) ∧ ∀ base : Heap, K.In base → base.Ns mainGlobals mg → FnG l.prog w K mg base CX k fa fd [x] sp)
    (hCX : ∀ (H : Hp) (s : Shared) (e : Value) (s' : Shared), CX [] H s (fun _ _ _ => False) e s' → False) : PySem.W.WalkO q loose XP YP l.row.toRowW d [] (fun f vs => PySem.call f vs) := by
  refine Att.attach_call hn hdf fun w s0 s1 mg mb fa o pm cd doc a vs ns G Y ho hd hcd hmg hobj hints hlen hg => ?_
  obtain ⟨K, fd, sp, kx, hb, hsp, hF⟩ := F w mg fa _ Y G.T.g hmg
  exact law_callG kx G.T.g G.T.b G.T.builtins G.T.nolimit hg hobj hints (Nat.le_trans hlen hn2) hr hF hb (fun H hO hS => hsp H a ns hlen hO hS) fun H e s' => hCX H s1 e s'
/-! ### repr(x), x data -/
def rRepr (K : PySem.W.Frag) : List V → Hp → VK → Prop := fun xs H Q => ∃ (a : Addr) (d : PyData), xs = [.ref a] ∧ Dp K H (.ref a) d ∧ d.showable = true ∧ d.hasDict = false ∧ d.depth ≤ 60 ∧ d.shown.length ≤ sizeLine ∧ Q (.str d.shown) H
theorem call_reprD {X : Cx} (gd : X.A.guards = some []) (hu : X.A.units + 64 < cLine) : CallR X (.builtin "repr") (rRepr X.K) := by
  intro pins s σ H xs us Q I r h
  obtain ⟨a, d, rfl, hd, sh, nd, dp, sz, q⟩ := h
  obtain ⟨u, rfl, ru⟩ := vals1 r
  obtain ⟨as, rd⟩ := Dp.reads I d _ u hd ru
  cases ru
  exact repr_of_reads' rd sh (fun z => by rw [nd] at z; cases z) gd (by omega) (fun _ _ e => e) (fun h' u tk k => ⟨.str d.shown, H, I.kept k, ⟨u, rfl⟩, q⟩) sz
end Td
set_option maxHeartbeats 4000000
namespace Td
open PySem PySem.Spec PyProof.Rows L2
/-! ### ends and doors: the promises -/
def nmOf (r : List Str) : Str := r.headD ""
/-- the door's ends -/
def endsM (rows : List (List Str)) (x : Str) : Option (List Str) := (rows.find? fun r => nmOf r == x).map (·.drop 1)
/-- the doors at a room -/
def doorsM (rows : List (List Str)) (x : Str) : List Str := (rows.filter fun r => (r.drop 1).contains x).map nmOf
def errX (K : PySem.W.Frag) (E : XK) (c : Str) (x : Str) (H : Hp) : Prop := ∀ H', Same H H' → ∀ d, H' d = none → E (.ref (He.ga K c)) (some d) (upd H' d (.xd [("name", .str x)]))
def spEndsOf (K : PySem.W.Frag) : Sp := fun vs H Q E => ∃ (h : Addr) (x : Str) (rooms : List Str) (rows : List (List Str)), vs = [.ref h, .str x] ∧ HS H h rooms rows ∧ HallV rooms rows ∧
  (∀ es, endsM rows x = some es → ∀ p H', Same H H' → H' p = some (.tup (es.map V.str)) → Q (.ref p) H') ∧ (endsM rows x = none → errX K E "UnknownDoor" x H)
def spChkR (K : PySem.W.Frag) : Sp := fun vs H Q E => ∃ (h : Addr) (x : Str) (rooms : List Str) (rows : List (List Str)), vs = [.ref h, .str x] ∧ HS H h rooms rows ∧
  (x ∈ rooms → ∀ H', Same H H' → Q .non H') ∧ (x ∉ rooms → errX K E "UnknownRoom" x H)
def spDoorsAt (K : PySem.W.Frag) : Sp := fun vs H Q E => ∃ (h : Addr) (x : Str) (rooms : List Str) (rows : List (List Str)), vs = [.ref h, .str x] ∧ HS H h rooms rows ∧ HallV rooms rows ∧
  (x ∈ rooms → ∀ p H', Same H H' → H' p = some (.tup ((doorsM rows x).map V.str)) → Q (.ref p) H') ∧ (x ∉ rooms → errX K E "UnknownRoom" x H)
/-- what is told: a result, an unknown door, an unknown room -/
def tellR (l : List Str) : PyData := .tuple [.str "result", .tuple (l.map PyData.str)]
def tellE (w x : Str) : PyData := .tuple [.str w, .str x, .bool true, .bool false]
def endsT (rows : List (List Str)) (x : Str) : PyData := match endsM rows x with
  | some es => tellR es
  | none => tellE "door" x
def atT (rooms : List Str) (rows : List (List Str)) (x : Str) : PyData := if x ∈ rooms then tellR (doorsM rows x) else tellE "room" x
/-- the law's own -/
def spLEnds : Sp := fun vs H Q _ => ∃ (h : Addr) (x : Str) (rooms : List Str) (rows : List (List Str)), vs = [.ref h, .str x] ∧ HS H h rooms rows ∧ HallV rooms rows ∧ ∀ p H', Same H H' → DR H' 4 (.ref p) (endsT rows x) → Q (.ref p) H'
def spLAt : Sp := fun vs H Q _ => ∃ (h : Addr) (x : Str) (rooms : List Str) (rows : List (List Str)), vs = [.ref h, .str x] ∧ HS H h rooms rows ∧ HallV rooms rows ∧ ∀ p H', Same H H' → DR H' 4 (.ref p) (atT rooms rows x) → Q (.ref p) H'
/-- _law_told(ends_of | doors_at, hall, name) -/
def spTold (K : PySem.W.Frag) (mg : Str → Option Value) : Sp := fun vs H Q _ => ∃ (h f : Addr) (x : Str) (rooms : List Str) (rows : List (List Str)), vs = [.ref f, .ref h, .str x] ∧ HS H h rooms rows ∧ HallV rooms rows ∧
  ((mg "ends_of" = some (.ref f) ∧ ∀ p H', Same H H' → DR H' 4 (.ref p) (endsT rows x) → Q (.ref p) H') ∨ (mg "doors_at" = some (.ref f) ∧ ∀ p H', Same H H' → DR H' 4 (.ref p) (atT rooms rows x) → Q (.ref p) H'))
theorem drE {H : Hp} {t : Addr} {w x : Str} (h : H t = some (.tup [.str w, .str x, .bl true, .bl false])) : DR H 4 (.ref t) (tellE w x) := by
  refine .inr ⟨t, _, _, rfl, rfl, h, ⟨rfl, by show 4 ≤ 1000; decide⟩, fun i v e a1 a2 => .inl ?_⟩
  match i with
  | 0 => cases a1; cases a2; exact .inl ⟨w, rfl, rfl⟩
  | 1 => cases a1; cases a2; exact .inl ⟨x, rfl, rfl⟩
  | 2 => cases a1; cases a2; exact .inr (.inl ⟨true, rfl, rfl⟩)
  | 3 => cases a1; cases a2; exact .inr (.inl ⟨false, rfl, rfl⟩)
  | i + 4 => cases a1
theorem drR {H : Hp} {t u : Addr} {l : List Str} (h : H t = some (.tup [.str "result", .ref u])) (h2 : H u = some (.tup (l.map V.str))) (hl : l.length ≤ 1000) : DR H 4 (.ref t) (tellR l) := by
  refine .inr ⟨t, _, _, rfl, rfl, h, ⟨rfl, by show 2 ≤ 1000; decide⟩, fun i v e a1 a2 => ?_⟩
  match i with
  | 0 => cases a1; cases a2; exact .inl (.inl ⟨"result", rfl, rfl⟩)
  | 1 =>
    cases a1; cases a2
    refine .inr ⟨u, _, _, rfl, rfl, h2, ⟨by rw [List.length_map, List.length_map], by rw [List.length_map]; exact hl⟩, fun j v e b1 b2 => .inl ?_⟩
    rw [List.getElem?_map] at b1 b2
    cases z : l[j]? with
    | none => rw [z] at b1; cases b1
    | some y =>
      rw [z] at b1 b2
      cases b1; cases b2
      exact .inl ⟨y, rfl, rfl⟩
  | i + 2 => cases a1
/-! ### a call of a local name that holds a def which may raise -/
def tCallAS (i : Nat) (S : Addr → Sp → Prop) (E : L2.St → XK) (t : TA) : TE := fun σ H Q => ∃ f sp, σ[i]? = some (some (.ref f)) ∧ S f sp ∧ t σ H fun vs H1 => sp vs H1 Q (E σ)
theorem pe_callAS {X : Cx} {k i : Nat} {x : Str} {p pos : Pos} {e : Expr} {es : List Expr} {t : TA} {S : Addr → Sp → Prop} {E : L2.St → XK}
    (A : ∀ f sp, S f sp → ∃ (fd : FuncData) (ps : List Str), FnOk X.prog X.w X.K X.mg X.base (L2.CX X.prog X.w) k f fd ps sp ∧ PySem.W.keepIn X.K (.ref f) = true ∧ Binds X.K fd ps [])
    (hr : Room k X.A) (hN : X.N[i]? = some x) (hv : Vis X.env.scope x) (hx : ∀ σ, PassesAt (L2.CX X.prog X.w) X σ (E σ)) (ha : PA X (e :: es) t) (hdb : (x == ("__debug__" : Str)) = false := by decide) (hcd : (x == ("__classdict__" : Str)) = false := by decide)
    (he : starEach (e :: es) X.env = (false, eval e X.env) :: starEach es X.env := by rfl) (hpl : (backTo pos (starEach es X.env)).any (·.1) = false := by rfl) : PE X (.Call (.Name x p) (e :: es) [] pos) (tCallAS i S E t) := by
  refine ⟨fun pins s σ H Q I ⟨f, sp, hs, hS, ht⟩ => ?_⟩
  obtain ⟨fd, ps, F, hk, hb⟩ := A f sp hS
  refine wpAny_Call_Name_kw (thn ((pe_var (pos := p) hN hv hdb hcd).run pins s σ H (fun v H1 => v = .ref f ∧ H1 = H) I ⟨.ref f, hs, rfl, rfl⟩) fun u s1 ⟨v, H1, I1, r1, q1⟩ => ?_)
  obtain ⟨rfl, rfl⟩ := q1
  cases r1
  exact PySem.W.callWith_K (h₀ := X.base) I.ok.mod.kin hk (thn (ha.run pos pins s1 σ _ _ I1 ht) fun us s2 ⟨vs, H2, I2, r, q⟩ => ⟨I2.kIn, run_fnS F hr hb (hx σ) I2 r q⟩) he hpl
end Td
set_option maxHeartbeats 4000000
namespace Td
open PySem PySem.Spec PyProof.Rows L2
/-! ### texts of halls and states -/
abbrev lineT (ws : List Str) : Str := Txt.join " " ws
abbrev textT (ls : List Str) : Str := Txt.join "\n" ls
def cs (x : Str) : List Nat := x.cps.toList
theorem S_cs (x : Str) : SX.S (cs x) = x := SX.S_tl x
theorem map_S_cs (ws : List Str) : (ws.map cs).map SX.S = ws := by
  rw [List.map_map]
  have e : (SX.S ∘ cs) = id := funext fun x => S_cs x
  rw [e, List.map_id]
theorem join_cs (c : Nat) (ws : List Str) : Txt.join (SX.S [c]) ws = SX.S (TL.joinL [c] (ws.map cs)) := by
  have e := SX.join_S [c] (ws.map cs)
  rw [map_S_cs] at e
  exact e
theorem split_join {c : Nat} {ws : List Str} (hc : c < 256) (hne : ws ≠ []) (h : ∀ x ∈ ws, c ∉ cs x) : Txt.split (Txt.join (SX.S [c]) ws) (SX.S [c]) = ws := by
  rw [join_cs, SX.split_S (List.cons_ne_nil _ _) (by simpa using hc), SX.spl_join (fun e => hne (List.map_eq_nil_iff.mp e)) (fun p hp => by
    obtain ⟨x, hx, rfl⟩ := List.mem_map.mp hp
    exact h x hx), map_S_cs]
theorem sp_S : (" " : Str) = SX.S [32] := by decide
theorem nl_S : ("\n" : Str) = SX.S [10] := by decide
theorem mem_joinL {c x : Nat} : ∀ {ps : List (List Nat)}, x ∈ TL.joinL [c] ps → x = c ∨ ∃ p ∈ ps, x ∈ p
  | [], h => by cases h
  | [p], h => .inr ⟨p, List.mem_cons_self .., h⟩
  | p :: q :: r, h => by
    have h1 : x ∈ p ++ ([c] ++ TL.joinL [c] (q :: r)) := h
    rcases List.mem_append.mp h1 with h2 | h2
    · exact .inr ⟨p, List.mem_cons_self .., h2⟩
    · rcases List.mem_append.mp h2 with h3 | h3
      · exact .inl (List.mem_singleton.mp h3)
      · rcases mem_joinL h3 with h4 | ⟨z, hz, h4⟩
        · exact .inl h4
        · exact .inr ⟨z, List.mem_cons_of_mem _ hz, h4⟩
theorem len_joinL {c n : Nat} : ∀ {ps : List (List Nat)}, (∀ p ∈ ps, p.length ≤ n) → (TL.joinL [c] ps).length ≤ ps.length * (n + 1)
  | [], _ => Nat.zero_le _
  | [p], h => by
    have e := h p (List.mem_cons_self ..)
    show p.length ≤ 1 * (n + 1)
    omega
  | p :: q :: r, h => by
    have e := h p (List.mem_cons_self ..)
    have ih := len_joinL (c := c) (ps := q :: r) fun z hz => h z (List.mem_cons_of_mem _ hz)
    have e2 : (TL.joinL [c] (p :: q :: r)).length = p.length + (1 + (TL.joinL [c] (q :: r)).length) := by
      show (p ++ ([c] ++ TL.joinL [c] (q :: r))).length = _
      rw [List.length_append, List.length_append, List.length_singleton]
    rw [e2, List.length_cons, Nat.succ_mul]
    omega
theorem Nm.low {x : Str} (h : Nm x) : ∀ c ∈ cs x, 97 ≤ c ∧ c ≤ 122 := h.2.2
theorem Nm.len {x : Str} (h : Nm x) : (cs x).length ≤ 6 := by
  have e : (cs x).length = x.length := by unfold cs Str.length; simp
  rw [e]
  exact h.2.1
/-- the lines of a text, each its words -/
structure LnOk (ls : List (List Str)) : Prop where
  ne : ls ≠ []
  l13 : ls.length ≤ 13
  ok : ∀ l ∈ ls, l ≠ [] ∧ l.length ≤ 13 ∧ ∀ x ∈ l, Nm x
abbrev txtOf (ls : List (List Str)) : Str := textT (ls.map lineT)
theorem line_len {l : List Str} (h : l.length ≤ 13) (hn : ∀ x ∈ l, Nm x) : (lineT l).length ≤ 91 := by
  show (Txt.join " " l).length ≤ 91
  rw [sp_S, join_cs, SX.S_len]
  have e := len_joinL (c := 32) (n := 6) (ps := l.map cs) fun p hp => by
    obtain ⟨x, hx, rfl⟩ := List.mem_map.mp hp
    exact (hn x hx).len
  rw [List.length_map] at e
  omega
theorem line_no {l : List Str} (hn : ∀ x ∈ l, Nm x) : 10 ∉ cs (lineT l) := fun h => by
  have e : cs (lineT l) = TL.joinL [32] (l.map cs) := by
    show cs (Txt.join " " l) = _
    rw [sp_S, join_cs]
    rfl
  rw [e] at h
  rcases mem_joinL h with h | ⟨p, hp, h⟩
  · cases h
  · obtain ⟨x, hx, rfl⟩ := List.mem_map.mp hp
    have z := (hn x hx).low 10 h
    omega
theorem line_split {l : List Str} (hne : l ≠ []) (hn : ∀ x ∈ l, Nm x) : Txt.split (lineT l) " " = l := by
  show Txt.split (Txt.join " " l) " " = l
  rw [sp_S]
  refine split_join (by decide) hne fun x hx hc => ?_
  have z := (hn x hx).low 32 hc
  omega
theorem txt_split {ls : List (List Str)} (h : LnOk ls) : Txt.split (txtOf ls) "\n" = ls.map lineT := by
  show Txt.split (Txt.join "\n" (ls.map lineT)) "\n" = _
  rw [nl_S]
  refine split_join (by decide) (fun e => h.ne (List.map_eq_nil_iff.mp e)) fun x hx => ?_
  obtain ⟨l, hl, rfl⟩ := List.mem_map.mp hx
  exact line_no (h.ok l hl).2.2
theorem txt_len {ls : List (List Str)} (h : LnOk ls) : (txtOf ls).length ≤ 2000 := by
  show (Txt.join "\n" (ls.map lineT)).length ≤ 2000
  rw [nl_S, join_cs, SX.S_len]
  have e := len_joinL (c := 10) (n := 91) (ps := (ls.map lineT).map cs) fun p hp => by
    obtain ⟨x, hx, rfl⟩ := List.mem_map.mp hp
    obtain ⟨l, hl, rfl⟩ := List.mem_map.mp hx
    have z := line_len (h.ok l hl).2.1 (h.ok l hl).2.2
    have y : (cs (lineT l)).length = (lineT l).length := by unfold cs Str.length; simp
    rw [y]
    exact z
  have z := h.l13
  rw [List.length_map, List.length_map] at e
  omega
theorem lines_inj {ls ms : List (List Str)} (h1 : LnOk ls) (h2 : LnOk ms) (e : txtOf ls = txtOf ms) : ls = ms := by
  have a := txt_split h1
  rw [e, txt_split h2] at a
  have f : ∀ {ks : List (List Str)}, LnOk ks → (ks.map lineT).map (fun x => Txt.split x " ") = ks := fun {ks} hk => by
    rw [List.map_map]
    have : ks.map ((fun x => Txt.split x " ") ∘ lineT) = ks.map id := List.map_congr_left fun l hl => line_split (hk.ok l hl).1 (hk.ok l hl).2.2
    rw [this, List.map_id]
  rw [← f h1, ← f h2, a]
abbrev lnOf (w1 w2 : Str) (ss : List Str) (rows : List (List Str)) : List (List Str) := (w1 :: ss) :: rows.map (w2 :: ·)
structure Bd (ss : List Str) (rows : List (List Str)) : Prop where
  s12 : ss.length ≤ 12
  r12 : rows.length ≤ 12
  sn : ∀ x ∈ ss, Nm x
  rn : ∀ r ∈ rows, r.length ≤ 3 ∧ ∀ x ∈ r, Nm x
theorem Bd.ln {w1 w2 : Str} {ss : List Str} {rows : List (List Str)} (h : Bd ss rows) (h1 : Nm w1) (h2 : Nm w2) : LnOk (lnOf w1 w2 ss rows) := by
  refine ⟨List.cons_ne_nil _ _, ?_, fun l hl => ?_⟩
  · rw [List.length_cons, List.length_map]
    have := h.r12
    omega
  · rcases List.mem_cons.mp hl with rfl | hl
    · refine ⟨List.cons_ne_nil _ _, ?_, fun x hx => ?_⟩
      · rw [List.length_cons]
        have := h.s12
        omega
      · rcases List.mem_cons.mp hx with rfl | hx
        · exact h1
        · exact h.sn x hx
    · obtain ⟨r, hr, rfl⟩ := List.mem_map.mp hl
      refine ⟨List.cons_ne_nil _ _, ?_, fun x hx => ?_⟩
      · rw [List.length_cons]
        have := (h.rn r hr).1
        omega
      · rcases List.mem_cons.mp hx with rfl | hx
        · exact h2
        · exact (h.rn r hr).2 x hx
theorem lnOf_inj {w1 w2 : Str} {ss tt : List Str} {rows cols : List (List Str)} (e : lnOf w1 w2 ss rows = lnOf w1 w2 tt cols) : ss = tt ∧ rows = cols := by
  injection e with e1 e2
  injection e1 with _ e1
  refine ⟨e1, ?_⟩
  have := congrArg (List.map List.tail) e2
  rw [List.map_map, List.map_map] at this
  have f : ∀ l : List (List Str), l.map (List.tail ∘ (w2 :: ·)) = l := fun l => by
    have : (List.tail ∘ fun x => w2 :: x) = id := rfl
    rw [this, List.map_id]
  rw [f, f] at this
  exact this
theorem nm_of {x : Str} (h : (decide (1 ≤ x.length) && (decide (x.length ≤ 6) && x.cps.toList.all fun c => decide (97 ≤ c) && decide (c ≤ 122))) = true) : Nm x := by
  simp only [Bool.and_eq_true, decide_eq_true_eq, List.all_eq_true] at h
  exact ⟨h.1, h.2.1, h.2.2⟩
theorem nm_rooms : Nm "rooms" := nm_of (by decide +kernel)
theorem nm_door : Nm "door" := nm_of (by decide +kernel)
theorem nm_faces : Nm "faces" := nm_of (by decide +kernel)
theorem nm_walker : Nm "walker" := nm_of (by decide +kernel)
theorem HallV.bd {rooms : List Str} {rows : List (List Str)} (h : HallV rooms rows) : Bd rooms rows := by
  have := h.r8
  refine ⟨by omega, h.d12, h.nm, fun r hr => ?_⟩
  obtain ⟨n, a, b, rfl, h1, h2, h3, _⟩ := h.row r hr
  refine ⟨Nat.le_refl 3, fun x hx => ?_⟩
  rcases List.mem_cons.mp hx with rfl | hx
  · exact h1
  · rcases List.mem_cons.mp hx with rfl | hx
    · exact h.nm _ h2
    · rw [List.mem_singleton.mp hx]
      exact h.nm _ h3
theorem StV.bd {rooms : List Str} {rows : List (List Str)} {faces : List Str} {places : List (List Str)} (hH : HallV rooms rows) (h : StV rooms rows faces places) : Bd faces places := by
  have a1 := h.fl
  have a2 := hH.d12
  have a3 := h.p5
  refine ⟨by omega, by omega, fun x hx => ?_, fun r hr => ?_⟩
  · obtain ⟨i, hi⟩ := List.getElem?_of_mem hx
    have hl : i < rows.length := by
      rw [← a1]
      exact (List.getElem?_eq_some_iff.mp hi).1
    obtain ⟨n, a, b, e, z⟩ := h.fc i x _ hi (List.getElem?_eq_getElem hl)
    obtain ⟨n', a', b', e', _, m1, m2, _⟩ := hH.row _ (List.getElem_mem hl)
    rw [e] at e'
    injection e' with _ e'
    injection e' with e1 e'
    injection e' with e2 _
    subst e1 e2
    rcases z with rfl | rfl
    · exact hH.nm _ m1
    · exact hH.nm _ m2
  · obtain ⟨w, r', rfl, h1, h2⟩ := h.pl r hr
    refine ⟨(by show 2 ≤ 3; decide), fun x hx => ?_⟩
    rcases List.mem_cons.mp hx with rfl | hx
    · exact h1
    · rw [List.mem_singleton.mp hx]
      exact hH.nm _ h2
/-! ### promises of the program's defs -/
instance (x : Str) : Decidable (Nm x) := by unfold Nm; exact inferInstance
def spIsName : Sp := fun vs H Q _ => ∃ x : Str, vs = [.str x] ∧ x.length ≤ 100000 ∧ ∀ H', Same H H' → Q (.bl (decide (Nm x))) H'
/-- all of xs pass -/
def spJoin (K : PySem.W.Frag) : Sp := fun vs H Q _ => ∃ (f d : Addr) (w1 w2 : Str) (ss : List Str) (rows : List (List Str)), vs = [.ref f, .str w2, .ref d] ∧ H f = some (.lst ((w1 :: ss).map V.str)) ∧ Rows H d rows ∧ Bd ss rows ∧ Nm w1 ∧ Nm w2 ∧
  ∀ H', Same H H' → Q (.str (txtOf (lnOf w1 w2 ss rows))) H'
def LinesAt (H : Hp) (as : List Addr) (ls : List (List Str)) : Prop := as.length = ls.length ∧ ∀ (i : Nat) (a : Addr) (l : List Str), as[i]? = some a → ls[i]? = some l → H a = some (.lst (l.map V.str))
theorem LinesAt.same {H H' : Hp} {as : List Addr} {ls : List (List Str)} (s : Same H H') (h : LinesAt H as ls) : LinesAt H' as ls := ⟨h.1, fun i a l e1 e2 => s _ _ (h.2 i a l e1 e2)⟩
def spSplit : Sp := fun vs H Q _ => ∃ ls : List (List Str), vs = [.str (txtOf ls)] ∧ LnOk ls ∧ ∀ p as H', Same H H' → H' p = some (.lst (as.map V.ref)) → LinesAt H' as ls → Q (.ref p) H'
def spRoomsLine (K : PySem.W.Frag) : Sp := fun vs H Q _ => ∃ (l : Addr) (rooms : List Str), vs = [.ref l] ∧ H l = some (.lst ((("rooms" : Str) :: rooms).map V.str)) ∧ 1 ≤ rooms.length ∧ rooms.length ≤ 8 ∧ rooms.Nodup ∧ (∀ x ∈ rooms, Nm x) ∧ ∀ H', Same H H' → Q (.bl true) H'
def spDoorLine (K : PySem.W.Frag) : Sp := fun vs H Q _ => ∃ (l r nl : Addr) (n a b : Str) (rooms names : List Str), vs = [.ref l, .ref r, .ref nl] ∧ H l = some (.lst ([("door" : Str), n, a, b].map V.str)) ∧ H r = some (.tup (rooms.map V.str)) ∧ H nl = some (.lst (names.map V.str)) ∧
  Nm n ∧ n ∉ names ∧ a ∈ rooms ∧ b ∈ rooms ∧ a ≠ b ∧ ∀ H', Same H H' → Q (.bl true) H'
def spFacesLine (K : PySem.W.Frag) : Sp := fun vs H Q _ => ∃ (l d : Addr) (faces : List Str) (rows : List (List Str)), vs = [.ref l, .ref d] ∧ H l = some (.lst ((("faces" : Str) :: faces).map V.str)) ∧ Rows H d rows ∧ faces.length = rows.length ∧ rows.length ≤ 12 ∧
  (∀ (i : Nat) (f : Str) (r : List Str), faces[i]? = some f → rows[i]? = some r → ∃ n a b : Str, r = [n, a, b] ∧ (f = a ∨ f = b)) ∧ ∀ H', Same H H' → Q (.bl true) H'
def spWalkerLine (K : PySem.W.Frag) : Sp := fun vs H Q _ => ∃ (l r : Addr) (before w rm : Str) (rooms : List Str), vs = [.ref l, .str before, .ref r] ∧ H l = some (.lst ([("walker" : Str), w, rm].map V.str)) ∧ H r = some (.tup (rooms.map V.str)) ∧
  Nm w ∧ before.cps.toList < w.cps.toList ∧ rm ∈ rooms ∧ ∀ H', Same H H' → Q (.bl true) H'
def spFmt (w1 w2 : Str) : Sp := fun vs H Q _ => ∃ (h : Addr) (ss : List Str) (rows : List (List Str)), vs = [.ref h] ∧ HS H h ss rows ∧ Bd ss rows ∧ ∀ H', Same H H' → Q (.str (txtOf (lnOf w1 w2 ss rows))) H'
def spParseHall : Sp := fun vs H Q _ => ∃ (rooms : List Str) (rows : List (List Str)), vs = [.str (txtOf (lnOf "rooms" "door" rooms rows))] ∧ HallV rooms rows ∧ ∀ p H', Same H H' → HS H' p rooms rows → Q (.ref p) H'
def spParseState : Sp := fun vs H Q _ => ∃ (h : Addr) (rooms : List Str) (rows : List (List Str)) (faces : List Str) (places : List (List Str)), vs = [.ref h, .str (txtOf (lnOf "faces" "walker" faces places))] ∧ HS H h rooms rows ∧ HallV rooms rows ∧ StV rooms rows faces places ∧
  ∀ p H', Same H H' → HS H' p faces places → Q (.ref p) H'
theorem catA_one {K : PySem.W.Frag} {H : Hp} {t r : Addr} {x : V} {ys : List V} {Q : VK} (h1 : H t = some (.tup [x])) (h2 : H r = some (.tup ys)) (hl : 1 + ys.length ≤ 1000) (k : ∀ p H', Same H H' → H' p = some (.tup (x :: ys)) → Q (.ref p) H') :
    rCatA K (.ref t) (.ref r) H Q :=
  ⟨t, r, [x], ys, rfl, rfl, SqT.of h1, SqT.of h2, Nat.le_of_lt (sz100 hl), (fun e => nomatch e), (fun _ e => k t H (Same.refl H) (by rw [e]; exact h1)), fun _ _ p hp => k p _ (same_new hp _) upd_same⟩
theorem join_sz {l : List Str} (h13 : l.length ≤ 13) (hn : ∀ x ∈ l, Nm x) : (l.map (·.length)).sum + l.length * (" " : Str).length ≤ 16777216 := by
  have e2 : (" " : Str).length = 1 := by decide
  have go : ∀ l : List Str, (∀ x ∈ l, Nm x) → (l.map (·.length)).sum ≤ l.length * 6 := fun l => by
    induction l with
    | nil => intro _; exact Nat.le_refl _
    | cons y ys ih =>
      intro h
      have h1 := (h y (List.mem_cons_self ..)).2.1
      have h2 := ih fun z hz => h z (List.mem_cons_of_mem _ hz)
      rw [List.map_cons, List.sum_cons, List.length_cons, Nat.succ_mul]
      omega
  have e1 := go l hn
  rw [e2]
  omega
theorem text_sz {ls : List (List Str)} (h : LnOk ls) : ((ls.map lineT).map (·.length)).sum + (ls.map lineT).length * ("\n" : Str).length ≤ 16777216 := by
  have e2 : ("\n" : Str).length = 1 := by decide
  have go : ∀ l : List (List Str), (∀ x ∈ l, x ≠ [] ∧ x.length ≤ 13 ∧ ∀ y ∈ x, Nm y) → ((l.map lineT).map (·.length)).sum ≤ l.length * 91 := fun l => by
    induction l with
    | nil => intro _; exact Nat.le_refl _
    | cons y ys ih =>
      intro h
      have h0 := h y (List.mem_cons_self ..)
      have h1 := line_len h0.2.1 h0.2.2
      have h2 := ih fun z hz => h z (List.mem_cons_of_mem _ hz)
      rw [List.map_cons, List.map_cons, List.sum_cons, List.length_cons, Nat.succ_mul]
      omega
  have e1 := go ls h.ok
  have e3 := h.l13
  rw [e2, List.length_map]
  omega
theorem Bd.first {w1 : Str} {ss : List Str} {rows : List (List Str)} (h : Bd ss rows) (h1 : Nm w1) : (w1 :: ss).length ≤ 13 ∧ ∀ x ∈ w1 :: ss, Nm x := by
  have z := (h.ln h1 h1).ok (w1 :: ss) (List.mem_cons_self ..)
  exact ⟨z.2.1, z.2.2⟩
theorem Bd.row {w2 : Str} {ss : List Str} {rows : List (List Str)} (h : Bd ss rows) (h2 : Nm w2) {r : List Str} (hr : r ∈ rows) : (w2 :: r).length ≤ 13 ∧ ∀ x ∈ w2 :: r, Nm x := by
  have z := (h.ln h2 h2).ok (w2 :: r) (List.mem_cons_of_mem _ (List.mem_map.mpr ⟨r, hr, rfl⟩))
  exact ⟨z.2.1, z.2.2⟩
end Td
set_option maxHeartbeats 4000000
namespace Td
open PySem PySem.Spec PyProof.Rows L2
open Builtin.SmallTypes (nextOf ownedTupleIsFree ownedTupleHandOut)
/-! ### an iterator over a sequence, whatever it is: what zip asks of it -/
structure Src (P : Program) (w : World) (it l : Addr) (st : Nat → Heap → Prop) (C : Heap → Array Value → Prop) : Prop where
  kst : ∀ {k : Nat} {g g' : Heap}, st k g → (∀ o, g.get? it = some o → g'.get? it = some o) → st k g'
  kC : ∀ {g g' : Heap} {xs : Array Value}, C g xs → (∀ o, g.get? l = some o → g'.get? l = some o) → C g' xs
  obj : ∀ {k : Nat} {g : Heap}, st k g → ∃ o vs, g.get? it = some o ∧ o.data = .fields vs
  item : ∀ {A : Around} {E : Value → Shared → Prop} {s : Shared} {k : Nat} {xs : Array Value} {x : Value} {Q : Value → Shared → Prop}, st k s.heap → C s.heap xs → xs[k]? = some x →
    (∀ g', st (k + 1) g' → Heap.SameBut it s.heap g' → Q x { s with heap := g' }) → wpAny (model P w) A (nextOf (.ref it)) Q E s
  done : ∀ {A : Around} {E : Value → Shared → Prop} {s : Shared} {k : Nat} {xs : Array Value} {Q : Value → Shared → Prop}, A.handled = none → st k s.heap → C s.heap xs → xs[k]? = none →
    (∀ g' e, Heap.ExtBut it s.heap g' → (∃ o, g'.get? e = some o ∧ o.cls = .type "StopIteration") → E (.ref e) { s with heap := g' }) → wpAny (model P w) A (nextOf (.ref it)) Q E s
theorem src_list {P : Program} {w : World} {it l : Addr} : Src P w it l (fun k g => g.IsListIter it l k) (fun g xs => g.IsList l xs) where
  kst := fun ⟨o, e, r⟩ keep => ⟨o, keep o e, r⟩
  kC := fun ⟨o, e, r⟩ keep => ⟨o, keep o e, r⟩
  obj := fun ⟨o, e, _, d⟩ => ⟨o, _, e, d⟩
  item := fun a b c q => wpAny_nextOf_list_item a b c q
  done := fun hh a b c q => wpAny_nextOf_list_end hh a b c q
theorem src_tup {P : Program} {w : World} {it l : Addr} : Src P w it l (fun k g => g.IsTupleIter it l k) (fun g xs => g.IsTuple l xs) where
  kst := fun ⟨o, e, r⟩ keep => ⟨o, keep o e, r⟩
  kC := fun ⟨o, e, r⟩ keep => ⟨o, keep o e, r⟩
  obj := fun ⟨o, e, _, d⟩ => ⟨o, _, e, d⟩
  item := fun a b c q => RZ.nextOf_tuple_item a b c q
  done := fun hh a b c q => RZ.nextOf_tuple_end hh a b c q
section
variable {P : Program} {w : World} {A : Around} {E : Value → Shared → Prop} {s : Shared} {zz TI TO i1 i2 l1 l2 : Addr} {k1 k2 : Nat} {xs ys : Array Value} {x y a b : Value} {S1 S2 : Nat → Heap → Prop} {C1 C2 : Heap → Array Value → Prop}
theorem same_at {e c : Addr} {g g' : Heap} (q : Heap.SameBut e g g') (n : c ≠ e) : ∀ o, g.get? c = some o → g'.get? c = some o := fun o h => (q.2 c n).trans h
theorem zip_up (R1 : Src P w i1 l1 S1 C1) (R2 : Src P w i2 l2 S2 C2) (D : ZipApart zz TI TO i1 i2 l1 l2) {Q : Value → Shared → Prop}
    (hz : IsZip s.heap zz TI TO .none) (hTI : IsPair s.heap TI (.ref i1) (.ref i2)) (hTO : IsPair s.heap TO a b) (h1 : S1 k1 s.heap) (h2 : S2 k2 s.heap) (c1 : C1 s.heap xs) (c2 : C2 s.heap ys) (hx : xs[k1]? = some x) (hy : ys[k2]? = some y)
    (hQ : ∀ g', IsZip g' zz TI TO (rawInt s.heap.objs.size) → IsPair g' TO x y → S1 (k1 + 1) g' → S2 (k2 + 1) g' → IsPair g' s.heap.objs.size x y → g'.objs.size = s.heap.objs.size + 1 →
      (∀ c o, c ≠ zz → c ≠ TO → c ≠ i1 → c ≠ i2 → s.heap.get? c = some o → g'.get? c = some o) → Q (.ref s.heap.objs.size) { s with heap := g' }) :
    wpAny (model P w) A (Builtin.«zip.__next__» ⟨[.ref zz], []⟩) (fun fin s' => ∃ v, fin = .done (.ret v) ∧ Q v s') E s := by
  show wpAny _ _ (field (.ref zz) 2 >>= _) _ _ _
  refine wpAny_bind (wpAny_field hz rfl (x := .bool false) rfl ?_); show wpAny _ _ (field (.ref zz) 3 >>= _) _ _ _
  refine wpAny_bind (wpAny_field hz rfl (x := .ref TI) rfl (wpAny_bind (wpAny_seqItems hTI rfl ?_)))
  show wpAny _ _ (ownedTupleIsFree (.ref zz) >>= _) _ _ _
  refine wpAny_bind ?_; unfold ownedTupleIsFree
  refine wpAny_bind (wpAny_field hz rfl (x := .none) rfl (wpAny_pure ?_)); simp only [if_true]
  refine wpAny_bind (wpAny_rule (wpAny_bind (wpAny_field hz rfl (x := .ref TO) rfl (wpAny_bind (wpAny_setField_rec hz (by simp) fun g1 z1 q1 => ?_)))))
  replace z1 : IsZip g1 zz TI TO .ellipsis := z1
  refine wpAny_bind ?_; simp only [List.forIn_cons, List.forIn_nil, List.zipIdx_cons, List.zipIdx_nil]
  refine wpAny_bind (wpAny_bind (wpAny_onRaise ?_)); show wpAny _ _ (nextOf (.ref i1) >>= _) _ _ _
  refine wpAny_bind (R1.item (R1.kst h1 (same_at q1 D.i1z)) (R1.kC c1 (same_at q1 D.l1z)) hx fun g2 n1 q2 => wpAny_pure ?_)
  have o2 : IsPair g2 TO a b := same_at q2 D.TOi1 _ (same_at q1 D.TOz _ hTO)
  refine wpAny_bind (wpAny_seqItems o2 rfl (wpAny_bind (wpAny_updateSeq_pair o2 fun g3 o3 q3 => ?_)))
  replace o3 : IsPair g3 TO x b := o3
  refine wpAny_bind (wpAny_letGo (wpAny_pure (wpAny_bind (wpAny_bind (wpAny_onRaise ?_))))); show wpAny _ _ (nextOf (.ref i2) >>= _) _ _ _
  refine wpAny_bind (R2.item (R2.kst (R2.kst (R2.kst h2 (same_at q1 D.i2z)) (same_at q2 D.i12.symm)) (same_at q3 D.TOi2.symm)) (R2.kC (R2.kC (R2.kC c2 (same_at q1 D.l2z)) (same_at q2 D.l2i1)) (same_at q3 D.l2TO)) hy fun g4 n2 q4 => wpAny_pure ?_)
  have o4 : IsPair g4 TO x b := same_at q4 D.TOi2 _ o3
  refine wpAny_bind (wpAny_seqItems o4 rfl (wpAny_bind (wpAny_updateSeq_pair o4 fun g5 o5 q5 => ?_)))
  replace o5 : IsPair g5 TO x y := o5
  refine wpAny_bind (wpAny_letGo (wpAny_pure (wpAny_pure (wpAny_bind (wpAny_seqItems o5 rfl (wpAny_bind (wpAny_newTuple ?_)))))))
  have sz : g5.objs.size = s.heap.objs.size := by rw [q5.1, q4.1, q3.1, q2.1, q1.1]
  have z5 : IsZip g5 zz TI TO .ellipsis := same_at q5 D.TOz.symm _ (same_at q4 D.i2z.symm _ (same_at q3 D.TOz.symm _ (same_at q2 D.i1z.symm _ z1)))
  have k5 : ∀ c o, c ≠ zz → c ≠ TO → c ≠ i1 → c ≠ i2 → s.heap.get? c = some o → g5.get? c = some o := fun c o m1 m2 m3 m4 e => same_at q5 m2 _ (same_at q4 m4 _ (same_at q3 m2 _ (same_at q2 m3 _ (same_at q1 m1 _ e))))
  have n15 : S1 (k1 + 1) g5 := R1.kst (R1.kst (R1.kst n1 (same_at q3 D.TOi1.symm)) (same_at q4 D.i12)) (same_at q5 D.TOi1.symm)
  have n25 : S2 (k2 + 1) g5 := R2.kst n2 (same_at q5 D.TOi2.symm)
  have lz : zz < g5.objs.size := Heap.lt_size z5
  show wpAny _ _ (ownedTupleHandOut (.ref zz) (.ref g5.objs.size) >>= _) _ _ _
  refine wpAny_bind ?_; unfold ownedTupleHandOut
  have z6 : IsZip (g5.push { cls := .type "tuple", data := .seq #[x, y] }) zz TI TO .ellipsis := Heap.get?_push_of_some _ z5
  refine wpAny_bind (wpAny_setField_rec z6 (by simp) fun g7 z7 q7 => ?_)
  replace z7 : IsZip g7 zz TI TO (rawInt g5.objs.size) := z7
  refine wpAny_setField_rec z7 (by simp) fun g8 z8 q8 => ?_
  replace z8 : IsZip g8 zz TI TO (rawInt g5.objs.size) := z8
  have up8 : ∀ c o, c ≠ zz → g5.get? c = some o → g8.get? c = some o := fun c o m e => same_at q8 m _ (same_at q7 m _ (Heap.get?_push_of_some _ e))
  have t8 : IsPair g8 g5.objs.size x y := same_at q8 (Nat.ne_of_gt lz) _ (same_at q7 (Nat.ne_of_gt lz) _ (Heap.get?_push_size _ rfl))
  have s8 : g8.objs.size = g5.objs.size + 1 := by rw [q8.1, q7.1, Heap.size_push]
  rw [sz] at z8 t8 s8
  refine wpAny_pure ⟨_, rfl, ?_⟩; show Q (.ref g5.objs.size) _; rw [sz]
  exact hQ g8 z8 (up8 _ _ D.TOz o5) (R1.kst n15 fun o e => up8 _ o D.i1z e) (R2.kst n25 fun o e => up8 _ o D.i2z e) t8 s8 fun c o m1 m2 m3 m4 e => up8 c o m1 (k5 c o m1 m2 m3 m4 e)
theorem zip_out (R1 : Src P w i1 l1 S1 C1) (R2 : Src P w i2 l2 S2 C2) (D : ZipApart zz TI TO i1 i2 l1 l2) (hh : A.handled = none) {Q : Fin → Shared → Prop}
    (hz : IsZip s.heap zz TI TO .none) (hTI : IsPair s.heap TI (.ref i1) (.ref i2)) (hTO : IsPair s.heap TO a b) (h1 : S1 k1 s.heap) (h2 : S2 k2 s.heap) (c1 : C1 s.heap xs) (c2 : C2 s.heap ys) (hend : xs[k1]? = none ∨ ys[k2]? = none)
    (hE : ∀ g' e, (∀ c o, c ≠ zz → c ≠ TO → c ≠ i1 → c ≠ i2 → s.heap.get? c = some o → g'.get? c = some o) → (∃ o, g'.get? e = some o ∧ o.cls = .type "StopIteration") → E (.ref e) { s with heap := g' }) :
    wpAny (model P w) A (Builtin.«zip.__next__» ⟨[.ref zz], []⟩) Q E s := by
  show wpAny _ _ (field (.ref zz) 2 >>= _) _ _ _
  refine wpAny_bind (wpAny_field hz rfl (x := .bool false) rfl ?_); show wpAny _ _ (field (.ref zz) 3 >>= _) _ _ _
  refine wpAny_bind (wpAny_field hz rfl (x := .ref TI) rfl (wpAny_bind (wpAny_seqItems hTI rfl ?_)))
  show wpAny _ _ (ownedTupleIsFree (.ref zz) >>= _) _ _ _
  refine wpAny_bind ?_; unfold ownedTupleIsFree
  refine wpAny_bind (wpAny_field hz rfl (x := .none) rfl (wpAny_pure ?_)); simp only [if_true]
  refine wpAny_bind (wpAny_rule (wpAny_bind (wpAny_field hz rfl (x := .ref TO) rfl (wpAny_bind (wpAny_setField_rec hz (by simp) fun g1 z1 q1 => ?_)))))
  replace z1 : IsZip g1 zz TI TO .ellipsis := z1
  refine wpAny_bind ?_; simp only [List.forIn_cons, List.forIn_nil, List.zipIdx_cons, List.zipIdx_nil]
  refine wpAny_bind (wpAny_bind (wpAny_onRaise ?_)); show wpAny _ _ (nextOf (.ref i1) >>= _) _ _ _
  have fin : ∀ (g e) (it : Addr), IsZip g zz TI TO .ellipsis → (∃ o, g.get? e = some o ∧ o.cls = .type "StopIteration") → (∀ c o, c ≠ zz → c ≠ TO → c ≠ i1 → c ≠ i2 → s.heap.get? c = some o → g.get? c = some o) → ∀ g9, Heap.SameBut zz g g9 → E (.ref e) { s with heap := g9 } := fun g e it zg ⟨oe, he, hc⟩ kg g9 q9 => by
    have nez : e ≠ zz := fun z => by subst z; rw [zg] at he; cases he; simp at hc
    exact hE g9 e (fun c o m1 m2 m3 m4 z => same_at q9 m1 _ (kg c o m1 m2 m3 m4 z)) ⟨oe, same_at q9 nez _ he, hc⟩
  cases hx : xs[k1]? with
  | none =>
    refine wpAny_bind (R1.done hh (R1.kst h1 (same_at q1 D.i1z)) (R1.kC c1 (same_at q1 D.l1z)) hx fun g2 e q2 he => ?_)
    have z2 : IsZip g2 zz TI TO .ellipsis := q2 _ _ D.i1z.symm z1
    exact wpAny_setField_rec z2 (by simp) fun g3 _ q3 => fin g2 e i1 z2 he (fun c o m1 _ m3 _ z => q2 _ _ m3 (same_at q1 m1 _ z)) g3 q3
  | some x =>
    have hy : ys[k2]? = none := hend.resolve_left fun h => by rw [hx] at h; cases h
    refine wpAny_bind (R1.item (R1.kst h1 (same_at q1 D.i1z)) (R1.kC c1 (same_at q1 D.l1z)) hx fun g2 n1 q2 => wpAny_pure ?_)
    have o2 : IsPair g2 TO a b := same_at q2 D.TOi1 _ (same_at q1 D.TOz _ hTO)
    refine wpAny_bind (wpAny_seqItems o2 rfl (wpAny_bind (wpAny_updateSeq_pair o2 fun g3 o3 q3 => ?_)))
    refine wpAny_bind (wpAny_letGo (wpAny_pure (wpAny_bind (wpAny_bind (wpAny_onRaise ?_))))); show wpAny _ _ (nextOf (.ref i2) >>= _) _ _ _
    refine wpAny_bind (R2.done hh (R2.kst (R2.kst (R2.kst h2 (same_at q1 D.i2z)) (same_at q2 D.i12.symm)) (same_at q3 D.TOi2.symm)) (R2.kC (R2.kC (R2.kC c2 (same_at q1 D.l2z)) (same_at q2 D.l2i1)) (same_at q3 D.l2TO)) hy fun g4 e q4 he => ?_)
    have z4 : IsZip g4 zz TI TO .ellipsis := q4 _ _ D.i2z.symm (same_at q3 D.TOz.symm _ (same_at q2 D.i1z.symm _ z1))
    exact wpAny_setField_rec z4 (by simp) fun g5 _ q5 => fin g4 e i2 z4 he (fun c o m1 m2 m3 m4 z => q4 _ _ m4 (same_at q3 m2 _ (same_at q2 m3 _ (same_at q1 m1 _ z)))) g5 q5
theorem enum_up (R : Src P w i1 l1 S1 C1) {e : Addr} {n : Int} {old : Value} (he : IsEnum s.heap e i1 n old) (h1 : S1 k1 s.heap) (c1 : C1 s.heap xs) (hx : xs[k1]? = some x) (nei : e ≠ i1) {Q : Value → Shared → Prop}
    (hQ : ∀ g', IsEnumOut g' e i1 (n + 1) x s.heap.objs.size → S1 (k1 + 1) g' → g'.get? s.heap.objs.size = some { cls := .type "tuple", data := .seq #[.int n s.toks, x] } → g'.objs.size = s.heap.objs.size + 1 →
      (∀ c o, c ≠ e → c ≠ i1 → s.heap.get? c = some o → g'.get? c = some o) → Q (.ref s.heap.objs.size) { s with heap := g', toks := s.toks + 1 }) :
    wpAny (model P w) A (Builtin.«enumerate.__next__» ⟨[.ref e], []⟩) (fun fin s' => ∃ v, fin = .done (.ret v) ∧ Q v s') E s := by
  obtain ⟨g0, gn, dr, tk, os⟩ := s
  show wpAny _ _ (field (.ref e) 2 >>= _) _ _ ⟨g0, gn, dr, tk, os⟩
  refine wpAny_bind (wpAny_field he rfl (x := .ref i1) rfl (wpAny_bind (R.item h1 c1 hx fun g1 n1 q1 => ?_)))
  replace q1 : Heap.SameBut i1 g0 g1 := q1
  have e1 : IsEnum g1 e i1 n old := same_at q1 nei _ he
  show wpAny _ _ (field (.ref e) 3 >>= _) _ _ ⟨g1, gn, dr, tk, os⟩
  refine wpAny_bind (wpAny_field e1 rfl (x := rawInt n) rfl ?_); show wpAny _ _ (field (.ref e) 4 >>= _) _ _ ⟨g1, gn, dr, tk, os⟩
  refine wpAny_bind (wpAny_field e1 rfl (x := .none) rfl ?_); show wpAny _ _ (mkInt n >>= _) _ _ ⟨g1, gn, dr, tk, os⟩
  refine wpAny_bind (wpAny_mkInt ?_); show wpAny _ _ (setField (.ref e) 3 (rawInt (n + 1)) >>= _) _ _ ⟨g1, gn, dr, tk + 1, os⟩
  refine wpAny_bind (wpAny_setField_rec e1 (by simp) fun g2 e2 q2 => ?_)
  replace q2 : Heap.SameBut e g1 g2 := q2
  replace e2 : IsEnum g2 e i1 (n + 1) old := e2
  show wpAny _ _ (setField (.ref e) 4 .none >>= _) _ _ ⟨g2, gn, dr, tk + 1, os⟩
  refine wpAny_bind (wpAny_setField_rec e2 (by simp) fun g3 e3 q3 => ?_)
  replace q3 : Heap.SameBut e g2 g3 := q3
  replace e3 : IsEnum g3 e i1 (n + 1) old := e3
  show wpAny _ _ (newTuple [.int n tk, x] >>= _) _ _ ⟨g3, gn, dr, tk + 1, os⟩
  refine wpAny_bind (wpAny_newTuple ?_)
  have sz : g3.objs.size = g0.objs.size := by rw [q3.1, q2.1, q1.1]
  have le : e < g0.objs.size := Heap.lt_size he
  have e4 : IsEnum (g3.push { cls := .type "tuple", data := .seq #[.int n tk, x] }) e i1 (n + 1) old := Heap.get?_push_of_some _ e3
  have t4 : (g3.push { cls := .type "tuple", data := .seq #[.int n tk, x] }).get? g0.objs.size = some { cls := .type "tuple", data := .seq #[.int n tk, x] } := by rw [← sz]; exact Heap.get?_push_size _ rfl
  have s4 : (g3.push { cls := .type "tuple", data := .seq #[.int n tk, x] }).objs.size = g0.objs.size + 1 := by rw [Heap.size_push, sz]
  have k4 : ∀ c o, c ≠ e → c ≠ i1 → g0.get? c = some o → (g3.push { cls := .type "tuple", data := .seq #[.int n tk, x] }).get? c = some o := fun c o m1 m2 z => Heap.get?_push_of_some _ (same_at q3 m1 _ (same_at q2 m1 _ (same_at q1 m2 _ z)))
  have n4 : S1 (k1 + 1) (g3.push { cls := .type "tuple", data := .seq #[.int n tk, x] }) := R.kst n1 fun o z => Heap.get?_push_of_some _ (same_at q3 nei.symm _ (same_at q2 nei.symm _ z))
  rw [sz]
  generalize g3.push { cls := .type "tuple", data := .seq #[.int n tk, x] } = g4 at e4 t4 s4 k4 n4 ⊢
  show wpAny _ _ (ownedTupleIsFree (.ref e) >>= _) _ _ ⟨g4, gn, dr, tk + 1, os⟩
  refine wpAny_bind ?_; unfold ownedTupleIsFree
  refine wpAny_bind (wpAny_field e4 rfl (x := .none) rfl (wpAny_pure ?_)); simp only [if_true]
  refine wpAny_bind (wpAny_rule (wpAny_bind (wpAny_field e4 rfl (x := old) rfl (wpAny_bind (wpAny_setField_rec e4 (by simp) fun g5 e5 q5 => ?_)))))
  replace q5 : Heap.SameBut e g4 g5 := q5
  replace e5 : IsEnum g5 e i1 (n + 1) x := e5
  show wpAny _ _ (ownedTupleHandOut (.ref e) (.ref g0.objs.size) >>= _) _ _ ⟨g5, gn, dr, tk + 1, os⟩
  refine wpAny_bind ?_; unfold ownedTupleHandOut
  refine wpAny_bind (wpAny_setField_rec e5 (by simp) fun g6 e6 q6 => ?_)
  replace q6 : Heap.SameBut e g5 g6 := q6
  replace e6 : IsEnumOut g6 e i1 (n + 1) x g0.objs.size := e6
  refine wpAny_setField_rec e6 (by simp) fun g7 e7 q7 => ?_
  replace q7 : Heap.SameBut e g6 g7 := q7
  replace e7 : IsEnumOut g7 e i1 (n + 1) x g0.objs.size := e7
  have up7 : ∀ c o, c ≠ e → g4.get? c = some o → g7.get? c = some o := fun c o m z => same_at q7 m _ (same_at q6 m _ (same_at q5 m _ z))
  exact wpAny_bind (wpAny_letGo (wpAny_pure ⟨_, rfl, hQ g7 e7 (R.kst n4 fun o z => up7 _ o nei.symm z) (up7 _ _ (Nat.ne_of_gt le) t4) (by rw [q7.1, q6.1, q5.1, s4]) fun c o m1 m2 z => up7 c o m1 (k4 c o m1 m2 z)⟩))
theorem enum_out (R : Src P w i1 l1 S1 C1) {e : Addr} {n : Int} {old : Value} (hh : A.handled = none) (he : IsEnum s.heap e i1 n old) (h1 : S1 k1 s.heap) (c1 : C1 s.heap xs) (hx : xs[k1]? = none) {Q : Option Value → Shared → Prop}
    (hQ : ∀ g', Heap.ExtBut i1 s.heap g' → Q none { s with heap := g' }) : wpAny (model P w) A (pyNext (.ref e)) Q E s := by
  have ty : s.TypeIs (.ref e) "enumerate" := ⟨_, he, rfl⟩
  unfold pyNext
  refine wpAny_bind (wpAny_attempt (wpAny_callSpecial?_slot (name := Str.ofString "__next__") ty F.slot_enumerate_next (wpAny_call_entry F.slot_enumerate_next ty F.entry_enumerate_next ?_ (F.args_enumerate_next_1 _))))
  show wpAny _ _ (field (.ref e) 2 >>= _) _ _ s
  refine wpAny_bind (wpAny_field he rfl (x := .ref i1) rfl (wpAny_bind (R.done hh h1 c1 hx fun g' z q ⟨o, ho, hc⟩ => ?_)))
  exact wpAny_bind (wpAny_isInstance (T := "StopIteration") (b := true) ⟨o, ho, hc⟩ isSubtype_stop (wpAny_pure (hQ _ q)))
end
/-! ### what stands at an address, read by H -/
structure Sqs (P : Program) (w : World) (K : PySem.W.Frag) (Sq : Hp → List V → Prop) (C : Heap → Array Value → Prop) : Prop where
  get : ∀ {X : Cx} {pins : List (Addr × Obj)} {σ : L2.St} {H : Hp} {s : Shared} {xs : List V}, X.prog = P → X.w = w → X.K = K → Inv X pins σ H s → Sq H xs → ∃ its : List Value, Vals xs its ∧ C s.heap its.toArray
  inj : ∀ {X : Cx} {pins : List (Addr × Obj)} {σ : L2.St} {H : Hp} {s : Shared} {xs ys : List V}, X.prog = P → X.w = w → X.K = K → Inv X pins σ H s → Sq H xs → Sq H ys → xs = ys
theorem sqs_list {P : Program} {w : World} {K : PySem.W.Frag} {a : Addr} : Sqs P w K (fun H xs => SqL K H a xs) (fun g xs => g.IsList a xs) where
  get := fun e1 e2 e3 I h => by
    subst e3
    obtain ⟨its, r, p, _⟩ := I.list h
    exact ⟨its, r, p.isList⟩
  inj := fun e1 e2 e3 I h h' => by
    subst e3
    exact I.list_inj h h'
theorem sqs_tup {P : Program} {w : World} {K : PySem.W.Frag} {a : Addr} : Sqs P w K (fun H xs => SqT K H a xs) (fun g xs => g.IsTuple a xs) where
  get := fun e1 e2 e3 I h => by
    subst e3
    obtain ⟨its, r, p, _⟩ := I.tuple h
    exact ⟨its, r, p⟩
  inj := fun e1 e2 e3 I h h' => by
    subst e3
    exact I.tuple_inj h h'
/-- an enumeration, the first number lo -/
def ItE (Sq : Hp → List V → Prop) (lo : Int) : It :=
  ⟨fun i H => ∃ (xs : List V) (x : V), Sq H xs ∧ xs[i]? = some x, fun i H v H' => ∃ T x, v = .ref T ∧ H T = none ∧ H' = upd H T (.tup [.int (lo + (i : Nat)), x]) ∧ ∀ xs, Sq H xs → xs[i]? = some x, fun i H => ∃ xs : List V, Sq H xs ∧ xs.length ≤ i⟩
theorem turn_E {P : Program} {w : World} {K : PySem.W.Frag} {elts : List Expr} {kk : Nat} {tpos : Pos} {e it l : Addr} {lo : Int} {st : Nat → Heap → Prop} {C : Heap → Array Value → Prop} {Sq : Hp → List V → Prop} (R : Src P w it l st C) (G : Sqs P w K Sq C) (nei : e ≠ it) :
    Turn P w K (.Tuple elts kk tpos) (ItE Sq lo) [e, it] e (fun i g => (∃ old, IsEnum g e it (lo + (i : Nat)) old) ∧ st i g) where
  mem := List.mem_cons_self ..
  obj := fun i g ⟨⟨old, he⟩, hs⟩ c hc => by
    rcases List.mem_cons.mp hc with z | z
    · rw [z]; exact ⟨_, he, fun v q => nomatch q⟩
    · obtain ⟨o, vs, ho, hd⟩ := R.obj hs
      rw [List.mem_singleton.mp z]; exact ⟨o, ho, fun v q => by rw [hd] at q; cases q⟩
  keep := fun i g g' ⟨⟨old, he⟩, hs⟩ k => ⟨⟨old, k e (List.mem_cons_self ..) _ he⟩, R.kst hs fun o z => k it (by simp) o z⟩
  item := by
    intro X hP hw hK hc i pins s σ H E I hf ⟨⟨old, he⟩, hs⟩ ⟨xs, x, hq, hx⟩
    obtain ⟨its, rv, c⟩ := G.get hP hw hK I hq
    subst hP hw hK
    obtain ⟨u, hu, ru⟩ := rv.get hx
    have le : e < s.heap.objs.size := Heap.lt_size he
    have li : it < s.heap.objs.size := by obtain ⟨o, vs, ho, _⟩ := R.obj hs; exact Heap.lt_size ho
    have ty : s.TypeIs (.ref e) "enumerate" := ⟨_, he, rfl⟩
    unfold pyNext
    refine wpAny_bind (wpAny_attempt (wpAny_callSpecial?_slot (name := Str.ofString "__next__") ty F.slot_enumerate_next (wpAny_call_entry F.slot_enumerate_next ty F.entry_enumerate_next
      (enum_up (Q := fun v s' => wpAny _ _ (pure (some v)) _ _ s') R he hs c (x := u) (by simpa using hu) nei fun g' ho n1 hT hsz hk => wpAny_pure ?_) (F.args_enumerate_next_1 _))))
    refine ⟨_, rfl, wpAny_letOwnedTupleGo_enum (s := { s with heap := g', toks := s.toks + 1 }) ho fun g2 h2 sb => ?_⟩
    have hT2 : g2.get? s.heap.objs.size = some { cls := .type "tuple", data := .seq #[.int (lo + (i : Nat)) s.toks, u] } := same_at sb (Nat.ne_of_gt le) _ hT
    have new : ObjOk X.prog X.w (upd H s.heap.objs.size (.tup [.int (lo + (i : Nat)), x])) g2 s.heap.objs.size (.tup [.int (lo + (i : Nat)), x]) :=
      ⟨by show 2 ≤ sizeLine; decide, [.int (lo + (i : Nat)) s.toks, u], .cons ⟨_, rfl⟩ (.cons ru .nil), ⟨_, hT2, rfl, _, rfl⟩⟩
    have I1 : Inv X pins σ (upd H s.heap.objs.size (.tup [.int (lo + (i : Nat)), x])) { s with heap := g2, toks := s.toks + 1 } :=
      I.turnedNew (ch := [e, it]) (fun c o hc z => same_at sb (fun y => hc (by simp [y])) _ (hk c o (fun y => hc (by simp [y])) (fun y => hc (by simp [y])) z)) hf (Nat.le_refl _) new
    refine ⟨.ref s.heap.objs.size, _, I1, rfl, ⟨_, x, rfl, I.hok.fresh (Nat.le_refl _), rfl, fun ys hy => by rw [G.inj rfl rfl rfl I hy hq]; exact hx⟩, ⟨⟨u, ?_⟩, R.kst n1 fun o z => same_at sb nei.symm _ z⟩, fun c hc => ?_⟩
    · have e1 : lo + ((i + 1 : Nat) : Int) = lo + (i : Nat) + 1 := by omega
      rw [e1]; exact h2
    · have lc : c < s.heap.objs.size := by
        rcases List.mem_cons.mp hc with z | z
        · rw [z]; exact le
        · rw [List.mem_singleton.mp z]; exact li
      rw [upd_ne (Nat.ne_of_lt lc)]
      exact (hf c hc).1
  done := by
    intro X hP hw hK hc i pins s σ H E I hf ⟨⟨old, he⟩, hs⟩ ⟨xs, hq, hx⟩
    obtain ⟨its, rv, c⟩ := G.get hP hw hK I hq
    subst hP hw hK
    have hl := rv.length
    obtain ⟨f0, f1, f2, f3, f4, f5⟩ := hf it (by simp)
    exact enum_out R (I.ok.hd hc) he hs c (by simp; omega) fun g' q => ⟨rfl, I.turned (t' := s.toks) (fun b o hb z => q b o hb z) f0 f1 f3 f4 f5⟩
  self := fun A i s Q E ⟨⟨_, he⟩, _⟩ h => wpAny_pyIter_enum he h
/-- a zip of two sequences -/
def ItZ (Sq Sr : Hp → List V → Prop) : It :=
  ⟨fun i H => ∃ (xs ys : List V) (x y : V), Sq H xs ∧ Sr H ys ∧ xs[i]? = some x ∧ ys[i]? = some y,
    fun i H v H' => ∃ T x y, v = .ref T ∧ H T = none ∧ H' = upd H T (.tup [x, y]) ∧ (∀ xs, Sq H xs → xs[i]? = some x) ∧ ∀ ys, Sr H ys → ys[i]? = some y,
    fun i H => ∃ xs ys : List V, Sq H xs ∧ Sr H ys ∧ (xs.length ≤ i ∨ ys.length ≤ i)⟩
theorem turn_Z {P : Program} {w : World} {K : PySem.W.Frag} {elts : List Expr} {kk : Nat} {tpos : Pos} {zz TI TO i1 i2 l1 l2 : Addr} {S1 S2 : Nat → Heap → Prop} {C1 C2 : Heap → Array Value → Prop} {Sq Sr : Hp → List V → Prop} (R1 : Src P w i1 l1 S1 C1) (R2 : Src P w i2 l2 S2 C2)
    (G1 : Sqs P w K Sq C1) (G2 : Sqs P w K Sr C2) (D : ZipApart zz TI TO i1 i2 l1 l2) :
    Turn P w K (.Tuple elts kk tpos) (ItZ Sq Sr) [zz, TI, TO, i1, i2] zz (fun i g => IsZip g zz TI TO .none ∧ IsPair g TI (.ref i1) (.ref i2) ∧ (∃ x y, IsPair g TO x y) ∧ S1 i g ∧ S2 i g) where
  mem := List.mem_cons_self ..
  obj := fun i g ⟨hz, hTI, ⟨x, y, hTO⟩, h1, h2⟩ c hc => by
    obtain ⟨o1, v1, a1, d1⟩ := R1.obj h1
    obtain ⟨o2, v2, a2, d2⟩ := R2.obj h2
    have hc' : c = zz ∨ c = TI ∨ c = TO ∨ c = i1 ∨ c = i2 := by simpa using hc
    rcases hc' with z | z | z | z | z <;> rw [z]
    · exact ⟨_, hz, fun v q => nomatch q⟩
    · exact ⟨_, hTI, fun v q => nomatch q⟩
    · exact ⟨_, hTO, fun v q => nomatch q⟩
    · exact ⟨o1, a1, fun v q => by rw [d1] at q; cases q⟩
    · exact ⟨o2, a2, fun v q => by rw [d2] at q; cases q⟩
  keep := fun i g g' ⟨hz, hTI, ⟨x, y, hTO⟩, h1, h2⟩ k => ⟨k zz (by simp) _ hz, k TI (by simp) _ hTI, ⟨x, y, k TO (by simp) _ hTO⟩, R1.kst h1 fun o z => k i1 (by simp) o z, R2.kst h2 fun o z => k i2 (by simp) o z⟩
  item := by
    intro X hP hw hK hc i pins s σ H E I hf ⟨hz, hTI, ⟨x0, y0, hTO⟩, h1, h2⟩ ⟨xs, ys, x, y, hqx, hqy, hx, hy⟩
    obtain ⟨its, rv, c1⟩ := G1.get hP hw hK I hqx
    obtain ⟨its2, rv2, c2⟩ := G2.get hP hw hK I hqy
    subst hP hw hK
    obtain ⟨u, hu, ru⟩ := rv.get hx
    obtain ⟨u2, hu2, ru2⟩ := rv2.get hy
    have lz : zz < s.heap.objs.size := Heap.lt_size hz
    have ty : s.TypeIs (.ref zz) "zip" := ⟨_, hz, rfl⟩
    unfold pyNext
    refine wpAny_bind (wpAny_attempt (wpAny_callSpecial?_slot (name := Str.ofString "__next__") ty F.slot_zip_next (wpAny_call_entry F.slot_zip_next ty F.entry_zip_next
      (zip_up (Q := fun v s' => wpAny _ _ (pure (some v)) _ _ s') R1 R2 D hz hTI hTO h1 h2 c1 c2 (x := u) (y := u2) (by simpa using hu) (by simpa using hu2) fun g' z' o' n1 n2 hT hsz hk => wpAny_pure ?_) (F.args_zip_next_1 _))))
    refine ⟨_, rfl, wpAny_letOwnedTupleGo_zip (s := { s with heap := g' }) z' fun g2 z2 sb => ?_⟩
    have hT2 : g2.get? s.heap.objs.size = some { cls := .type "tuple", data := .seq #[u, u2] } := same_at sb (Nat.ne_of_gt lz) _ hT
    have new : ObjOk X.prog X.w (upd H s.heap.objs.size (.tup [x, y])) g2 s.heap.objs.size (.tup [x, y]) := ⟨by show 2 ≤ sizeLine; decide, [u, u2], .cons ru (.cons ru2 .nil), ⟨_, hT2, rfl, _, rfl⟩⟩
    have I1 : Inv X pins σ (upd H s.heap.objs.size (.tup [x, y])) { s with heap := g2 } :=
      I.turnedNew (t' := s.toks) (ch := [zz, TI, TO, i1, i2]) (fun c o hc z => same_at sb (fun y => hc (by simp [y])) _ (hk c o (fun y => hc (by simp [y])) (fun y => hc (by simp [y])) (fun y => hc (by simp [y])) (fun y => hc (by simp [y])) z)) hf (Nat.le_refl _) new
    refine ⟨.ref s.heap.objs.size, _, I1, rfl, ⟨_, x, y, rfl, I.hok.fresh (Nat.le_refl _), rfl, fun l hl => by rw [G1.inj rfl rfl rfl I hl hqx]; exact hx, fun l hl => by rw [G2.inj rfl rfl rfl I hl hqy]; exact hy⟩,
      ⟨z2, same_at sb D.TIz _ (hk _ _ D.TIz D.TITO D.TIi1 D.TIi2 hTI), ⟨u, u2, same_at sb D.TOz _ o'⟩, R1.kst n1 fun o z => same_at sb D.i1z _ z, R2.kst n2 fun o z => same_at sb D.i2z _ z⟩, fun c hc => ?_⟩
    have lt : c < s.heap.objs.size := by
      obtain ⟨o1, v1, a1, d1⟩ := R1.obj h1
      obtain ⟨o2, v2, a2, d2⟩ := R2.obj h2
      have hc' : c = zz ∨ c = TI ∨ c = TO ∨ c = i1 ∨ c = i2 := by simpa using hc
      rcases hc' with z | z | z | z | z <;> rw [z]
      · exact lz
      · exact Heap.lt_size hTI
      · exact Heap.lt_size hTO
      · exact Heap.lt_size a1
      · exact Heap.lt_size a2
    rw [upd_ne (Nat.ne_of_lt lt)]
    exact (hf c hc).1
  done := by
    intro X hP hw hK hc i pins s σ H E I hf ⟨hz, hTI, ⟨x0, y0, hTO⟩, h1, h2⟩ ⟨xs, ys, hqx, hqy, hend⟩
    obtain ⟨its, rv, c1⟩ := G1.get hP hw hK I hqx
    obtain ⟨its2, rv2, c2⟩ := G2.get hP hw hK I hqy
    subst hP hw hK
    have m1 := rv.length
    have m2 := rv2.length
    have he : its.toArray[i]? = none ∨ its2.toArray[i]? = none := hend.imp (fun q => by simp; omega) fun q => by simp; omega
    have ty : s.TypeIs (.ref zz) "zip" := ⟨_, hz, rfl⟩
    unfold pyNext
    refine wpAny_bind (wpAny_attempt (wpAny_callSpecial?_slot (name := Str.ofString "__next__") ty F.slot_zip_next (wpAny_call_entry F.slot_zip_next ty F.entry_zip_next
      (zip_out (A := X.A.in1) R1 R2 D (show X.A.in1.handled = none from I.ok.hd hc) hz hTI hTO h1 h2 c1 c2 he fun g' e hk ⟨o, ho, hcl⟩ => ?_) (F.args_zip_next_1 _))))
    refine wpAny_bind (wpAny_isInstance (T := "StopIteration") (b := true) ⟨o, ho, hcl⟩ isSubtype_stop (wpAny_pure ⟨rfl, ?_⟩))
    exact I.turnedL (t' := s.toks) (ch := [zz, TI, TO, i1, i2]) (fun c o hb z => hk c o (fun q => hb (by simp [q])) (fun q => hb (by simp [q])) (fun q => hb (by simp [q])) (fun q => hb (by simp [q])) z) hf
  self := fun A i s Q E st h => wpAny_pyIter_zip st.1 h
/-! ### the calls: zip of a list and a tuple; enumerate from a number on, of a list, of a tuple -/
abbrev zlt (h : Heap) (l1 l2 : Addr) : Heap := ((((h.push { cls := .type "list_iterator", data := .fields #[.ref l1, .int 0 0] }).push { cls := .type "tuple_iterator", data := .fields #[.ref l2, .int 0 0] }).push { cls := .type "tuple", data := .seq #[.ref h.objs.size, .ref (h.push { cls := .type "list_iterator", data := .fields #[.ref l1, .int 0 0] }).objs.size] }).push { cls := .type "tuple", data := .seq #[.none, .none] })
abbrev zlt2 (h : Heap) (l1 l2 : Addr) : Heap := (h.push { cls := .type "list_iterator", data := .fields #[.ref l1, .int 0 0] }).push { cls := .type "tuple_iterator", data := .fields #[.ref l2, .int 0 0] }
abbrev zlt3 (h : Heap) (l1 l2 : Addr) : Heap := (zlt2 h l1 l2).push { cls := .type "tuple", data := .seq #[.ref h.objs.size, .ref (h.push { cls := .type "list_iterator", data := .fields #[.ref l1, .int 0 0] }).objs.size] }
abbrev zlt5 (h : Heap) (l1 l2 : Addr) : Heap := (zlt h l1 l2).push { cls := .type "zip", data := .fields #[.none, .bool false, .bool false, .ref (zlt2 h l1 l2).objs.size, .ref (zlt3 h l1 l2).objs.size] }
theorem meets_zlt (l1 l2 : Addr) (xs ys : Array Value) : Meets (Builtin.«zip.__new__» ⟨[.type "zip", .ref l1, .ref l2], []⟩) (fun _ R s => s.heap.IsList l1 xs ∧ s.heap.IsTuple l2 ys ∧ R (.ok (.ret (.ref (zlt s.heap l1 l2).objs.size))) { s with heap := zlt5 s.heap l1 l2 }) :=
  .of_wp fun prog w A R s h => by
    obtain ⟨hp, g, d, tk, os⟩ := s
    obtain ⟨a1, a2, k⟩ := h
    have sub_ := sub_zip
    have L1 : Heap.IsList (Shared.heap ⟨hp, g, d, tk, os⟩) l1 xs := a1
    have L2 : Heap.IsTuple (Shared.heap ⟨hp.push { cls := .type "list_iterator", data := .fields #[.ref l1, .int 0 0] }, g, d, tk, os⟩) l2 ys := Heap.IsTuple.push a2 _
    wp_walk using wpAny_pyIter_list L1, wpAny_pyIter_tuple L2
    exact ⟨_, rfl, k⟩
section
variable {P : Program} {w : World} {A : Around} {E : Value → Shared → Prop} {s : Shared}
theorem call_zlt {l1 l2 : Addr} {xs ys : Array Value} {Q : Value → Shared → Prop} (a1 : s.heap.IsList l1 xs) (a2 : s.heap.IsTuple l2 ys)
    (h : ∀ g', IsZip g' (s.heap.objs.size + 4) (s.heap.objs.size + 2) (s.heap.objs.size + 3) .none → IsPair g' (s.heap.objs.size + 2) (.ref s.heap.objs.size) (.ref (s.heap.objs.size + 1)) → IsPair g' (s.heap.objs.size + 3) .none .none →
      g'.IsListIter s.heap.objs.size l1 0 → g'.IsTupleIter (s.heap.objs.size + 1) l2 0 → (∀ c o, s.heap.get? c = some o → g'.get? c = some o) → Q (.ref (s.heap.objs.size + 4)) { s with heap := g' }) :
    wpAny (model P w) A (call (.type "zip") [.ref l1, .ref l2]) Q E s := by
  refine callType_new F.called_zip (by decide) (F.typeCall_zip_2 _ _) (F.newCall_zip_2 _ _) (fun obj => F.args_object_init_3 obj _ _) F.entry_zip_new (meets_zlt l1 l2 xs ys) ⟨a1, a2, ?_⟩
  have n1 : (s.heap.push { cls := .type "list_iterator", data := .fields #[.ref l1, .int 0 0] }).objs.size = s.heap.objs.size + 1 := Heap.size_push ..
  have n2 : (zlt2 s.heap l1 l2).objs.size = s.heap.objs.size + 2 := by rw [Heap.size_push, n1]
  have n3 : (zlt3 s.heap l1 l2).objs.size = s.heap.objs.size + 3 := by rw [Heap.size_push, n2]
  have n4 : (zlt s.heap l1 l2).objs.size = s.heap.objs.size + 4 := by rw [Heap.size_push, Heap.size_push, n2]
  have b5 : (zlt5 s.heap l1 l2).get? (zlt s.heap l1 l2).objs.size = some _ := Heap.get?_push_size _ rfl
  have b4 : (zlt5 s.heap l1 l2).get? (zlt3 s.heap l1 l2).objs.size = some _ := Heap.get?_push_of_some _ (Heap.get?_push_size _ rfl)
  have b3 : (zlt5 s.heap l1 l2).get? (zlt2 s.heap l1 l2).objs.size = some _ := Heap.get?_push_of_some _ (Heap.get?_push_of_some _ (Heap.get?_push_size _ rfl))
  have b2 : (zlt5 s.heap l1 l2).get? (s.heap.push { cls := .type "list_iterator", data := .fields #[.ref l1, .int 0 0] }).objs.size = some _ := Heap.get?_push_of_some _ (Heap.get?_push_of_some _ (Heap.get?_push_of_some _ (Heap.get?_push_size _ rfl)))
  have b1 : (zlt5 s.heap l1 l2).get? s.heap.objs.size = some _ := Heap.get?_push_of_some _ (Heap.get?_push_of_some _ (Heap.get?_push_of_some _ (Heap.get?_push_of_some _ (Heap.get?_push_size _ rfl))))
  show _ ∧ _
  rw [n2, n3, n4] at b5
  rw [n1, n2] at b3
  rw [n3] at b4
  rw [n1] at b2
  rw [n4]
  exact ⟨⟨_, b5, rfl⟩, h _ b5 b3 b4 ⟨_, b1, rfl, rfl⟩ ⟨_, b2, rfl, rfl⟩ fun c o x => Heap.get?_push_of_some _ (Heap.get?_push_of_some _ (Heap.get?_push_of_some _ (Heap.get?_push_of_some _ (Heap.get?_push_of_some _ x))))⟩
end
def iZipLT (K : PySem.W.Frag) (ta : TA) : TI := fun σ H R => ta σ H fun vs H1 => ∃ a b xs ys, vs = [.ref a, .ref b] ∧ SqL K H1 a xs ∧ SqT K H1 b ys ∧ R (ItZ (fun H xs => SqL K H a xs) (fun H ys => SqT K H b ys)) H1
theorem pi_zipLT {X : Cx} {e e2 : Expr} {ta : TA} {p pos tpos : Pos} {elts : List Expr} {kk : Nat} (hg : Gl X "zip") (hm : X.mg "zip" = none) (ha : PA X [e, e2] ta)
    (hs : starEach [e, e2] X.env = (false, eval e X.env) :: starEach [e2] X.env := by rfl) (hpl : (backTo pos (starEach [e2] X.env)).any (·.1) = false := by rfl) :
    PI X (.Tuple elts kk tpos) (.Call (.Name "zip" p) [e, e2] [] pos) (iZipLT X.K ta) := by
  refine ⟨fun pins s σ H R I h => Call_ (ld_blt I hg hm PyProof.Rows.boot_zip (PyProof.Rows.callWith_type1 (thn (ha.run pos pins s σ H _ I h) fun us s1 ⟨vs, H1, I1, r1, a, b, xs, ys, ex, hx, hy, q⟩ => ?_) hs hpl))⟩
  subst ex
  cases r1 with
  | cons r rr =>
    cases rr with
    | cons r' rr =>
      cases rr
      cases r
      cases r'
      obtain ⟨its, rv, p1, _⟩ := I1.list hx
      obtain ⟨its2, rv2, p2, _⟩ := I1.tuple hy
      obtain ⟨o2, ho2, _⟩ := id p2
      refine call_zlt p1.isList (show s1.heap.IsTuple b its2.toArray from p2) fun g' hz hTI hTO h1 h2 hk => wpAny_pyIter_zip hz ?_
      have I2 : Inv X pins σ H1 { s1 with heap := g' } := I1.kept (t' := s1.toks) hk
      refine ⟨s1.heap.objs.size + 4, [s1.heap.objs.size + 4, s1.heap.objs.size + 2, s1.heap.objs.size + 3, s1.heap.objs.size, s1.heap.objs.size + 1], _, _, H1, rfl, I2,
        turn_Z src_list src_tup sqs_list sqs_tup (PySem.W.ktu_apart s1.heap.objs.size a b p1.lt (Heap.lt_size ho2)), ⟨hz, hTI, ⟨_, _, hTO⟩, h1, h2⟩, fun c hc => ?_, q⟩
      have le : s1.heap.objs.size ≤ c := by
        have hc' : c = s1.heap.objs.size + 4 ∨ c = s1.heap.objs.size + 2 ∨ c = s1.heap.objs.size + 3 ∨ c = s1.heap.objs.size ∨ c = s1.heap.objs.size + 1 := by simpa using hc
        rcases hc' with z | z | z | z | z <;> rw [z] <;> first | exact Nat.le_add_right _ _ | exact Nat.le_refl _
      exact I1.fpOk le (I1.hok.fresh le)
/-- a call of a built-in class with keywords -/
theorem call_cls_kw {M : Model} {A : Around} {E : Value → Shared → Prop} {s : Shared} {env : Env} {pos : Pos} {cls : String} {e : Expr} {more : List Expr} {ks : List Keyword} {Q : Value → Shared → Prop}
    (h : wpAny M A (spliced (backTo pos (starEach (e :: more) env))) (fun us s1 => wpAny M A (evalAll ((backToKw pos (keywordEach ks env)).map (·.2)))
      (fun zs s2 => wpAny M A (call (.type cls) us (((backToKw pos (keywordEach ks env)).filterMap (·.1)).zip zs)) Q E s2) E s1) E s)
    (fst_ : backTo pos (starEach (e :: more) env) = (false, eval e env) :: backTo pos (starEach more env) := by rfl)
    (noStar : (backTo pos (starEach (e :: more) env)).any (·.1) = false := by rfl) (named : (backToKw pos (keywordEach ks env)).all (·.1.isSome) = true := by rfl) (noDbl : (backToKw pos (keywordEach ks env)).any (·.1.isNone) = false := by rfl) :
    wpAny M A (callWith pos (.type cls) [] (backTo pos (starEach (e :: more) env)) (backToKw pos (keywordEach ks env))) Q E s := by
  have args_ : wpAny M A (evalArgs (.type cls) true (backTo pos (starEach (e :: more) env)) (backToKw pos (keywordEach ks env))) (fun a s1 => wpAny M A (call (.type cls) ([] ++ a.pos) a.kw) Q E s1) E s := by
    rw [fst_] at h ⊢
    exact evalArgs_kwB named h
  unfold callWith
  refine wpAny_bind (wpAny_holding (wpAny_mono args_ (fun a s1 q => wpAny_bind (wpAny_standAt ?_)) fun _ _ y => y)); simp only [noStar, noDbl, Bool.or_false]
  refine wpAny_bind (wpAny_pure (wpAny_bind (wpAny_mono q (fun r s2 hr => wpAny_bind (wpAny_holding (wpAny_point (wpAny_pure hr)))) fun _ _ y => y)))
def IteS (K : PySem.W.Frag) (a : Addr) (lo : Int) : It := ItE (fun H xs => SqL K H a xs) lo
def iEnumS (K : PySem.W.Frag) (ta : TA) : TI := fun σ H R => ta σ H fun vs H1 => ∃ a xs, vs = [.ref a] ∧ SqL K H1 a xs ∧ R (IteS K a 1) H1
theorem pi_enumS {X : Cx} {e : Expr} {ta : TA} {p pos tpos kp cp : Pos} {kc} {elts : List Expr} {kk : Nat} (hg : Gl X "enumerate") (hm : X.mg "enumerate" = none) (ha : PA X [e] ta) (hs : starEach [e] X.env = [(false, eval e X.env)] := by rfl) :
    PI X (.Tuple elts kk tpos) (.Call (.Name "enumerate" p) [e] [⟨some "start", .Constant (.int 1) kc cp, kp⟩] pos) (iEnumS X.K ta) := by
  refine ⟨fun pins s σ H R I h => ?_⟩
  show wpAny _ _ (eval (.Name "enumerate" p) X.env >>= _) _ _ _
  refine wpAny_bind (ld_blt I hg hm PyProof.Rows.boot_enumerate (call_cls_kw (thn (ha.run pos pins s σ H _ I h) fun us s1 ⟨vs, H1, I1, r1, a, xs, ex, hx, q⟩ => ?_) (by rw [hs]; rfl) (by rw [hs]; rfl)))
  subst ex
  cases r1 with
  | cons r rr =>
    cases rr
    cases r
    refine kws_cons (wpAny_Constant_int (kws_nil ?_))
    have J1 := I1.tok (s1.toks + 1)
    obtain ⟨its, rv, p1, _⟩ := I1.list hx
    show wpAny _ _ (call (.type "enumerate") [.ref a] [(Str.ofString "start", .int 1 s1.toks)]) _ _ _
    refine enum_begins_start (begins_list a its.toArray) p1.isList (by decide) (by decide) fun g' he hit hsz hk => wpAny_pyIter_enum he ?_
    have I2 : Inv X pins σ H1 { s1 with heap := g', toks := s1.toks + 1 } := I1.kept hk
    refine ⟨s1.heap.objs.size + 1, [s1.heap.objs.size + 1, s1.heap.objs.size], _, _, H1, rfl, I2, turn_E src_list sqs_list (Nat.succ_ne_self _), ⟨⟨_, he⟩, ⟨_, hit, rfl, rfl⟩⟩, fun c hc => ?_, q⟩
    have le : s1.heap.objs.size ≤ c := by
      have hc' : c = s1.heap.objs.size + 1 ∨ c = s1.heap.objs.size := by simpa using hc
      rcases hc' with z | z <;> rw [z] <;> first | exact Nat.le_add_right _ _ | exact Nat.le_refl _
    exact I1.fpOk le (I1.hok.fresh le)
end Td
set_option maxHeartbeats 4000000
namespace Td
open PySem PySem.Spec PyProof.Rows L2
/-! ### the number of texts in set(list of different texts) -/
abbrev emptySet (led : Bool) : Obj := { cls := .type "set", dict := none, data := .set #[] 0 (.fresh 0 0 led) }
section
variable {P : Program} {w : World} {A : Around}
theorem fill_texts {R : Result → Shared → Prop} {j a : Addr} {fp wr : List Addr} {G : Array GenState → Array GenState → Prop} {n : Nat} {Pv : Nat → Value → Prop} {St : Nat → Shared → Prop} (W : WalksS P w A.in1 j fp wr G n Pv St) (na : a ∉ fp)
    (ss : List Str) (nd : ss.Nodup) (ln : ss.length = n) (few : n + 1 < scanBound) (rd : ∀ i v, Pv i v → ∃ x t, ss[i]? = some x ∧ v = .str x t) : ∀ (d i : Nat) (s : Shared), n - i = d → i ≤ n → St i s →
      s.heap.SetOf (PySem.strKind P w) a (fun k => decide (k ∈ ss.take i)) i → (∀ s', Moved (a :: wr) G s s' → s'.heap.SetOf (PySem.strKind P w) a (fun k => decide (k ∈ ss)) n → R (.ok (.ret .none)) s') →
      codeAny (model P w) A (.builtin "set.update.loop" ⟨[.ref a, .ref j], []⟩) R s := by
  have naw : a ∉ wr := fun q => na (W.sub _ q)
  have up : ∀ c ∈ wr, c ∈ a :: wr := fun c q => List.mem_cons_of_mem _ q
  have keep : ∀ {s s' : Shared} {S : Str → Bool} {m : Nat}, Moved wr G s s' → s.heap.SetOf (PySem.strKind P w) a S m → s'.heap.SetOf (PySem.strKind P w) a S m := fun mv ⟨o, es, ep, t, ho, r⟩ => ⟨o, es, ep, t, mv.heap a o naw ho, r⟩
  intro d
  induction d with
  | zero =>
    intro i s hd hi st hs q
    have e : i = n := by omega
    subst e
    refine codeAny_builtin PyProof.Rows.F.entry_set_update_loop ?_; rw [Around.under_plainId PyProof.Rows.F.plain_set_update_loop _]
    show wpAny _ A.in1 (pyNext (.ref j) >>= _) _ _ s; refine wpAny_bind (W.done s _ _ st fun s' mv => ?_)
    show wpAny _ A.in1 (ret Value.none) _ _ s'; refine wpAny_pure (q s' (mv.mono up) ?_)
    rw [List.take_of_length_le (Nat.le_of_eq ln)] at hs
    exact keep mv hs
  | succ d ih =>
    intro i s hd hi st hs q
    have lt : i < n := by omega
    refine codeAny_builtin PyProof.Rows.F.entry_set_update_loop ?_; rw [Around.under_plainId PyProof.Rows.F.plain_set_update_loop _]
    show wpAny _ A.in1 (pyNext (.ref j) >>= _) _ _ s; refine wpAny_bind (W.item i s _ _ lt st fun v s' hv st' mv => ?_)
    obtain ⟨x, t, hx, rfl⟩ := rd i v hv
    have new : x ∉ ss.take i := fun hm => by
      obtain ⟨m, hm1⟩ := List.mem_iff_getElem?.mp hm
      rw [List.getElem?_take] at hm1
      split at hm1
      · rename_i hmi
        obtain ⟨l1, e1⟩ := List.getElem?_eq_some_iff.mp hm1
        obtain ⟨l2, e2⟩ := List.getElem?_eq_some_iff.mp hx
        exact List.pairwise_iff_getElem.mp nd m i l1 l2 hmi (e1.trans e2.symm)
      · cases hm1
    show wpAny _ A.in1 (holding [Value.str x t] (setAdd a (.str x t)) >>= _) _ _ s'
    refine wpAny_bind (wpAny_holding ?_); unfold setAdd
    have hs1 : s'.heap.SetOf (PySem.strKind P w) a (fun k => decide (k ∈ ss.take i)) i := keep mv hs
    refine wpAny_holding (wpAny_bind ((PySem.strKind P w).pyHash (k := x) (strKind_is _ _ _ _) ?_))
    refine wpAny_setAddHashed_of (knd := PySem.strKind P w) (s := { s' with toks := s'.toks + 1 }) (strKind_is _ _ _ _) rfl hs1 (by omega) fun g sb h2 => ?_
    have h3 : g.SetOf (PySem.strKind P w) a (fun k => decide (k ∈ ss.take (i + 1))) (i + 1) := SetOf_congr h2 (fun k => by rw [List.take_add_one, hx]; simp [List.mem_append]) (by rw [decide_eq_false new]; rfl)
    have off : ∀ c, c ≠ a → ∀ o, s'.heap.get? c = some o → g.get? c = some o := fun c z o e => (sb.2 c z).trans e
    refine wpAny_pure ⟨plainId_quiet PyProof.Rows.F.plain_set_update_loop _, ih (i + 1) _ (by omega) lt (W.frame _ s' _ _ st' (Nat.le_succ _) fun c hc o e => off c (fun z => na (z ▸ hc)) o e) h3 fun s2 mv2 h4 => q s2 ?_ h4⟩
    exact Moved.trans W.gtrans ((mv.mono up).then_heap (Nat.le_succ _) fun c o hc e => off c (fun z => hc (z ▸ List.mem_cons_self ..)) o e) mv2
end
section
variable {P : Program} {w : World} {A : Around} {E : Value → Shared → Prop} {s : Shared}
def Filled (P : Program) (w : World) (ss : List Str) (s s2 : Shared) : Prop :=
  ∃ g tk, s2 = { s with heap := g, toks := tk } ∧ g.SetOf (PySem.strKind P w) s.heap.objs.size (fun k => decide (k ∈ ss)) ss.length ∧ ∀ c o, c < s.heap.objs.size → s.heap.get? c = some o → g.get? c = some o
set_option maxHeartbeats 8000000 in
theorem call_set_texts {l : Addr} {its : Array Value} {ss : List Str} {Q : Value → Shared → Prop} (hh : A.handled = none) (hl : s.heap.IsList l its) (ln : ss.length = its.size) (nd : ss.Nodup) (few : its.size + 1 < scanBound)
    (rd : ∀ (i : Nat) (v : Value), its[i]? = some v → ∃ x t, ss[i]? = some x ∧ v = Value.str x t) (q : ∀ s2, Filled P w ss s s2 → Q (.ref s.heap.objs.size) s2) : wpAny (model P w) A (call (.type "set") [.ref l]) Q E s := by
  obtain ⟨k0, k1, ro⟩ := PySem.F.called_set.mro
  have f1 := PySem.F.called_set.made; have f2 := PySem.F.called_set.sub; have f3 := PySem.F.called_set.notType
  have f4 := PySem.F.called_set.canCreate; have f5 := PySem.F.typeCall_set_1 (.ref l)
  refine wpAny_call (codeAny_of_tree ?_); show wpAny _ _ (callAny (.type "set") _) _ _ _
  refine wpAny_pure ⟨Code.quiet_builtin _ (by decide +kernel), codeAny_builtin PySem.F.entry_type_call ?_⟩; rw [Around.under_plain (weight_type_call_type "set" [.ref l] []) rfl]
  repeat (any_goals (first | assumption | wp_step))
  refine codeAny_mono (code_set_new_1 (.ref l) (E := E) (Q₁ := fun v s1 => ∃ led : Bool, v = .ref s.heap.objs.size ∧ s1 = { s with heap := s.heap.push (emptySet led) }) fun led => ⟨led, rfl, rfl⟩) fun r s1 hr => ?_
  cases r with
  | error e => exact hr
  | ok fl =>
    cases fl with
    | ret v =>
      obtain ⟨led, rfl, rfl⟩ := hr
      have at1 : (s.heap.push (emptySet led)).get? s.heap.objs.size = some (emptySet led) := Heap.get?_push_size _ rfl
      have ty : Shared.TypeIs { s with heap := s.heap.push (emptySet led) } (.ref s.heap.objs.size) "set" := ⟨_, at1, rfl⟩
      have f6 := PySem.F.called_set.init.lookup; have f7 := PySem.F.called_set.init.bind (.ref s.heap.objs.size)
      repeat (any_goals (first | assumption | wp_step))
      refine codeAny_mono (codeAny_call_builtin (R := wants (fun r s2 => r = .none ∧ Filled P w ss s s2) E) PySem.F.called_set.init.plain PySem.F.entry_set_init (check_set_init_1 ty ?_)) fun r2 s2 hr2 => ?_
      · obtain ⟨⟨oc, od, odt, osl⟩, hol, hcl, nl, hdl⟩ := hl
        simp only at hcl hdl
        subst hcl; subst hdl
        have at2 : (s.heap.push (emptySet led)).get? l = some { cls := .type "list", dict := od, data := .seq its nl, slots := osl } := Heap.get?_push_of_some _ hol
        have g1 := PySem.F.sub_list_set; have g2 := PySem.F.sub_list_frozenset
        have g3 : (Value.type "list" == Value.type "dict") = false := by decide
        have li : (s.heap.push (emptySet led)).IsList l its := ⟨_, at2, rfl, nl, rfl⟩
        unfold Builtin.«set.__init__» noKeywords Builtin.Frozenset.updateFrom
        generalize keepIt : pyIter = itr
        wp_walk
        subst keepIt
        refine wpAny_pyIter_list li (wpAny_bind (wpAny_runValue ?_))
        have lt : l < s.heap.objs.size := Heap.lt_size hol
        have z1 : (s.heap.push (emptySet led)).objs.size = s.heap.objs.size + 1 := Heap.size_push ..
        have n1 : l ≠ (s.heap.push (emptySet led)).objs.size := by rw [z1]; exact Nat.ne_of_lt (Nat.lt_succ_of_lt lt)
        have n2 : s.heap.objs.size ∉ [(s.heap.push (emptySet led)).objs.size, l] := by
          rw [z1]; intro hm; rcases List.mem_cons.mp hm with z | z
          · exact Nat.ne_of_lt (Nat.lt_succ_self _) z
          · exact Nat.ne_of_gt lt (List.mem_singleton.mp z)
        have hd3 : A.in1.in1.in1.handled = none := by simp [hh]
        refine fill_texts ((Walks.list hd3 _ l n1 its).toS) n2 ss nd ln few rd (its.size - 0) 0 _ (by omega) (Nat.zero_le _) ⟨⟨_, Heap.get?_push_size _ rfl, rfl, rfl⟩, li.push _⟩ ?start ?stop
        case start => exact SetOf_congr ((setObjOf_fresh (knd := PySem.strKind P w) led).setOf (Heap.get?_push_of_some _ at1) (by unfold scanBound; omega)) (fun _ => rfl) rfl
        case stop =>
          rintro ⟨g, gn, dr, tk, os⟩ mv hs
          have e1 : gn = s.gens := mv.gens
          have e2 : dr = s.drawn := mv.drawn
          have e3 : os = s.os := mv.os
          subst e1; subst e2; subst e3
          refine wpAny_pure ?_; show wpAny _ _ (ret Value.none) _ _ _
          rw [← ln] at hs
          refine wpAny_pure ⟨rfl, g, tk, rfl, hs, fun c o hc e => mv.heap c o (fun hm => ?_) (Heap.get?_push_of_some _ (Heap.get?_push_of_some _ e))⟩
          rcases List.mem_cons.mp hm with z | z
          · exact Nat.ne_of_lt hc z
          · rw [List.mem_singleton.mp z, z1] at hc
            exact absurd hc (by omega)
      · cases r2 with
        | error e => exact hr2
        | ok fl2 =>
          cases fl2 with
          | ret r =>
            obtain ⟨rfl, hF⟩ := hr2
            repeat (any_goals (first | assumption | wp_step))
            exact q _ hF
          | _ => exact hr2.elim
    | _ => exact hr.elim
end
theorem txt_vals : ∀ {ss : List Str} {us : List Value}, Vals (ss.map V.str) us → ∀ (i : Nat) (v : Value), us[i]? = some v → ∃ x t, ss[i]? = some x ∧ v = Value.str x t
  | [], _, .nil, i, v, h => by simp at h
  | x :: ss, _, .cons r rr, 0, v, h => by
    obtain ⟨t, rfl⟩ := r
    simp at h
    exact ⟨x, t, rfl, h.symm⟩
  | x :: ss, _, .cons r rr, i + 1, v, h => txt_vals rr i v (by simpa using h)
def tLenSetS (K : PySem.W.Frag) (ta : TE) : TE := fun σ H Q => ta σ H fun x H1 => ∃ (l : Addr) (ss : List Str), x = .ref l ∧ SqL K H1 l (ss.map V.str) ∧ ss.length ≤ 4000 ∧ ss.Nodup ∧ Q (.int (ss.length : Nat)) H1
theorem pe_lenSetS {X : Cx} {a : Expr} {ta : TE} {p p2 q pos : Pos} (hg : Gl X "len") (hm : X.mg "len" = none) (hg2 : Gl X "set") (hm2 : X.mg "set" = none) (ha : PE X a ta) (hc : X.calm = true := by rfl)
    (na : starEach [a] X.env = (false, eval a X.env) :: starEach [] X.env := by rfl) : PE X (.Call (.Name "len" p) [.Call (.Name "set" p2) [a] [] q] [] pos) (tLenSetS X.K ta) := by
  refine ⟨fun pins s σ H Q I h => Call_ (ld_blt I hg hm boot_len (PyProof.Rows.callWith_builtin1 (PyProof.Rows.args_cons (Call_ (ld_blt I hg2 hm2 boot_set ?_)) rfl) rfl rfl))⟩
  refine PyProof.Rows.callWith_type1 (PyProof.Rows.args_cons (thn (ha.run pins s σ H _ I h) fun v s1 ⟨x, H1, I1, r1, l, ss, ex, hq, hl, nd, q1⟩ => PyProof.Rows.args_nil ?_) na) na rfl
  subst ex
  cases r1
  obtain ⟨its, r, pl, hz⟩ := I1.list hq
  have ln : ss.length = its.toArray.size := by rw [List.size_toArray, ← r.length, List.length_map]
  refine call_set_texts (I1.ok.hd hc) pl.isList ln nd (by rw [← ln]; unfold scanBound; omega) (fun i v e => txt_vals r i v (by simpa using e)) fun s2 ⟨g, tk, e2, hS, hk⟩ => PyProof.Rows.args_nil ?_
  subst e2
  obtain ⟨o, es, ep, t, ho, hex, hd, _, _, _, hf, hn⟩ := hS
  have I2 : Inv X pins σ H1 { s1 with heap := g, toks := tk } := I1.kept fun c o e => hk c o (Heap.lt_size e) e
  exact call_len_set ho hex hd hf (by rw [hn]; omega) ⟨.int ss.length, H1, I2.tok _, ⟨_, by rw [hn]⟩, q1⟩
end Td
set_option maxHeartbeats 4000000
namespace Td
open PySem PySem.Spec PyProof.Rows L2
/-! ### small rules -/
theorem pe_gint {X : Cx} {x : Str} {i : Int} {pos : Pos} (hg : Gl X x) (h : ∃ t, X.mg x = some (.int i t)) (hd : (x == ("__debug__" : Str)) = false := by decide) : PE X (.Name x pos) (tC (.int i)) := by
  obtain ⟨t, ht⟩ := h
  exact pe_glob hg ht ⟨t, rfl⟩ hd
theorem cut_from {xs : List V} {k : Nat} : cutV xs (some (k : Int)) none = xs.drop k := by
  unfold cutV
  rw [HT.sIx_none, HT.sIx_nat]
  by_cases g : k ≤ xs.length
  · rw [Nat.min_eq_left g]
    exact List.take_of_length_le (by rw [List.length_drop]; exact Nat.le_refl _)
  · rw [Nat.min_eq_right (by omega), List.drop_eq_nil_of_le (Nat.le_refl _), List.drop_eq_nil_of_le (by omega), List.take_nil]
theorem neT {x : Str} : (!decide (V.str x = V.str x)) = false := by rw [decide_eq_true rfl]; rfl
theorem cut_from1 {xs : List V} : cutV xs (some (1 : Int)) none = xs.drop 1 := cut_from (k := 1)
end Td
set_option maxHeartbeats 4000000
namespace Td
open PySem PySem.Spec PyProof.Rows L2
/-! ### halls and states as data -/
def sD (ss : List Str) : PyData := .tuple (ss.map .str)
def hsD (ss : List Str) (rows : List (List Str)) : PyData := .tuple [sD ss, .tuple (rows.map sD)]
theorem eqvAll_map {α : Type} [DecidableEq α] (f : α → PyData) (h : ∀ a b, PyData.eqv (f a) (f b) = decide (a = b)) : ∀ l m : List α, PyData.eqvAll (l.map f) (m.map f) = decide (l = m)
  | [], [] => by simp [PyData.eqvAll]
  | [], _ :: _ => by simp [PyData.eqvAll]
  | _ :: _, [] => by simp [PyData.eqvAll]
  | a :: l, b :: m => by
    rw [List.map_cons, List.map_cons, PyData.eqvAll, h, eqvAll_map f h l m]
    by_cases e : a = b
    · subst e
      by_cases e2 : l = m
      · subst e2; simp
      · simp [e2]
    · simp [e]
theorem eqv_str (a b : Str) : PyData.eqv (.str a) (.str b) = decide (a = b) := by
  rw [PyData.eqv]
  by_cases e : a = b
  · subst e; simp
  · simp [e]
theorem eqv_sD (a b : List Str) : PyData.eqv (sD a) (sD b) = decide (a = b) := by
  unfold sD
  rw [PyData.eqv]
  exact eqvAll_map _ eqv_str a b
theorem eqv_hsD (ss tt : List Str) (rows cols : List (List Str)) : PyData.eqv (hsD ss rows) (hsD tt cols) = decide (ss = tt ∧ rows = cols) := by
  unfold hsD
  rw [PyData.eqv, PyData.eqvAll, PyData.eqvAll, PyData.eqvAll, eqv_sD, PyData.eqv, eqvAll_map _ eqv_sD]
  by_cases e : ss = tt
  · by_cases e2 : rows = cols
    · simp [e, e2]
    · simp [e, e2]
  · simp [e]
theorem lay_map {α : Type} (f : α → PyData) : ∀ l : List α, (∀ a ∈ l, (f a).canLay0 = true) → PyData.canLayAll0 (l.map f) = true
  | [], _ => by simp [PyData.canLayAll0]
  | a :: l, h => by
    rw [List.map_cons, PyData.canLayAll0, h a (List.mem_cons_self ..), lay_map f l fun b hb => h b (List.mem_cons_of_mem _ hb)]
    rfl
theorem depth_map {α : Type} (f : α → PyData) (n : Nat) (h : ∀ a, (f a).depth ≤ n) : ∀ l : List α, PyData.depthAll (l.map f) ≤ n
  | [] => by simp [PyData.depthAll]
  | a :: l => by
    have e1 := h a
    have e2 := depth_map f n h l
    rw [List.map_cons, PyData.depthAll]
    omega
theorem strOk_nm {x : Str} (h : Nm x) : PyData.strOk x = true := by
  have e : x.cps.toList.all (fun c => decide (c < 0x110000)) = true := List.all_eq_true.mpr fun c hc => decide_eq_true (by
    have z := h.2.2 c hc
    omega)
  rw [Array.all_toList] at e
  exact e
theorem lay_sD {ss : List Str} (h : ∀ x ∈ ss, Nm x) : (sD ss).canLay0 = true := by
  unfold sD
  rw [PyData.canLay0]
  exact lay_map _ ss fun a ha => by
    rw [PyData.canLay0]
    exact strOk_nm (h a ha)
theorem depth_sD (ss : List Str) : (sD ss).depth ≤ 3 := by
  unfold sD
  have e := depth_map PyData.str 1 (fun a => by simp [PyData.depth]) ss
  rw [PyData.depth]
  omega
theorem shaped_hsD {ss : List Str} {rows : List (List Str)} (h : Bd ss rows) : SeqAt.shaped (hsD ss rows) = true := by
  have a1 := lay_sD h.sn
  have a2 := lay_map sD rows fun r hr => lay_sD (h.rn r hr).2
  have d1 := depth_sD ss
  have d2 := depth_map sD 3 depth_sD rows
  have c : (hsD ss rows).canLay0 = true := by
    unfold hsD
    simp only [PyData.canLay0, PyData.canLayAll0, a1, a2, Bool.and_true]
  have d : (hsD ss rows).depth ≤ 64 := by
    unfold hsD
    simp only [PyData.depth, PyData.depthAll]
    omega
  unfold SeqAt.shaped
  rw [c, decide_eq_true d]
  rfl
/-- at a: such data -/
theorem dp_strs {K : PySem.W.Frag} {H : Hp} : ∀ ss : List Str, DpAll K H (ss.map V.str) (ss.map PyData.str)
  | [] => .nil
  | s :: ss => .cons (.str s) (dp_strs ss)
theorem dp_rows {K : PySem.W.Frag} {H : Hp} : ∀ {as : List Addr} {rows : List (List Str)}, RowsAt H as rows → DpAll K H (as.map V.ref) (rows.map sD)
  | [], [], _ => .nil
  | [], _ :: _, h => by cases h.1
  | _ :: _, [], h => by cases h.1
  | a :: as, r :: rows, h => .cons (.tup (SqT.of (h.2 0 a r rfl rfl)) (dp_strs r)) (dp_rows ⟨Nat.succ.inj h.1, fun i b s e1 e2 => h.2 (i + 1) b s (by rw [List.getElem?_cons_succ]; exact e1) (by rw [List.getElem?_cons_succ]; exact e2)⟩)
theorem HS.dp {K : PySem.W.Frag} {H : Hp} {h : Addr} {ss : List Str} {rows : List (List Str)} (x : HS H h ss rows) : Dp K H (.ref h) (hsD ss rows) := by
  obtain ⟨r, d, h1, h2, as, h3, h4⟩ := x
  exact .tup (SqT.of h1) (.cons (.tup (SqT.of h2) (dp_strs ss)) (.cons (.tup (SqT.of h3) (dp_rows h4)) .nil))
theorem dr_str {H : Hp} {n : Nat} (s : Str) : DR H (n + 1) (.str s) (.str s) := .inl (.inl ⟨s, rfl, rfl⟩)
theorem dr_strs {H : Hp} {n : Nat} {a : Addr} {ss : List Str} (h : H a = some (.tup (ss.map V.str))) (hl : ss.length ≤ 1000) : DR H (n + 2) (.ref a) (sD ss) :=
  .inr ⟨a, _, _, rfl, rfl, h, ⟨by rw [List.length_map, List.length_map], by rw [List.length_map]; exact hl⟩, fun i v e e1 e2 => by
    rw [List.getElem?_map] at e1 e2
    cases z : ss[i]? with
    | none => rw [z] at e1; cases e1
    | some s =>
      rw [z] at e1 e2
      cases e1
      cases e2
      exact dr_str s⟩
theorem HS.dr {H : Hp} {h : Addr} {ss : List Str} {rows : List (List Str)} (x : HS H h ss rows) (b : Bd ss rows) : DR H 4 (.ref h) (hsD ss rows) := by
  obtain ⟨r, d, h1, h2, as, h3, h4⟩ := x
  have s12 := b.s12
  have r12 := b.r12
  refine .inr ⟨h, _, _, rfl, rfl, h1, ⟨rfl, by show 2 ≤ 1000; decide⟩, fun i v e e1 e2 => ?_⟩
  match i, e1, e2 with
  | 0, e1, e2 =>
    cases e1
    cases e2
    exact dr_strs h2 (by omega)
  | 1, e1, e2 =>
    cases e1
    cases e2
    refine .inr ⟨d, _, _, rfl, rfl, h3, ⟨by rw [List.length_map, List.length_map]; exact h4.1, by rw [List.length_map]; omega⟩, fun j v e e1 e2 => ?_⟩
    rw [List.getElem?_map] at e1 e2
    cases z : as[j]? with
    | none => rw [z] at e1; cases e1
    | some a =>
      cases y : rows[j]? with
      | none => rw [y] at e2; cases e2
      | some r' =>
        rw [z] at e1
        rw [y] at e2
        cases e1
        cases e2
        have m := (b.rn r' (List.mem_of_getElem? y)).1
        exact dr_strs (h4.2 j a r' z y) (by omega)
  | i + 2, e1, e2 => cases e1
/-- the states in a list -/
def StsAt (H : Hp) (rooms : List Str) (rows : List (List Str)) (sas : List Addr) : Prop := ∀ (i : Nat) (a : Addr), sas[i]? = some a → ∃ faces places, HS H a faces places ∧ StV rooms rows faces places
theorem StsAt.tu {H H' : Hp} {rooms : List Str} {rows : List (List Str)} {sas : List Addr} (t : Tu H H') (h : StsAt H rooms rows sas) : StsAt H' rooms rows sas := fun i a e => by
  obtain ⟨f, p, h1, h2⟩ := h i a e
  exact ⟨f, p, h1.tu t, h2⟩
def spRight : Sp := fun vs H Q _ => ∃ (h l : Addr) (rooms : List Str) (rows : List (List Str)) (sas : List Addr), vs = [.ref h, .ref l] ∧ HS H h rooms rows ∧ HallV rooms rows ∧ H l = some (.lst (sas.map V.ref)) ∧ StsAt H rooms rows sas ∧ ∀ H', Same H H' → Q (.bl true) H'
def spLaw (K : PySem.W.Frag) : Sp := fun vs H Q _ => ∃ (a : Addr) (ns : List Int), vs = [.ref a] ∧ SqL K H a (ns.map V.int) ∧ ns.length ≤ 63 ∧ ∀ H', Q (.bl true) H'
theorem txt_eq {w1 w2 : Str} {ss tt : List Str} {rows cols : List (List Str)} (n1 : Nm w1) (n2 : Nm w2) (h1 : Bd ss rows) (h2 : Bd tt cols) :
    V.bl (decide (V.str (txtOf (lnOf w1 w2 ss rows)) = V.str (txtOf (lnOf w1 w2 tt cols)))) = V.bl (PyData.eqv (hsD ss rows) (hsD tt cols)) := by
  rw [eqv_hsD]
  refine congrArg V.bl ?_
  by_cases e : ss = tt ∧ rows = cols
  · obtain ⟨rfl, rfl⟩ := e
    rw [decide_eq_true rfl, decide_eq_true ⟨rfl, rfl⟩]
  · rw [decide_eq_false e, decide_eq_false]
    intro z
    injection z with z
    exact e (lnOf_inj (lines_inj (h1.ln n1 n2) (h2.ln n1 n2) z))
theorem seq_ch {K : PySem.W.Frag} {H H' : Hp} {a b : Addr} {xs : List V} (h : SqL K H a xs) (hn : H b = none) (c : Ch b H H') : SqL K H' a xs := by
  rcases h with (h | ⟨o, h⟩) | h
  · exact .inl (.inl (c _ _ (ne_of_none h hn) h))
  · exact .inl (.inr ⟨o, c _ _ (ne_of_none h hn) h⟩)
  · exact .inr h
theorem StsAt.snoc {H : Hp} {rooms : List Str} {rows : List (List Str)} {sas : List Addr} {p : Addr} (h : StsAt H rooms rows sas) (hp : ∃ faces places, HS H p faces places ∧ StV rooms rows faces places) : StsAt H rooms rows (sas ++ [p]) := fun i a e => by
  by_cases hi : i < sas.length
  · rw [List.getElem?_append_left hi] at e
    exact h i a e
  · rw [List.getElem?_append_right (by omega)] at e
    have z := (List.getElem?_eq_some_iff.mp e).1
    rw [List.length_singleton] at z
    have e2 : i - sas.length = 0 := by omega
    rw [e2] at e
    cases e
    exact hp
/-- a list of two states of this hall -/
def LSt (H : Hp) (l : Addr) (rooms : List Str) (rows : List (List Str)) : Prop := ∃ sas : List Addr, H l = some (.lst (sas.map V.ref)) ∧ sas.length = 2 ∧ StsAt H rooms rows sas
theorem LSt.ch {H H' : Hp} {b l : Addr} {rooms : List Str} {rows : List (List Str)} (B : Box H b) (hl : l ≠ b) (c : Ch b H H') (h : LSt H l rooms rows) : LSt H' l rooms rows := by
  obtain ⟨sas, h1, h2, h3⟩ := h
  exact ⟨sas, c _ _ hl h1, h2, h3.tu (Tu.of c B)⟩
theorem LSt.same {H H' : Hp} {l : Addr} {rooms : List Str} {rows : List (List Str)} (s : Same H H') (h : LSt H l rooms rows) : LSt H' l rooms rows := by
  obtain ⟨sas, h1, h2, h3⟩ := h
  exact ⟨sas, s _ _ h1, h2, h3.tu (Tu.same s)⟩
end Td
set_option maxHeartbeats 4000000
namespace Td
open PySem PySem.Spec PyProof.Rows L2
/-! ### a hall, a state, as repr shows it -/
theorem showAll_map {α : Type} (g : α → PyData) : ∀ l : List α, (∀ a ∈ l, (g a).showable = true) → PyData.showableAll (l.map g) = true
  | [], _ => by simp [PyData.showableAll]
  | a :: l, h => by rw [List.map_cons, PyData.showableAll, h a (List.mem_cons_self ..), showAll_map g l fun b hb => h b (List.mem_cons_of_mem _ hb)]; rfl
theorem noDictAll_map {α : Type} (g : α → PyData) : ∀ l : List α, (∀ a ∈ l, (g a).hasDict = false) → PyData.hasDictAll (l.map g) = false
  | [], _ => by simp [PyData.hasDictAll]
  | a :: l, h => by rw [List.map_cons, PyData.hasDictAll, h a (List.mem_cons_self ..), noDictAll_map g l fun b hb => h b (List.mem_cons_of_mem _ hb)]; rfl
theorem shortAll_map {α : Type} (g : α → PyData) : ∀ l : List α, (∀ a ∈ l, (g a).leavesShort 8 = true) → PyData.leavesShortAll 8 (l.map g) = true
  | [], _ => by simp [PyData.leavesShortAll]
  | a :: l, h => by rw [List.map_cons, PyData.leavesShortAll, h a (List.mem_cons_self ..), shortAll_map g l fun b hb => h b (List.mem_cons_of_mem _ hb)]; rfl
theorem weightAll_map {α : Type} (g : α → PyData) (n : Nat) : ∀ l : List α, (∀ a ∈ l, (g a).weight ≤ n) → PyData.weightAll (l.map g) ≤ l.length * (n + 1)
  | [], _ => by simp [PyData.weightAll]
  | a :: l, h => by
    have e1 := h a (List.mem_cons_self ..)
    have e2 := weightAll_map g n l fun b hb => h b (List.mem_cons_of_mem _ hb)
    rw [List.map_cons, PyData.weightAll, List.length_cons, Nat.succ_mul]
    omega
structure Shows (d : PyData) : Prop where
  sh : d.showable = true
  nd : d.hasDict = false
  dp : d.depth ≤ 60
  sz : d.shown.length ≤ sizeLine
theorem short_sD {ss : List Str} (h : ∀ x ∈ ss, Nm x) : (sD ss).leavesShort 8 = true := by
  unfold sD
  rw [PyData.leavesShort]
  refine shortAll_map _ ss fun a ha => ?_
  rw [PyData.leavesShort]
  exact List.all_eq_true.mpr fun c hc => decide_eq_true (by
    have z := (h a ha).2.2 c hc
    have e : (16 : Nat) ^ 8 = 4294967296 := by decide
    omega)
theorem weight_sD {ss : List Str} (h : ∀ x ∈ ss, Nm x) : (sD ss).weight ≤ ss.length * 7 := by
  unfold sD
  rw [PyData.weight]
  refine weightAll_map PyData.str 6 ss fun a ha => ?_
  rw [PyData.weight]
  exact (h a ha).2.1
theorem Bd.shows {ss : List Str} {rows : List (List Str)} (h : Bd ss rows) : Shows (hsD ss rows) := by
  have d1 := depth_sD ss
  have d2 := depth_map sD 3 depth_sD rows
  have w1 := weight_sD h.sn
  have w2 := weightAll_map sD 21 rows fun r hr => Nat.le_trans (weight_sD (h.rn r hr).2) (by have := (h.rn r hr).1; omega)
  have a1 := h.s12
  have a2 := h.r12
  have s1 : ∀ ss : List Str, (sD ss).showable = true := fun ss => by unfold sD; rw [PyData.showable]; exact showAll_map _ ss fun a _ => by rw [PyData.showable]
  have n1 : ∀ ss : List Str, (sD ss).hasDict = false := fun ss => by unfold sD; rw [PyData.hasDict]; exact noDictAll_map _ ss fun a _ => by rw [PyData.hasDict]
  refine ⟨?_, ?_, ?_, PyData.shown_fits (B := 8) (by decide) (by decide) ?_ ?_⟩
  · unfold hsD
    simp only [PyData.showable, PyData.showableAll, s1, showAll_map sD rows fun r _ => s1 r, Bool.and_true]
  · unfold hsD
    simp only [PyData.hasDict, PyData.hasDictAll, n1, noDictAll_map sD rows fun r _ => n1 r, Bool.or_false]
  · unfold hsD
    simp only [PyData.depth, PyData.depthAll]
    omega
  · unfold hsD
    simp only [PyData.leavesShort, PyData.leavesShortAll, short_sD h.sn, shortAll_map sD rows fun r hr => short_sD (h.rn r hr).2, Bool.and_true]
  · unfold hsD
    simp only [PyData.weight, PyData.weightAll]
    omega
end Td
set_option maxHeartbeats 4000000
namespace Td
open PySem PySem.Spec PyProof.Rows L2
/-! ### any text's lines and words -/
def tot (ws : List Str) : Nat := (ws.map fun x => x.length + 1).sum
theorem cs_len (x : Str) : (cs x).length = x.length := by unfold cs Str.length; simp
theorem spl_tot (c : Nat) : ∀ (l acc : List Nat), TL.spl [c] 0 acc l ≠ [] ∧ ((TL.spl [c] 0 acc l).map fun p => p.length + 1).sum = acc.length + l.length + 1
  | [], acc => by rw [TL.spl_nil]; exact ⟨List.cons_ne_nil _ _, by simp⟩
  | x :: l, acc => by
    cases h : TL.pre [c] (x :: l) with
    | true =>
      obtain ⟨h1, h2⟩ := spl_tot c l []
      rw [TL.spl_hit h]
      refine ⟨List.cons_ne_nil _ _, ?_⟩
      have e : ([c] : List Nat).length - 1 = 0 := rfl
      rw [e, List.map_cons, List.sum_cons, h2, List.length_cons, List.length_nil]
      omega
    | false =>
      obtain ⟨h1, h2⟩ := spl_tot c l (acc ++ [x])
      rw [TL.spl_miss h]
      refine ⟨h1, ?_⟩
      rw [h2, List.length_append, List.length_cons, List.length_cons, List.length_nil]
      omega
theorem split_tot {c : Nat} (hc : c < 256) (t : Str) : Txt.split t (SX.S [c]) ≠ [] ∧ tot (Txt.split t (SX.S [c])) = t.length + 1 := by
  have e := SX.split_S (a := cs t) (b := [c]) (List.cons_ne_nil _ _) (by simpa using hc)
  rw [S_cs] at e
  obtain ⟨h1, h2⟩ := spl_tot c (cs t) []
  rw [e]
  refine ⟨fun z => h1 (List.map_eq_nil_iff.mp z), ?_⟩
  unfold tot
  rw [List.map_map]
  have f : ((fun x : Str => x.length + 1) ∘ SX.S) = fun p => p.length + 1 := funext fun p => by
    show (SX.S p).length + 1 = p.length + 1
    rw [SX.S_len]
  rw [f, h2, cs_len, List.length_nil]
  omega
theorem tot_mem : ∀ {ws : List Str} {x : Str}, x ∈ ws → x.length + 1 ≤ tot ws
  | y :: ys, x, h => by
    have e : tot (y :: ys) = y.length + 1 + tot ys := by unfold tot; rw [List.map_cons, List.sum_cons]
    rcases List.mem_cons.mp h with rfl | h
    · omega
    · have := tot_mem h
      omega
theorem tot_len : ∀ ws : List Str, ws.length ≤ tot ws
  | [] => Nat.zero_le _
  | y :: ys => by
    have e : tot (y :: ys) = y.length + 1 + tot ys := by unfold tot; rw [List.map_cons, List.sum_cons]
    have := tot_len ys
    rw [List.length_cons]
    omega
def wordsL (l : Str) : List Str := Txt.split l " "
def linesT (t : Str) : List Str := Txt.split t "\n"
def wordsOf (t : Str) : List (List Str) := (linesT t).map wordsL
theorem linesT_tot (t : Str) : linesT t ≠ [] ∧ tot (linesT t) = t.length + 1 := by
  unfold linesT
  rw [nl_S]
  exact split_tot (by decide) t
theorem wordsL_tot (l : Str) : wordsL l ≠ [] ∧ tot (wordsL l) = l.length + 1 := by
  unfold wordsL
  rw [sp_S]
  exact split_tot (by decide) l
structure WOk (n : Nat) (ls : List (List Str)) : Prop where
  ne : ls ≠ []
  len : ls.length ≤ n + 1
  ok : ∀ l ∈ ls, l ≠ [] ∧ l.length ≤ n + 1 ∧ ∀ x ∈ l, x.length ≤ n
theorem wOk (t : Str) : WOk t.length (wordsOf t) := by
  obtain ⟨h1, h2⟩ := linesT_tot t
  refine ⟨fun z => h1 (List.map_eq_nil_iff.mp z), ?_, fun l hl => ?_⟩
  · unfold wordsOf
    rw [List.length_map]
    have := tot_len (linesT t)
    omega
  · obtain ⟨y, hy, rfl⟩ := List.mem_map.mp hl
    have e1 := tot_mem hy
    obtain ⟨g1, g2⟩ := wordsL_tot y
    refine ⟨g1, ?_, fun x hx => ?_⟩
    · have := tot_len (wordsL y)
      omega
    · have := tot_mem hx
      omega
/-! ### what a text of a state says -/
def fcB (ws : List Str) (rows : List (List Str)) : Bool := decide (ws.headD "" = "faces") && (decide (ws.tail.length = rows.length) && (ws.tail.zip rows).all fun p => decide (p.1 ∈ p.2.drop 1))
def wkB (ws : List Str) (before : Str) (rooms : List Str) : Bool := decide (ws.length = 3) && (decide (ws.headD "" = "walker") && (decide (Nm (ws.getD 1 "")) && (decide (before.cps.toList < (ws.getD 1 "").cps.toList) && decide (ws.getD 2 "" ∈ rooms))))
inductive Rd where
  | line (k : Nat)
  | data (ss : List Str) (rows : List (List Str))
def Rd.pre (ss : List Str) (pl : List (List Str)) : Rd → Rd
  | .line k => .line k
  | .data _ rows => .data ss (pl ++ rows)
def goS (rooms : List Str) : Nat → Str → List (List Str) → Rd
  | _, _, [] => .data [] []
  | k, before, w :: ls => if 5 < k then .line k else if wkB w before rooms then (goS rooms (k + 1) (w.getD 1 "") ls).pre [] [[w.getD 1 "", w.getD 2 ""]] else .line k
def rdS (rooms : List Str) (rows : List (List Str)) (ls : List (List Str)) : Rd := if fcB (ls.headD []) rows then (goS rooms 1 "" ls.tail).pre (ls.headD []).tail [] else .line 0
def dRd (w : Str) : Rd → PyData
  | .line k => .tuple [.str "line", .int (k : Nat)]
  | .data ss rows => .tuple [.str w, hsD ss rows]
/-! ### the promises -/
def spSplitG : Sp := fun vs H Q _ => ∃ t : Str, vs = [.str t] ∧ t.length ≤ 100000 ∧ ∀ p as H', Same H H' → H' p = some (.lst (as.map V.ref)) → LinesAt H' as (wordsOf t) → Q (.ref p) H'
def spFacesG : Sp := fun vs H Q _ => ∃ (l d : Addr) (ws : List Str) (rows : List (List Str)), vs = [.ref l, .ref d] ∧ H l = some (.lst (ws.map V.str)) ∧ ws ≠ [] ∧ ws.length ≤ 100001 ∧ Rows H d rows ∧ rows.length ≤ 12 ∧ (∀ r ∈ rows, ∃ n a b : Str, r = [n, a, b]) ∧ ∀ H', Same H H' → Q (.bl (fcB ws rows)) H'
def spWalkerG : Sp := fun vs H Q _ => ∃ (l r : Addr) (before : Str) (ws rooms : List Str), vs = [.ref l, .str before, .ref r] ∧ H l = some (.lst (ws.map V.str)) ∧ ws ≠ [] ∧ (∀ x ∈ ws, x.length ≤ 100000) ∧ H r = some (.tup (rooms.map V.str)) ∧ ∀ H', Same H H' → Q (.bl (wkB ws before rooms)) H'
def spParseS (K : PySem.W.Frag) : Sp := fun vs H Q E => ∃ (h : Addr) (t : Str) (rooms : List Str) (rows : List (List Str)), vs = [.ref h, .str t] ∧ HS H h rooms rows ∧ HallV rooms rows ∧ t.length ≤ 100000 ∧
  (∀ ss pl, rdS rooms rows (wordsOf t) = .data ss pl → ∀ p H', Same H H' → HS H' p ss pl → Q (.ref p) H') ∧
  (∀ k, rdS rooms rows (wordsOf t) = .line k → ∀ H', Same H H' → ∀ d, H' d = none → E (.ref (He.ga K "InvalidText")) (some d) (upd H' d (.xd [("line", .int (k : Nat))])))
def spReadS : Sp := fun vs H Q _ => ∃ (h : Addr) (t : Str) (rooms : List Str) (rows : List (List Str)), vs = [.ref h, .str t] ∧ HS H h rooms rows ∧ HallV rooms rows ∧ t.length ≤ 100000 ∧ ∀ p H', Same H H' → DR H' 5 (.ref p) (dRd "state" (rdS rooms rows (wordsOf t))) → Q (.ref p) H'
def spSign : Sp := fun vs H Q _ => ∃ b : Addr, vs = [.ref b] ∧ Box H b ∧ ∀ (c : Str) H', c.length ≤ 1 → Box H' b → Ch b H H' → Q (.str c) H'
def spLineCh : Sp := fun vs H Q _ => ∃ (b l kn : Addr) (ws ks : List Str), vs = [.ref b, .ref l, .ref kn] ∧ Box H b ∧ H l = some (.lst (ws.map V.str)) ∧ ws ≠ [] ∧ tot ws ≤ 100001 ∧ H kn = some (.lst (ks.map V.str)) ∧ ks.length ≤ 40 ∧ (∀ x ∈ ks, x.length ≤ 20) ∧
  ∀ p (us : List Str) H', H' p = some (.lst (us.map V.str)) → tot us ≤ 2 * tot ws + 30 → Box H' b → Ch b H H' → Q (.ref p) H'
def spChanged : Sp := fun vs H Q _ => ∃ (b kn : Addr) (t : Str) (ks : List Str), vs = [.ref b, .str t, .ref kn] ∧ Box H b ∧ t.length ≤ 100000 ∧ H kn = some (.lst (ks.map V.str)) ∧ ks.length ≤ 40 ∧ (∀ x ∈ ks, x.length ≤ 20) ∧
  ∀ (u : Str) H', u.length ≤ 3 * t.length + 40 → Box H' b → Ch b H H' → Q (.str u) H'
def spLawNm : Sp := fun vs H Q _ => ∃ x : Str, vs = [.str x] ∧ x.length ≤ 100000 ∧ ∀ H', Same H H' → Q (.bl (decide (Nm x))) H'
end Td
set_option maxHeartbeats 4000000
namespace Td
open PySem PySem.Spec PyProof.Rows L2
/-! ### xs == [], xs != [], whatever stands in xs -/
def rEqE (K : PySem.W.Frag) : R2 := fun x y H Q => ∃ (a b : Addr) (xs : List V), x = .ref a ∧ y = .ref b ∧ SqL K H a xs ∧ SqL K H b [] ∧ Q (.bl xs.isEmpty) H
def rNeE (K : PySem.W.Frag) : R2 := fun x y H Q => ∃ (a b : Addr) (xs : List V), x = .ref a ∧ y = .ref b ∧ SqL K H a xs ∧ SqL K H b [] ∧ Q (.bl (!xs.isEmpty)) H
section
variable {X : Cx}
theorem op_eqE (hu : X.A.units + 64 < cLine) : OpR X (compareOp .Eq) (rEqE X.K) := by
  intro pins s σ H x y v u Q I rx ry h
  obtain ⟨a, b, xs, rfl, rfl, ha, hb, q⟩ := h
  cases rx
  cases ry
  obtain ⟨i1, r1, p1, _⟩ := I.list ha
  obtain ⟨i2, r2, p2, _⟩ := I.list hb
  have l1 := r1.length
  have l2 := r2.length
  cases xs with
  | nil =>
    have e : i1.toArray.size = i2.toArray.size := by rw [List.size_toArray, List.size_toArray, ← l1, ← l2]
    refine SeqAt.RcAt.lists (e := fun _ => true) p1.isList p2.isList e (by omega) (fun j h1 h2 => ?_) X.prog X.w _ _ ⟨.bl true, H, I, ?_, q⟩
    · rw [List.size_toArray, ← l1] at h1
      cases h1
    · show Value.bool _ = Value.bool true
      rw [List.size_toArray, ← l1]
      rfl
  | cons x xs =>
    refine SeqAt.RcAt.lists_lengths p1.isList p2.isList ?_ (by omega) X.prog X.w _ _ ⟨.bl false, H, I, rfl, q⟩
    rw [List.size_toArray, List.size_toArray, ← l1, ← l2]
    rfl
theorem op_neE (hu : X.A.units + 64 < cLine) : OpR X (compareOp .NotEq) (rNeE X.K) := by
  intro pins s σ H x y v u Q I rx ry h
  obtain ⟨a, b, xs, rfl, rfl, ha, hb, q⟩ := h
  cases rx
  cases ry
  obtain ⟨i1, r1, p1, _⟩ := I.list ha
  obtain ⟨i2, r2, p2, _⟩ := I.list hb
  have l1 := r1.length
  have l2 := r2.length
  cases xs with
  | nil =>
    have e : i1.toArray.size = i2.toArray.size := by rw [List.size_toArray, List.size_toArray, ← l1, ← l2]
    refine SeqAt.RcNeAt.lists (e := fun _ => true) p1.isList p2.isList e (by omega) (fun j h1 h2 => ?_) X.prog X.w _ _ ⟨.bl false, H, I, ?_, q⟩
    · rw [List.size_toArray, ← l1] at h1
      cases h1
    · show Value.bool _ = Value.bool false
      rw [List.size_toArray, ← l1]
      rfl
  | cons x xs =>
    refine SeqAt.RcNeAt.lists_lengths p1.isList p2.isList ?_ (by omega) X.prog X.w _ _ ⟨.bl true, H, I, rfl, q⟩
    rw [List.size_toArray, List.size_toArray, ← l1, ← l2]
    rfl
end
end Td
set_option maxHeartbeats 4000000
namespace Td
open PySem PySem.Spec PyProof.Rows L2
/-! ### how long texts get -/
theorem tot_cons (x : Str) (l : List Str) : tot (x :: l) = x.length + 1 + tot l := by unfold tot; rw [List.map_cons, List.sum_cons]
theorem tot_app (l m : List Str) : tot (l ++ m) = tot l + tot m := by unfold tot; rw [List.map_append, List.sum_append]
theorem tot_split (l : List Str) (n : Nat) : tot (l.take n) + tot (l.drop n) = tot l := by rw [← tot_app, List.take_append_drop]
theorem tot_take (l : List Str) (n : Nat) : tot (l.take n) ≤ tot l := by have := tot_split l n; omega
theorem tot_drop (l : List Str) (n : Nat) : tot (l.drop n) ≤ tot l := by have := tot_split l n; omega
theorem tot_drop_le (l : List Str) {m n : Nat} (h : m ≤ n) : tot (l.drop n) ≤ tot (l.drop m) := by
  obtain ⟨k, rfl⟩ : ∃ k, n = m + k := ⟨n - m, by omega⟩
  rw [← List.drop_drop]
  exact tot_drop _ _
theorem tot_rev (l : List Str) : tot l.reverse = tot l := by
  unfold tot
  rw [List.map_reverse, List.sum_reverse]
theorem tot_nil : tot [] = 0 := rfl
theorem tot_sum (l : List Str) : (l.map (·.length)).sum + l.length * 1 = tot l := by
  induction l with
  | nil => rfl
  | cons x l ih =>
    rw [tot_cons, List.map_cons, List.sum_cons, List.length_cons]
    omega
theorem joinL_le (c : Nat) : ∀ ps : List (List Nat), (TL.joinL [c] ps).length ≤ (ps.map fun p => p.length + 1).sum
  | [] => Nat.zero_le _
  | [p] => by
    show p.length ≤ _
    simp
  | p :: q :: r => by
    have ih := joinL_le c (q :: r)
    have e2 : (TL.joinL [c] (p :: q :: r)).length = p.length + (1 + (TL.joinL [c] (q :: r)).length) := by
      show (p ++ ([c] ++ TL.joinL [c] (q :: r))).length = _
      rw [List.length_append, List.length_append, List.length_singleton]
    rw [e2, List.map_cons, List.sum_cons]
    omega
theorem join_tot (c : Nat) (ys : List Str) : (Txt.join (SX.S [c]) ys).length ≤ tot ys := by
  rw [join_cs, SX.S_len]
  refine Nat.le_trans (joinL_le c _) ?_
  unfold tot
  rw [List.map_map]
  refine Nat.le_of_eq (congrArg List.sum (List.map_congr_left fun x _ => ?_))
  show (cs x).length + 1 = x.length + 1
  rw [cs_len]
theorem lineJ_tot (ys : List Str) : (Txt.join "\n" ys).length ≤ tot ys := by rw [nl_S]; exact join_tot 10 ys
theorem wordJ_tot (ys : List Str) : (Txt.join " " ys).length ≤ tot ys := by rw [sp_S]; exact join_tot 32 ys
/-- a cut of texts is texts -/
theorem cut_strs (ss : List Str) (lo hi : Option Int) : ∃ us : List Str, cutV (ss.map V.str) lo hi = us.map V.str ∧ tot us ≤ tot ss := by
  have e : ∀ i n : Nat, ((ss.map V.str).drop i).take n = ((ss.drop i).take n).map V.str := fun i n => by rw [List.map_take, List.map_drop]
  unfold cutV
  exact ⟨_, e _ _, Nat.le_trans (tot_take _ _) (tot_drop _ _)⟩
theorem cut_hi (ss : List Str) {n : Nat} (h : n ≤ ss.length) : cutV (ss.map V.str) none (some (n : Int)) = (ss.take n).map V.str := by
  rw [cut_to (by omega), Int.toNat_natCast, List.map_take]
theorem cut_lo (ss : List Str) (n : Nat) : cutV (ss.map V.str) (some (n : Int)) none = (ss.drop n).map V.str := by rw [cut_from, List.map_drop]
end Td
set_option maxHeartbeats 4000000
namespace Td
open PySem PySem.Spec PyProof.Rows L2
theorem neF {a b : V} (h : a ≠ b) : (!decide (a = b)) = true := by rw [decide_eq_false h]; rfl
section
variable {P : Program} {w : World} {K : PySem.W.Frag} {mg : Str → Option Value} {base : Heap} {f : Addr} {fd : FuncData}
theorem box_ne {H : Hp} {b l : Addr} {ss : List Str} (B : Box H b) (h : H l = some (.lst (ss.map V.str))) : l ≠ b := fun e => by
  obtain ⟨c, s, n, hb, _⟩ := B
  rw [e, hb] at h
  have z := Option.some.inj h
  injection z with z
  cases ss with
  | nil => cases z
  | cons x xs => cases z
theorem map_one (xs : List Str) (y : Str) : xs.map V.str ++ [V.str y] = (xs ++ [y]).map V.str := by rw [List.map_append]; rfl
theorem map_two (xs ys : List Str) : xs.map V.str ++ ys.map V.str = (xs ++ ys).map V.str := by rw [List.map_append]
theorem slE {K : PySem.W.Frag} {H : Hp} {l : Addr} {ss us : List Str} {lo hi : Option Int} {Q : VK} (h : H l = some (.lst (ss.map V.str))) (e : cutV (ss.map V.str) lo hi = us.map V.str) (q : ∀ p H', H' p = some (.lst (us.map V.str)) → Same H H' → Q (.ref p) H') : rSlL K (.ref l) lo hi H Q :=
  ⟨l, _, rfl, SqL.of h, fun p hp => q p _ (by rw [e]; exact upd_same) (same_new hp _)⟩
theorem slN {K : PySem.W.Frag} {σ : L2.St} {H : Hp} {l : Addr} {ss us : List Str} {lo : Option Int} {Q : VK} (h : H l = some (.lst (ss.map V.str))) (e : cutV (ss.map V.str) lo none = us.map V.str) (q : ∀ p H', H' p = some (.lst (us.map V.str)) → Same H H' → Q (.ref p) H') : tNoPart σ H (fun u H3 => rSlL K (.ref l) lo u H3 Q) := slE h e q
theorem catL {H : Hp} {a c : Addr} {us ws : List Str} {Q : VK} (ha : H a = some (.lst (us.map V.str))) (hc : H c = some (.lst (ws.map V.str))) (hz : us.length + ws.length ≤ 1000) (q : ∀ p H', H' p = some (.lst ((us ++ ws).map V.str)) → Same H H' → Q (.ref p) H') : rCat (.ref a) (.ref c) H Q := by
  refine ⟨a, c, _, _, rfl, rfl, ha, hc, ?_, fun p hp => q p _ (by rw [map_two]; exact upd_same) (same_new hp _)⟩
  rw [List.length_map, List.length_map]
  exact Nat.le_trans hz (by decide)
theorem catE {H : Hp} {a c : Addr} {us ws : List Str} {Q : VK} (ha : H a = some (.lst (us.map V.str))) (hc : H c = some (.lst (ws.map V.str))) (hz : tot us + tot ws ≤ 1000000) (q : ∀ p H', H' p = some (.lst ((us ++ ws).map V.str)) → Same H H' → Q (.ref p) H') : rCat (.ref a) (.ref c) H Q := by
  have h1 := tot_len us
  have h2 := tot_len ws
  refine ⟨a, c, _, _, rfl, rfl, ha, hc, ?_, fun p hp => q p _ (by rw [map_two]; exact upd_same) (same_new hp _)⟩
  rw [List.length_map, List.length_map]
  exact Nat.le_trans (show us.length + ws.length ≤ 1000000 by omega) (by decide)
theorem bxs {H H' : Hp} {b : Addr} (B : Box H b) (z : Same H H') : Box H' b := by
  obtain ⟨c, s, m, e, x⟩ := B
  exact ⟨c, s, m, z _ _ e, x⟩
theorem str_len_app (x y : Str) : (x ++ y).length = x.length + y.length := Array.size_append
theorem S_cs' (t : Str) : SX.S (cs t) = t := rfl
theorem sl_to_len (t : Str) {i : Int} (h : 0 ≤ i) : (Txt.slice t none (some i)).length ≤ t.length := by
  rw [← S_cs' t, SX.slice_to h, SX.S_len, SX.S_len, List.length_take]
  omega
theorem sl_fr_len (t : Str) {i : Int} (h : 0 ≤ i) : (Txt.slice t (some i) none).length ≤ t.length := by
  rw [← S_cs' t, SX.slice_from h, SX.S_len, SX.S_len, List.length_drop]
  omega
theorem int_nat {r m : Int} (h0 : 0 ≤ r) (h1 : r < m) : ∃ n : Nat, r = (n : Int) ∧ (n : Int) < m := ⟨r.toNat, by omega, by omega⟩
theorem dint_f {i j : Int} (h : i ≠ j) : decide (V.int i = V.int j) = false := by rw [dec_int]; exact beq_false_of_ne h
theorem dint_t {i j : Int} (h : i = j) : decide (V.int i = V.int j) = true := by rw [dec_int]; exact beq_iff_eq.mpr h
end
end Td
set_option maxHeartbeats 4000000
namespace Td
open PySem PySem.Spec PyProof.Rows L2
/-! ### ascending texts -/
abbrev Deed := Str × Str
def AscS (l : List Str) : Prop := l.Pairwise fun a b => a.cps.toList < b.cps.toList
def ins (x : Str) : List Str → List Str
  | [] => [x]
  | y :: l => if y.cps.toList < x.cps.toList then y :: ins x l else if y = x then y :: l else x :: y :: l
def srt (l : List Str) : List Str := l.foldl (fun acc x => ins x acc) []
theorem slt_irr (a : Str) : ¬ a.cps.toList < a.cps.toList := List.lt_irrefl _
theorem slt_tr {a b c : Str} (h : a.cps.toList < b.cps.toList) (g : b.cps.toList < c.cps.toList) : a.cps.toList < c.cps.toList := List.lt_trans h g
theorem slt_of {a b : Str} (h : ¬ b.cps.toList < a.cps.toList) (hn : a ≠ b) : a.cps.toList < b.cps.toList := by
  by_cases h2 : a.cps.toList < b.cps.toList
  · exact h2
  · exact absurd (TL.ext_tl (List.le_antisymm (show a.cps.toList ≤ b.cps.toList from h) (show b.cps.toList ≤ a.cps.toList from h2))) hn
theorem slt_ne {a b : Str} (h : a.cps.toList < b.cps.toList) : a ≠ b := fun e => by
  subst e
  exact slt_irr _ h
theorem ins_mem {x z : Str} : ∀ {l : List Str}, z ∈ ins x l ↔ z = x ∨ z ∈ l
  | [] => by
    show z ∈ [x] ↔ _
    simp
  | y :: l => by
    show z ∈ (if y.cps.toList < x.cps.toList then y :: ins x l else if y = x then y :: l else x :: y :: l) ↔ _
    by_cases h : y.cps.toList < x.cps.toList
    · rw [if_pos h, List.mem_cons, ins_mem (l := l), List.mem_cons]
      exact ⟨fun q => q.elim (fun a => .inr (.inl a)) fun b => b.elim .inl fun c => .inr (.inr c), fun q => q.elim (fun a => .inr (.inl a)) fun b => b.elim .inl fun c => .inr (.inr c)⟩
    · rw [if_neg h]
      by_cases e : y = x
      · rw [if_pos e]
        subst e
        exact ⟨.inr, fun q => q.elim (fun a => by rw [a]; exact List.mem_cons_self) id⟩
      · rw [if_neg e, List.mem_cons]
theorem ins_asc {x : Str} : ∀ {l : List Str}, AscS l → AscS (ins x l)
  | [], _ => List.pairwise_cons.mpr ⟨fun a h => (by cases h), List.Pairwise.nil⟩
  | y :: l, h => by
    obtain ⟨h1, h2⟩ := List.pairwise_cons.mp h
    show AscS (if y.cps.toList < x.cps.toList then y :: ins x l else if y = x then y :: l else x :: y :: l)
    by_cases g : y.cps.toList < x.cps.toList
    · rw [if_pos g]
      refine List.pairwise_cons.mpr ⟨fun a ha => ?_, ins_asc h2⟩
      rcases ins_mem.mp ha with rfl | ha
      · exact g
      · exact h1 a ha
    · rw [if_neg g]
      by_cases e : y = x
      · rw [if_pos e]
        exact h
      · rw [if_neg e]
        have z : x.cps.toList < y.cps.toList := slt_of g fun q => e q.symm
        refine List.pairwise_cons.mpr ⟨fun a ha => ?_, h⟩
        rcases List.mem_cons.mp ha with rfl | ha
        · exact z
        · exact slt_tr z (h1 a ha)
theorem srt_fold (l : List Str) : ∀ acc : List Str, AscS acc → AscS (l.foldl (fun acc x => ins x acc) acc) ∧ ∀ z, z ∈ l.foldl (fun acc x => ins x acc) acc ↔ z ∈ acc ∨ z ∈ l := by
  induction l with
  | nil => exact fun acc h => ⟨h, fun z => by simp⟩
  | cons x l ih =>
    intro acc h
    obtain ⟨h1, h2⟩ := ih (ins x acc) (ins_asc h)
    refine ⟨h1, fun z => ?_⟩
    show z ∈ l.foldl (fun acc x => ins x acc) (ins x acc) ↔ _
    rw [h2, ins_mem, List.mem_cons]
    exact ⟨fun q => q.elim (fun a => a.elim (fun b => .inr (.inl b)) .inl) fun c => .inr (.inr c), fun q => q.elim (fun a => .inl (.inr a)) fun b => b.elim (fun c => .inl (.inl c)) .inr⟩
theorem srt_asc (l : List Str) : AscS (srt l) := (srt_fold l [] List.Pairwise.nil).1
theorem srt_mem {l : List Str} {z : Str} : z ∈ srt l ↔ z ∈ l := by
  have e := (srt_fold l [] List.Pairwise.nil).2 z
  unfold srt
  rw [e]
  simp
theorem srt_snoc (l : List Str) (x : Str) : srt (l ++ [x]) = ins x (srt l) := by
  unfold srt
  rw [List.foldl_append]
  rfl
theorem asc_unique : ∀ {l m : List Str}, AscS l → AscS m → (∀ x, x ∈ l ↔ x ∈ m) → l = m
  | [], [], _, _, _ => rfl
  | [], y :: m, _, _, h => absurd ((h y).mpr List.mem_cons_self) (by simp)
  | x :: l, [], _, _, h => absurd ((h x).mp List.mem_cons_self) (by simp)
  | x :: l, y :: m, hl, hm, h => by
    obtain ⟨a1, a2⟩ := List.pairwise_cons.mp hl
    obtain ⟨b1, b2⟩ := List.pairwise_cons.mp hm
    have e : x = y := by
      rcases List.mem_cons.mp ((h x).mp List.mem_cons_self) with e | e
      · exact e
      · rcases List.mem_cons.mp ((h y).mpr List.mem_cons_self) with g | g
        · exact g.symm
        · exact absurd (slt_tr (a1 y g) (b1 x e)) (slt_irr _)
    subst e
    rw [asc_unique a2 b2 fun z => ?_]
    have q := h z
    rw [List.mem_cons, List.mem_cons] at q
    refine ⟨fun hz => (q.mp (.inr hz)).elim (fun e => ?_) id, fun hz => (q.mpr (.inr hz)).elim (fun e => ?_) id⟩
    · exact absurd e.symm (slt_ne (a1 z hz))
    · exact absurd e.symm (slt_ne (b1 z hz))
theorem asc_nd {l : List Str} (h : AscS l) : l.Nodup := h.imp fun q => slt_ne q
theorem asc_rising : ∀ {r : List Str} {p : Str}, risingS p r = true → (p :: r).Nodup → AscS (p :: r)
  | [], _, _, _ => List.pairwise_cons.mpr ⟨fun a h => (by cases h), List.Pairwise.nil⟩
  | x :: r, p, h, hn => by
    have h1 : (!PySem.Spec.ltCps x.cps.toList p.cps.toList && risingS x r) = true := h
    rw [Bool.and_eq_true, Bool.not_eq_true'] at h1
    obtain ⟨n1, n2⟩ := List.nodup_cons.mp hn
    have t := asc_rising h1.2 n2
    have lt := lt_of_not h1.1 fun e => n1 (by rw [e]; exact List.mem_cons_self ..)
    refine List.pairwise_cons.mpr ⟨fun a ha => ?_, t⟩
    rcases List.mem_cons.mp ha with rfl | ha
    · exact lt
    · exact slt_tr lt ((List.pairwise_cons.mp t).1 a ha)
theorem asc_sorted {ys : List Str} (h : sortedS ys = true) (hn : ys.Nodup) : AscS ys := by
  cases ys with
  | nil => exact List.Pairwise.nil
  | cons x r => exact asc_rising h hn
/-- the place of a text among ascending ones -/
theorem ins_place {x : Str} : ∀ {l : List Str}, AscS l → x ∉ l → ins x l = l.take (l.filter fun y => decide (y.cps.toList < x.cps.toList)).length ++ [x] ++ l.drop (l.filter fun y => decide (y.cps.toList < x.cps.toList)).length
  | [], _, _ => rfl
  | y :: l, h, hx => by
    obtain ⟨h1, h2⟩ := List.pairwise_cons.mp h
    show (if y.cps.toList < x.cps.toList then y :: ins x l else if y = x then y :: l else x :: y :: l) = _
    by_cases g : y.cps.toList < x.cps.toList
    · rw [if_pos g, List.filter_cons_of_pos (by rw [decide_eq_true g]), List.length_cons, List.take_succ_cons, List.drop_succ_cons, ins_place h2 fun z => hx (List.mem_cons_of_mem _ z)]
      rfl
    · have e : y ≠ x := fun e => hx (by rw [e]; exact List.mem_cons_self)
      have no : l.filter (fun y => decide (y.cps.toList < x.cps.toList)) = [] := List.filter_eq_nil_iff.mpr fun a ha => by
        rw [decide_eq_true_eq]
        exact fun q => g (slt_tr (h1 a ha) q)
      rw [if_neg g, if_neg e, List.filter_cons_of_neg (by rw [decide_eq_false g]; exact Bool.false_ne_true), no]
      rfl
theorem ins_in {x : Str} : ∀ {l : List Str}, AscS l → x ∈ l → ins x l = l
  | [], _, hx => by cases hx
  | y :: l, h, hx => by
    obtain ⟨h1, h2⟩ := List.pairwise_cons.mp h
    show (if y.cps.toList < x.cps.toList then y :: ins x l else if y = x then y :: l else x :: y :: l) = _
    by_cases g : y.cps.toList < x.cps.toList
    · rw [if_pos g]
      rcases List.mem_cons.mp hx with e | hx
      · subst e
        exact absurd g (slt_irr _)
      · rw [ins_in h2 hx]
    · rw [if_neg g]
      rcases List.mem_cons.mp hx with e | hx
      · subst e
        rw [if_pos rfl]
      · exact absurd (h1 x hx) g
theorem srt_len (l : List Str) : (srt l).length ≤ l.length := by
  refine nodup_sub (asc_nd (srt_asc l)) fun x hx => srt_mem.mp hx
/-! ### rows and their projections -/
def dOf (l : List Deed) (w : Str) : List Str := (l.filter fun p => decide (p.1 = w)).map (·.2)
def wOf (l : List Deed) (d : Str) : List Str := (l.filter fun p => decide (p.2 = d)).map (·.1)
theorem dOf_len (l : List Deed) (w : Str) : (dOf l w).length ≤ l.length := by
  unfold dOf
  rw [List.length_map]
  exact List.length_filter_le _ _
theorem wOf_len (l : List Deed) (w : Str) : (wOf l w).length ≤ l.length := by
  unfold wOf
  rw [List.length_map]
  exact List.length_filter_le _ _
theorem dOf_snoc (l : List Deed) (p : Deed) (w : Str) : dOf (l ++ [p]) w = dOf l w ++ (if p.1 = w then [p.2] else []) := by
  unfold dOf
  rw [List.filter_append, List.map_append]
  congr 1
  by_cases h : p.1 = w
  · rw [if_pos h, List.filter_cons_of_pos (by rw [decide_eq_true h])]
    rfl
  · rw [if_neg h, List.filter_cons_of_neg (by rw [decide_eq_false h]; exact Bool.false_ne_true)]
    rfl
theorem wOf_snoc (l : List Deed) (p : Deed) (d : Str) : wOf (l ++ [p]) d = wOf l d ++ (if p.2 = d then [p.1] else []) := by
  unfold wOf
  rw [List.filter_append, List.map_append]
  congr 1
  by_cases h : p.2 = d
  · rw [if_pos h, List.filter_cons_of_pos (by rw [decide_eq_true h])]
    rfl
  · rw [if_neg h, List.filter_cons_of_neg (by rw [decide_eq_false h]; exact Bool.false_ne_true)]
    rfl
theorem dOf_no {l : List Deed} {w : Str} (h : w ∉ l.map (·.1)) : dOf l w = [] := by
  unfold dOf
  rw [List.filter_eq_nil_iff.mpr fun p hp => ?_]
  · rfl
  · rw [decide_eq_true_eq]
    exact fun e => h (List.mem_map.mpr ⟨p, hp, e⟩)
theorem wOf_no {l : List Deed} {d : Str} (h : d ∉ l.map (·.2)) : wOf l d = [] := by
  unfold wOf
  rw [List.filter_eq_nil_iff.mpr fun p hp => ?_]
  · rfl
  · rw [decide_eq_true_eq]
    exact fun e => h (List.mem_map.mpr ⟨p, hp, e⟩)
def seqD (ks : List Str) (f : Str → List Str) : PyData := .tuple (ks.map fun k => .tuple [.str k, sD (f k)])
def projD (l : List Deed) : PyData := .tuple [seqD (srt (l.map (·.1))) (dOf l), seqD (srt (l.map (·.2))) (wOf l)]
/-! ### how they lie in the heap -/
def pr (p : Deed) : List Str := [p.1, p.2]
def Rw (K : PySem.W.Frag) (H : Hp) (r : Addr) (l : List Deed) : Prop := ∃ as : List Addr, (SqL K H r (as.map V.ref) ∨ SqT K H r (as.map V.ref)) ∧ RowsAt H as (l.map pr)
def SeqsAt (H : Hp) (as : List Addr) (ks : List Str) (f : Str → List Str) : Prop := as.length = ks.length ∧ ∀ (i : Nat) (a : Addr) (k : Str), as[i]? = some a → ks[i]? = some k → ∃ t, H a = some (.tup [.str k, .ref t]) ∧ H t = some (.tup ((f k).map V.str))
theorem SeqsAt.nil {H : Hp} {f : Str → List Str} : SeqsAt H [] [] f := ⟨rfl, fun i a k e => by cases e⟩
theorem SeqsAt.tu {H H' : Hp} {as : List Addr} {ks : List Str} {f : Str → List Str} (x : Tu H H') (h : SeqsAt H as ks f) : SeqsAt H' as ks f := ⟨h.1, fun i a k e1 e2 => by
  obtain ⟨t, h1, h2⟩ := h.2 i a k e1 e2
  exact ⟨t, x _ _ h1, x _ _ h2⟩⟩
theorem SeqsAt.snoc {H : Hp} {as : List Addr} {ks : List Str} {f : Str → List Str} {a t : Addr} {k : Str} (h : SeqsAt H as ks f) (ha : H a = some (.tup [.str k, .ref t])) (ht : H t = some (.tup ((f k).map V.str))) : SeqsAt H (as ++ [a]) (ks ++ [k]) f := by
  refine ⟨by rw [List.length_append, List.length_append, h.1]; rfl, fun i b s e1 e2 => ?_⟩
  by_cases hi : i < as.length
  · rw [List.getElem?_append_left hi] at e1
    rw [List.getElem?_append_left (by rw [← h.1]; exact hi)] at e2
    exact h.2 i b s e1 e2
  · have hl := h.1
    rw [List.getElem?_append_right (by omega)] at e1 e2
    have hi2 : i = as.length := by
      have z := (List.getElem?_eq_some_iff.mp e1).1
      rw [List.length_singleton] at z
      omega
    subst hi2
    rw [Nat.sub_self] at e1
    rw [hl, Nat.sub_self] at e2
    cases e1
    cases e2
    exact ⟨t, ha, ht⟩
theorem dr_strsH {H : Hp} {n : Nat} {l : List Str} (hl : l.length ≤ 1000) {a : Addr} (ha : H a = some (.tup (l.map V.str))) : DR H (n + 2) (.ref a) (sD l) := by
  refine .inr ⟨a, _, _, rfl, rfl, ha, ⟨by rw [List.length_map, List.length_map], by rw [List.length_map]; exact hl⟩, fun i v e a1 a2 => .inl ?_⟩
  rw [List.getElem?_map] at a1 a2
  cases z : l[i]? with
  | none => rw [z] at a1; cases a1
  | some y => rw [z] at a1 a2; cases a1; cases a2; exact .inl ⟨y, rfl, rfl⟩
theorem dr_seq {H : Hp} {p : Addr} {as : List Addr} {ks : List Str} {f : Str → List Str} (hp : H p = some (.tup (as.map V.ref))) (h : SeqsAt H as ks f) (h1 : ks.length ≤ 1000) (h2 : ∀ k ∈ ks, (f k).length ≤ 1000) : DR H 4 (.ref p) (seqD ks f) := by
  refine .inr ⟨p, _, _, rfl, rfl, hp, ⟨by rw [List.length_map, List.length_map]; exact h.1, by rw [List.length_map]; exact h1⟩, fun i v e a1 a2 => ?_⟩
  rw [List.getElem?_map] at a1 a2
  cases z : as[i]? with
  | none => rw [z] at a1; cases a1
  | some a =>
    cases y : ks[i]? with
    | none => rw [y] at a2; cases a2
    | some k =>
      rw [z] at a1
      rw [y] at a2
      cases a1; cases a2
      obtain ⟨t, e1, e2⟩ := h.2 i a k z y
      refine .inr ⟨a, _, _, rfl, rfl, e1, ⟨rfl, by show 2 ≤ 1000; decide⟩, fun j v e a1 a2 => ?_⟩
      match j with
      | 0 => cases a1; cases a2; exact .inl (.inl ⟨_, rfl, rfl⟩)
      | 1 => cases a1; cases a2; exact dr_strsH (h2 k (List.mem_of_getElem? y)) e2
      | j + 2 => cases a1
theorem dr_two {H : Hp} {n : Nat} {p : Addr} {x y : V} {d e : PyData} (hp : H p = some (.tup [x, y])) (h1 : DR H n x d) (h2 : DR H n y e) : DR H (n + 1) (.ref p) (.tuple [d, e]) := by
  refine .inr ⟨p, _, _, rfl, rfl, hp, ⟨rfl, by show 2 ≤ 1000; decide⟩, fun j v e a1 a2 => ?_⟩
  match j with
  | 0 => cases a1; cases a2; exact h1
  | 1 => cases a1; cases a2; exact h2
  | j + 2 => cases a1
/-! ### a walk over a list or a tuple -/
def Lp (J : It) (g : TG) (tb : TS) (D : Ends) (σ : L2.St) (H : Hp) : Prop := ∃ W : Nat → Nat → L2.St → Hp → Prop, (∃ m, W 0 m σ H) ∧ ∀ i m σ H, W i m σ H →
      (J.stop i H ∧ D.nx σ H) ∨ (J.go i H ∧ ∃ N : L2.St → Hp → Prop, (∀ σ' H', N σ' H' → ∃ m', m' < m ∧ W (i + 1) m' σ' H') ∧ ∀ x H', J.yld i H x H' → g x σ H' fun σ2 H2 => tb { D with nx := N, ct := N, bk := D.nx } σ2 H2)
def iSeq (K : PySem.W.Frag) (tl : TE) : TI := fun σ H R => tl σ H fun x H1 => ∃ a, x = .ref a ∧ (((∃ xs, SqL K H1 a xs) ∧ R (Itl K a) H1) ∨ ((∃ xs, SqT K H1 a xs) ∧ R (Itt K a) H1))
theorem pi_seq {X : Cx} {tg l : Expr} {tl : TE} (hl : PE X l tl) : PI X tg l (iSeq X.K tl) := by
  refine ⟨fun pins s σ H R I h => ?_⟩
  refine thn (hl.run pins s σ H _ I h) fun v s1 ⟨x, H1, I1, r1, q1⟩ => ?_
  obtain ⟨a, e, q1⟩ := q1
  subst e
  cases r1
  rcases q1 with ⟨⟨xs, hq⟩, q⟩ | ⟨⟨xs, hq⟩, q⟩
  · obtain ⟨its, rv, p, hz⟩ := I1.list hq
    refine wpAny_pyIter_list p.isList ?_
    refine ⟨s1.heap.objs.size, [s1.heap.objs.size], _, _, H1, rfl, I1.kept (t' := s1.toks) fun b o e => Heap.get?_push_of_some _ e, turn_list a _, ⟨_, Heap.get?_push_size _ rfl, rfl, rfl⟩, fun b hb => ?_, q⟩
    have e : b = s1.heap.objs.size := by simpa using hb
    subst e
    exact I1.fpOk (Nat.le_refl _) (I1.hok.fresh (Nat.le_refl _))
  · obtain ⟨its, rv, p, hz⟩ := I1.tuple hq
    refine wpAny_pyIter_tuple (show s1.heap.IsTuple a its.toArray from p) ?_
    refine ⟨s1.heap.objs.size, [s1.heap.objs.size], _, _, H1, rfl, I1.kept (t' := s1.toks) fun b o e => Heap.get?_push_of_some _ e, turn_tuple a _, ⟨_, Heap.get?_push_size _ rfl, rfl, rfl⟩, fun b hb => ?_, q⟩
    have e : b = s1.heap.objs.size := by simpa using hb
    subst e
    exact I1.fpOk (Nat.le_refl _) (I1.hok.fresh (Nat.le_refl _))
theorem sqL_same {K : PySem.W.Frag} {H H' : Hp} {a : Addr} {xs : List V} (x : Same H H') (h : SqL K H a xs) : SqL K H' a xs := by
  rcases h with (h | ⟨o, h⟩) | h
  · exact .inl (.inl (x _ _ h))
  · exact .inl (.inr ⟨o, x _ _ h⟩)
  · exact .inr h
theorem sqT_same {K : PySem.W.Frag} {H H' : Hp} {a : Addr} {xs : List V} (x : Same H H') (h : SqT K H a xs) : SqT K H' a xs := by
  rcases h with (h | ⟨o, h⟩) | h
  · exact .inl (.inl (x _ _ h))
  · exact .inl (.inr ⟨o, x _ _ h⟩)
  · exact .inr h
theorem Rw.same {K : PySem.W.Frag} {H H' : Hp} {r : Addr} {l : List Deed} (x : Same H H') (h : Rw K H r l) : Rw K H' r l := by
  obtain ⟨as, h1, h2⟩ := h
  exact ⟨as, h1.elim (fun z => .inl (sqL_same x z)) fun z => .inr (sqT_same x z), h2.tu (Tu.same x)⟩
/-- a walk over what is a list or a tuple -/
theorem for_seq {K : PySem.W.Frag} {a : Addr} {xs : List V} {g : TG} {tb : TS} {D : Ends} {σ : L2.St} {H H0 : Hp} (hk : SqL K H0 a xs ∨ SqT K H0 a xs) (Pv : Nat → L2.St → Hp → Prop) (h0 : Pv 0 σ H)
    (keep : ∀ i σ' H', Pv i σ' H' → Same H0 H')
    (hs : ∀ i x σ H, xs[i]? = some x → Pv i σ H → g x σ H fun σ2 H2 => tb { D with nx := Pv (i + 1), ct := Pv (i + 1), bk := D.nx } σ2 H2) (hd : ∀ σ H, Pv xs.length σ H → D.nx σ H) :
    ((∃ xs, SqL K H a xs) ∧ (∃ W : Nat → Nat → L2.St → Hp → Prop, (∃ m, W 0 m σ H) ∧ ∀ i m σ H, W i m σ H →
      ((Itl K a).stop i H ∧ D.nx σ H) ∨ ((Itl K a).go i H ∧ ∃ N : L2.St → Hp → Prop, (∀ σ' H', N σ' H' → ∃ m', m' < m ∧ W (i + 1) m' σ' H') ∧ ∀ x H', (Itl K a).yld i H x H' → g x σ H' fun σ2 H2 => tb { D with nx := N, ct := N, bk := D.nx } σ2 H2))) ∨ ((∃ xs, SqT K H a xs) ∧ (∃ W : Nat → Nat → L2.St → Hp → Prop, (∃ m, W 0 m σ H) ∧ ∀ i m σ H, W i m σ H →
      ((Itt K a).stop i H ∧ D.nx σ H) ∨ ((Itt K a).go i H ∧ ∃ N : L2.St → Hp → Prop, (∀ σ' H', N σ' H' → ∃ m', m' < m ∧ W (i + 1) m' σ' H') ∧ ∀ x H', (Itt K a).yld i H x H' → g x σ H' fun σ2 H2 => tb { D with nx := N, ct := N, bk := D.nx } σ2 H2))) := by
  rcases hk with hk | hk
  · exact .inl ⟨⟨_, sqL_same (keep _ _ _ h0) hk⟩, for_list (K := K) (a := a) (xs := xs) Pv h0 (fun i σ' H' _ p => sqL_same (keep i σ' H' p) hk) hs hd⟩
  · exact .inr ⟨⟨_, sqT_same (keep _ _ _ h0) hk⟩, for_tup (K := K) (a := a) (xs := xs) Pv h0 (fun i σ' H' _ p => sqT_same (keep i σ' H' p) hk) hs hd⟩
/-! ### dicts from texts to lists of texts -/
abbrev rSortedDK : List V → Hp → VK → Prop := fun xs H Q => ∃ (a : Addr) (kvs : List (Key × V)) (ks : List Str), xs = [.ref a] ∧ L2.Rd H a (.dK kvs) ∧ kvs.map (·.1) = ks.map Sum.inr ∧ ks.length < 64 ∧ ∀ ys p, ys.Perm ks → sortedS ys = true → H p = none → Q (.ref p) (L2.upd H p (.lst (ys.map V.str)))
def kvOf (m : List (Str × Addr)) : List (Key × V) := m.map fun p => (Sum.inr p.1, V.ref p.2)
structure Dl (H : Hp) (d : Addr) (m : List (Str × Addr)) (f : Str → List Str) : Prop where
  at_ : H d = some (.dK (kvOf m))
  nd : (m.map (·.1)).Nodup
  ls : ∀ p ∈ m, H p.2 = some (.lst ((f p.1).map V.str))
theorem kvOf_val {m : List (Str × Addr)} {k : Str} {v : V} (h : valV (kvOf m) (Sum.inr k) = some v) : ∃ a, v = .ref a ∧ (k, a) ∈ m := by
  induction m with
  | nil => cases h
  | cons p m ih =>
    by_cases e : p.1 = k
    · have z : valV (kvOf (p :: m)) (Sum.inr k) = some (V.ref p.2) := valV_pos (p := (Sum.inr p.1, V.ref p.2)) (r := kvOf m) (by rw [e])
      rw [z] at h
      cases h
      exact ⟨p.2, rfl, by rw [← e]; exact List.mem_cons_self⟩
    · have z : valV (kvOf (p :: m)) (Sum.inr k) = valV (kvOf m) (Sum.inr k) := valV_neg (p := (Sum.inr p.1, V.ref p.2)) (r := kvOf m) (fun q => e (Sum.inr.inj q))
      rw [z] at h
      obtain ⟨a, h1, h2⟩ := ih h
      exact ⟨a, h1, List.mem_cons_of_mem _ h2⟩
theorem kvOf_no {m : List (Str × Addr)} {k : Str} (h : valV (kvOf m) (Sum.inr k) = none) : k ∉ m.map (·.1) := by
  induction m with
  | nil => simp
  | cons p m ih =>
    by_cases e : p.1 = k
    · have z : valV (kvOf (p :: m)) (Sum.inr k) = some (V.ref p.2) := valV_pos (p := (Sum.inr p.1, V.ref p.2)) (r := kvOf m) (by rw [e])
      rw [z] at h
      cases h
    · have z : valV (kvOf (p :: m)) (Sum.inr k) = valV (kvOf m) (Sum.inr k) := valV_neg (p := (Sum.inr p.1, V.ref p.2)) (r := kvOf m) (fun q => e (Sum.inr.inj q))
      rw [z] at h
      intro q
      rcases List.mem_cons.mp q with q | q
      · exact e q.symm
      · exact ih h q
theorem kvOf_get {m : List (Str × Addr)} {k : Str} {a : Addr} (nd : (m.map (·.1)).Nodup) (h : (k, a) ∈ m) : valV (kvOf m) (Sum.inr k) = some (.ref a) := by
  induction m with
  | nil => cases h
  | cons p m ih =>
    obtain ⟨n1, n2⟩ := List.nodup_cons.mp nd
    by_cases e : p.1 = k
    · have z : valV (kvOf (p :: m)) (Sum.inr k) = some (V.ref p.2) := valV_pos (p := (Sum.inr p.1, V.ref p.2)) (r := kvOf m) (by rw [e])
      rw [z]
      rcases List.mem_cons.mp h with h | h
      · rw [← h]
      · exact absurd (show p.1 ∈ m.map (·.1) from List.mem_map.mpr ⟨_, h, e.symm⟩) n1
    · have z : valV (kvOf (p :: m)) (Sum.inr k) = valV (kvOf m) (Sum.inr k) := valV_neg (p := (Sum.inr p.1, V.ref p.2)) (r := kvOf m) (fun q => e (Sum.inr.inj q))
      rw [z]
      rcases List.mem_cons.mp h with h | h
      · exact absurd (by rw [← h]) e
      · exact ih n2 h
theorem kvOf_keys (m : List (Str × Addr)) : (kvOf m).map (·.1) = (m.map (·.1)).map Sum.inr := by
  unfold kvOf
  rw [List.map_map, List.map_map]
  rfl
theorem kvOf_put {m : List (Str × Addr)} {k : Str} {a : Addr} (h : valV (kvOf m) (Sum.inr k) = none) : putK (kvOf m) (Sum.inr k) (.ref a) = kvOf (m ++ [(k, a)]) := by
  rw [putK_new _ h]
  unfold kvOf
  rw [List.map_append]
  rfl
theorem kvOf_len (m : List (Str × Addr)) : (kvOf m).length = m.length := List.length_map _
theorem Dl.same {H H' : Hp} {d : Addr} {m : List (Str × Addr)} {f : Str → List Str} (x : Same H H') (h : Dl H d m f) : Dl H' d m f := ⟨x _ _ h.at_, h.nd, fun p hp => x _ _ (h.ls p hp)⟩
theorem Dl.other {H : Hp} {d a : Addr} {m : List (Str × Addr)} {f : Str → List Str} (h : Dl H d m f) (na : a ≠ d) (nm : a ∉ m.map (·.2)) (o : HO) : Dl (upd H a o) d m f :=
  ⟨by rw [upd_ne na.symm]; exact h.at_, h.nd, fun p hp => by rw [upd_ne (fun e => nm (by rw [← e]; exact List.mem_map.mpr ⟨p, hp, rfl⟩))]; exact h.ls p hp⟩
def addF (f : Str → List Str) (k x : Str) : Str → List Str := fun j => f j ++ (if k = j then [x] else [])
theorem pair_snd {m : List (Str × Addr)} (nd : (m.map (·.2)).Nodup) {p q : Str × Addr} (hp : p ∈ m) (hq : q ∈ m) (e : p.2 = q.2) : p = q := by
  induction m with
  | nil => cases hp
  | cons r m ih =>
    obtain ⟨n1, n2⟩ := List.nodup_cons.mp nd
    rcases List.mem_cons.mp hp with rfl | hp2
    · rcases List.mem_cons.mp hq with rfl | hq2
      · rfl
      · exact absurd (show p.2 ∈ m.map (·.2) from List.mem_map.mpr ⟨q, hq2, e.symm⟩) n1
    · rcases List.mem_cons.mp hq with rfl | hq2
      · exact absurd (show q.2 ∈ m.map (·.2) from List.mem_map.mpr ⟨p, hp2, e⟩) n1
      · exact ih n2 hp2 hq2
theorem pair_fst {m : List (Str × Addr)} (nd : (m.map (·.1)).Nodup) {p q : Str × Addr} (hp : p ∈ m) (hq : q ∈ m) (e : p.1 = q.1) : p = q := by
  induction m with
  | nil => cases hp
  | cons r m ih =>
    obtain ⟨n1, n2⟩ := List.nodup_cons.mp nd
    rcases List.mem_cons.mp hp with rfl | hp2
    · rcases List.mem_cons.mp hq with rfl | hq2
      · rfl
      · exact absurd (show p.1 ∈ m.map (·.1) from List.mem_map.mpr ⟨q, hq2, e.symm⟩) n1
    · rcases List.mem_cons.mp hq with rfl | hq2
      · exact absurd (show q.1 ∈ m.map (·.1) from List.mem_map.mpr ⟨p, hp2, e⟩) n1
      · exact ih n2 hp2 hq2
theorem Dl.found {H : Hp} {d a : Addr} {m : List (Str × Addr)} {f : Str → List Str} {k x : Str} (h : Dl H d m f) (ha : (k, a) ∈ m) (nd : (m.map (·.2)).Nodup) : Dl (upd H a (.lst ((f k).map V.str ++ [.str x]))) d m (addF f k x) := by
  have nad : d ≠ a := fun e => by
    have z := h.ls _ ha
    rw [← e, h.at_] at z
    cases z
  refine ⟨by rw [upd_ne nad]; exact h.at_, h.nd, fun p hp => ?_⟩
  unfold addF
  by_cases e : p.2 = a
  · have z := pair_snd nd hp ha e
    subst z
    rw [upd_same, if_pos rfl, List.map_append]
    rfl
  · have n : ¬ k = p.1 := fun q => e (by rw [pair_fst h.nd hp ha q.symm])
    rw [upd_ne e, if_neg n, List.append_nil]
    exact h.ls p hp
theorem Dl.newK {H : Hp} {d z : Addr} {m : List (Str × Addr)} {f : Str → List Str} {k x : Str} (h : Dl H d m f) (no : k ∉ m.map (·.1)) (hk : f k = []) (nz : z ∉ m.map (·.2)) (nd : z ≠ d) : Dl (upd (upd H d (.dK (kvOf (m ++ [(k, z)])))) z (.lst [.str x])) d (m ++ [(k, z)]) (addF f k x) := by
  refine ⟨by rw [upd_ne nd.symm, upd_same], ?_, fun p hp => ?_⟩
  · rw [List.map_append]
    exact List.nodup_append.mpr ⟨h.nd, List.nodup_cons.mpr ⟨by simp, List.nodup_nil⟩, fun a ha b hb e => by
      rw [e, List.mem_singleton.mp hb] at ha
      exact no ha⟩
  unfold addF
  rcases List.mem_append.mp hp with hp | hp
  · have n1 : p.2 ≠ z := fun e => nz (by rw [← e]; exact List.mem_map.mpr ⟨p, hp, rfl⟩)
    have n2 : p.2 ≠ d := fun e => by
      have q := h.ls p hp
      rw [e, h.at_] at q
      cases q
    have n3 : ¬ k = p.1 := fun e => no (by rw [e]; exact List.mem_map.mpr ⟨p, hp, rfl⟩)
    rw [upd_ne n1, upd_ne n2, if_neg n3, List.append_nil]
    exact h.ls p hp
  · rw [List.mem_singleton.mp hp]
    show upd _ z _ z = _
    rw [upd_same, if_pos rfl, hk]
    rfl
/-- two dicts of lists, side by side -/
structure P2 (H0 H : Hp) (d1 d2 : Addr) (m1 m2 : List (Str × Addr)) (f1 f2 : Str → List Str) : Prop where
  s : Same H0 H
  a : Dl H d1 m1 f1
  b : Dl H d2 m2 f2
  nd : (m1.map (·.2) ++ m2.map (·.2)).Nodup
  fr : ∀ x ∈ m1.map (·.2) ++ m2.map (·.2), H0 x = none
  g1 : H0 d1 = none
  g2 : H0 d2 = none
  ne : d1 ≠ d2
theorem P2.swap {H0 H : Hp} {d1 d2 : Addr} {m1 m2 : List (Str × Addr)} {f1 f2 : Str → List Str} (p : P2 H0 H d1 d2 m1 m2 f1 f2) : P2 H0 H d2 d1 m2 m1 f2 f1 :=
  ⟨p.s, p.b, p.a, by
    obtain ⟨h1, h2, h3⟩ := List.nodup_append.mp p.nd
    exact List.nodup_append.mpr ⟨h2, h1, fun a ha b hb e => h3 b hb a ha e.symm⟩, fun x hx => p.fr x (by
    rcases List.mem_append.mp hx with h | h
    · exact List.mem_append_right _ h
    · exact List.mem_append_left _ h), p.g2, p.g1, p.ne.symm⟩
theorem P2.same {H0 H H' : Hp} {d1 d2 : Addr} {m1 m2 : List (Str × Addr)} {f1 f2 : Str → List Str} (p : P2 H0 H d1 d2 m1 m2 f1 f2) (x : Same H H') : P2 H0 H' d1 d2 m1 m2 f1 f2 :=
  ⟨p.s.trans x, p.a.same x, p.b.same x, p.nd, p.fr, p.g1, p.g2, p.ne⟩
theorem P2.found {H0 H : Hp} {d1 d2 a : Addr} {m1 m2 : List (Str × Addr)} {f1 f2 : Str → List Str} {k x : Str} (p : P2 H0 H d1 d2 m1 m2 f1 f2) (ha : (k, a) ∈ m1) : P2 H0 (upd H a (.lst ((f1 k).map V.str ++ [.str x]))) d1 d2 m1 m2 (addF f1 k x) f2 := by
  obtain ⟨h1, h2, h3⟩ := List.nodup_append.mp p.nd
  have hm : a ∈ m1.map (·.2) := List.mem_map.mpr ⟨_, ha, rfl⟩
  have n2 : a ≠ d2 := fun e => by
    have z := p.a.ls _ ha
    have z2 : H a = some (.lst ((f1 k).map V.str)) := z
    rw [e, p.b.at_] at z2
    cases z2
  exact ⟨same_mut p.s (p.fr a (List.mem_append_left _ hm)) _, p.a.found ha h1, p.b.other n2 (fun z => h3 a hm a z rfl) _, p.nd, p.fr, p.g1, p.g2, p.ne⟩
theorem P2.newK {H0 H : Hp} {d1 d2 z : Addr} {m1 m2 : List (Str × Addr)} {f1 f2 : Str → List Str} {k x : Str} (p : P2 H0 H d1 d2 m1 m2 f1 f2) (no : k ∉ m1.map (·.1)) (hk : f1 k = []) (hz : H z = none) :
    P2 H0 (upd (upd (upd H z (.lst [])) d1 (.dK (kvOf (m1 ++ [(k, z)])))) z (.lst [.str x])) d1 d2 (m1 ++ [(k, z)]) m2 (addF f1 k x) f2 := by
  have sz := same_new hz (.lst [])
  have pz := p.same sz
  have hz0 : H0 z = none := by
    cases q : H0 z with
    | none => rfl
    | some o =>
      have y := p.s _ _ q
      rw [hz] at y
      cases y
  have n1 : z ≠ d1 := fun e => by rw [e, p.a.at_] at hz; cases hz
  have n2 : z ≠ d2 := fun e => by rw [e, p.b.at_] at hz; cases hz
  have nm : z ∉ m1.map (·.2) ++ m2.map (·.2) := fun hm => by
    rcases List.mem_append.mp hm with hm | hm
    · obtain ⟨q, hq, e⟩ := List.mem_map.mp hm
      have y := p.a.ls q hq
      have e' : q.2 = z := e
      rw [e', hz] at y
      cases y
    · obtain ⟨q, hq, e⟩ := List.mem_map.mp hm
      have y := p.b.ls q hq
      have e' : q.2 = z := e
      rw [e', hz] at y
      cases y
  have na : z ∉ m1.map (·.2) := fun h => nm (List.mem_append_left _ h)
  have nb : z ∉ m2.map (·.2) := fun h => nm (List.mem_append_right _ h)
  have d1m2 : d1 ∉ m2.map (·.2) := fun hm => by
    obtain ⟨q, hq, e⟩ := List.mem_map.mp hm
    have y := p.b.ls q hq
    have e' : q.2 = d1 := e
    rw [e', p.a.at_] at y
    cases y
  obtain ⟨h1, h2, h3⟩ := List.nodup_append.mp p.nd
  refine ⟨same_mut (same_mut pz.s p.g1 _) hz0 _, pz.a.newK no hk na n1, (pz.b.other p.ne d1m2 _).other n2 nb _, ?_, ?_, p.g1, p.g2, p.ne⟩
  · rw [List.map_append]
    refine List.nodup_append.mpr ⟨List.nodup_append.mpr ⟨h1, List.nodup_cons.mpr ⟨by simp, List.nodup_nil⟩, fun a ha b hb e => ?_⟩, h2, fun a ha b hb e => ?_⟩
    · rw [e, List.mem_singleton.mp hb] at ha
      exact na ha
    · rcases List.mem_append.mp ha with ha | ha
      · exact h3 a ha b hb e
      · rw [← e, List.mem_singleton.mp ha] at hb
        exact nb hb
  · intro y hy
    rw [List.map_append] at hy
    rcases List.mem_append.mp hy with hy | hy
    · rcases List.mem_append.mp hy with hy | hy
      · exact p.fr y (List.mem_append_left _ hy)
      · rw [List.mem_singleton.mp hy]
        exact hz0
    · exact p.fr y (List.mem_append_right _ hy)
theorem keys_found {m : List (Str × Addr)} {l : List Str} {k : Str} (h : ∀ x, x ∈ m.map (·.1) ↔ x ∈ l) {a : Addr} (ha : (k, a) ∈ m) : ∀ x, x ∈ m.map (·.1) ↔ x ∈ l ++ [k] := fun x => by
  rw [h x, List.mem_append, List.mem_singleton]
  exact ⟨.inl, fun z => z.elim id fun e => by rw [e]; exact (h k).mp (List.mem_map.mpr ⟨_, ha, rfl⟩)⟩
theorem keys_new {m : List (Str × Addr)} {l : List Str} {k : Str} (h : ∀ x, x ∈ m.map (·.1) ↔ x ∈ l) {a : Addr} : ∀ x, x ∈ (m ++ [(k, a)]).map (·.1) ↔ x ∈ l ++ [k] := fun x => by
  rw [List.map_append, List.mem_append, h x, List.mem_append]
  rfl
theorem keys_len {m : List (Str × Addr)} {l : List Str} (nd : (m.map (·.1)).Nodup) (h : ∀ x, x ∈ m.map (·.1) ↔ x ∈ l) : m.length ≤ l.length := by
  have z := nodup_sub nd fun x hx => (h x).mp hx
  rw [List.length_map] at z
  exact z
theorem srt_keys {m : List (Str × Addr)} {l : List Str} (h : ∀ x, x ∈ m.map (·.1) ↔ x ∈ l) : srt (m.map (·.1)) = srt l := asc_unique (srt_asc _) (srt_asc _) fun x => by rw [srt_mem, srt_mem]; exact h x
theorem addF_dOf (l : List Deed) (p : Deed) : addF (dOf l) p.1 p.2 = dOf (l ++ [p]) := funext fun j => by
  rw [dOf_snoc]
  rfl
theorem addF_wOf (l : List Deed) (p : Deed) : addF (wOf l) p.2 p.1 = wOf (l ++ [p]) := funext fun j => by
  rw [wOf_snoc]
  rfl
/-! ### promises -/
def spAsc : Sp := fun vs H Q _ => ∃ (d : Addr) (m : List (Str × Addr)) (f : Str → List Str), vs = [.ref d] ∧ Dl H d m f ∧ m.length < 64 ∧ (∀ k, (f k).length ≤ 1000) ∧
  ∀ p as H', Same H H' → H' p = some (.tup (as.map V.ref)) → SeqsAt H' as (srt (m.map (·.1))) f → Q (.ref p) H'
def spProj (K : PySem.W.Frag) : Sp := fun vs H Q _ => ∃ (r : Addr) (l : List Deed), vs = [.ref r] ∧ Rw K H r l ∧ l.length < 64 ∧ ∀ p H', Same H H' → DR H' 5 (.ref p) (projD l) → Q (.ref p) H'
def RowL (H : Hp) (p : Addr) (l : List Deed) : Prop := ∃ as : List Addr, H p = some (.lst (as.map V.ref)) ∧ RowsAt H as (l.map pr)
def NmD (l : List Deed) : Prop := ∀ q ∈ l, Nm q.1 ∧ Nm q.2
def spRow : Sp := fun vs H Q _ => ∃ (b : Addr) (n1 n2 m : Int), vs = [.ref b, .int n1, .int n2, .int m] ∧ Box H b ∧ 1 ≤ n1 ∧ n1 ≤ 26 ∧ 1 ≤ n2 ∧ n2 ≤ 26 ∧ 0 ≤ m ∧ m ≤ 60 ∧
  ∀ p l H', H p = none → RowL H' p l → NmD l → (l.length : Int) ≤ m → Box H' b → Ch b H H' → Q (.ref p) H'
def spCrowd2 : Sp := fun vs H Q _ => ∃ b : Addr, vs = [.ref b] ∧ Box H b ∧ ∀ p l H', H p = none → RowL H' p l → NmD l → l.length ≤ 60 → Box H' b → Ch b H H' → Q (.ref p) H'
def spSrt : Sp := fun vs H Q _ => ∃ (a : Addr) (ss : List Str), vs = [.ref a] ∧ H a = some (.lst (ss.map V.str)) ∧ ss.length ≤ 64 ∧ ∀ p H', Same H H' → H' p = some (.lst ((srt ss).map V.str)) → Q (.ref p) H'
def spDue : Sp := fun vs H Q _ => ∃ (a : Addr) (l : List Deed), vs = [.ref a] ∧ RowL H a l ∧ l.length < 64 ∧ ∀ p H', Same H H' → DR H' 5 (.ref p) (projD l) → Q (.ref p) H'
theorem RowL.same {H H' : Hp} {p : Addr} {l : List Deed} (x : Same H H') (h : RowL H p l) : RowL H' p l := by
  obtain ⟨as, h1, h2⟩ := h
  exact ⟨as, x _ _ h1, h2.tu (Tu.same x)⟩
theorem atSn {ss : List Str} {j : Int} (h0 : 0 ≤ j) (h1 : j < (ss.length : Int)) (hn : ∀ x ∈ ss, Nm x) : ∃ x, Nm x ∧ atI (ss.map V.str) j = some (.str x) := by
  obtain ⟨x, h2, h3⟩ := atS h0 h1
  exact ⟨x, hn x (List.mem_of_getElem? h2), h3⟩
end Td
set_option maxHeartbeats 4000000
namespace Td
open PySem PySem.Spec PyProof.Rows L2
/-! ### moves: a hall, a state, by index -/
def hd0 (r : List Str) : Str := r.headD ""
def oth (a b f : Str) : Str := if f = a then b else a
def errW (K : PySem.W.Frag) (E : XK) (c fl : Str) (v : V) (H : Hp) : Prop := ∀ H', Same H H' → ∀ d, H' d = none → E (.ref (He.ga K c)) (some d) (upd H' d (.xd [(fl, v)]))
theorem errW.same {K : PySem.W.Frag} {E : XK} {c fl : Str} {v : V} {H H' : Hp} (x : Same H H') (h : errW K E c fl v H) : errW K E c fl v H' := fun H2 s d hd => h H2 (x.trans s) d hd
theorem up_asc : ∀ {l : List Str} {p : Str}, Up p l → AscS (p :: l)
  | [], _, _ => List.pairwise_cons.mpr ⟨fun a h => (by cases h), List.Pairwise.nil⟩
  | x :: l, p, h => by
    obtain ⟨h1, h2⟩ := h
    have t := up_asc h2
    refine List.pairwise_cons.mpr ⟨fun a ha => ?_, t⟩
    rcases List.mem_cons.mp ha with rfl | ha
    · exact h1
    · exact slt_tr h1 ((List.pairwise_cons.mp t).1 a ha)
theorem StV.asc {rooms faces : List Str} {rows places : List (List Str)} (h : StV rooms rows faces places) : AscS (places.map hd0) := (List.pairwise_cons.mp (up_asc h.up)).2
theorem StV.pnd {rooms faces : List Str} {rows places : List (List Str)} (h : StV rooms rows faces places) : (places.map hd0).Nodup := asc_nd h.asc
/-- one place of a name among different names -/
theorem at_one {l : List (List Str)} (nd : (l.map hd0).Nodup) {i j : Nat} {x y : List Str} (h : l[i]? = some x) (g : l[j]? = some y) (e : hd0 x = hd0 y) : i = j := by
  have h1 : (l.map hd0)[i]? = some (hd0 x) := by rw [List.getElem?_map, h]; rfl
  have h2 : (l.map hd0)[j]? = some (hd0 x) := by rw [List.getElem?_map, g, e]; rfl
  exact nd_ix nd h1 h2
/-- a part of the rows before -/
theorem no_before {l : List (List Str)} {i : Nat} {x : Str} {r : List Str} (h : l[i]? = some r) (hn : hd0 r ≠ x) (no : x ∉ (l.take i).map hd0) : x ∉ (l.take (i + 1)).map hd0 := by
  rw [take_snoc h, List.map_append]
  intro z
  rcases List.mem_append.mp z with z | z
  · exact no z
  · exact hn (List.mem_singleton.mp z).symm
theorem at_of_mem {l : List (List Str)} {x : Str} (h : x ∈ l.map hd0) : ∃ (i : Nat) (r : List Str), l[i]? = some r ∧ hd0 r = x := by
  obtain ⟨r, hr, e⟩ := List.mem_map.mp h
  obtain ⟨i, hi⟩ := List.getElem?_of_mem hr
  exact ⟨i, r, hi, e⟩
theorem row_at {rooms : List Str} {rows : List (List Str)} (hV : HallV rooms rows) {x : Str} (h : x ∈ rows.map hd0) : ∃ (i : Nat) (a b : Str), rows[i]? = some [x, a, b] ∧ a ∈ rooms ∧ b ∈ rooms ∧ a ≠ b := by
  obtain ⟨i, r, hi, e⟩ := at_of_mem h
  obtain ⟨n, a, b, rfl, _, ha, hb, hab⟩ := hV.row r (List.mem_of_getElem? hi)
  cases e
  exact ⟨i, a, b, hi, ha, hb, hab⟩
theorem place_at {rooms faces : List Str} {rows places : List (List Str)} (h : StV rooms rows faces places) {x : Str} (hx : x ∈ places.map hd0) : ∃ (j : Nat) (r : Str), places[j]? = some [x, r] ∧ r ∈ rooms := by
  obtain ⟨j, p, hj, e⟩ := at_of_mem hx
  obtain ⟨w, r, rfl, _, hr⟩ := h.pl p (List.mem_of_getElem? hj)
  cases e
  exact ⟨j, r, hj, hr⟩
theorem face_at {rooms faces : List Str} {rows places : List (List Str)} (h : StV rooms rows faces places) {i : Nat} {n a b : Str} (hi : rows[i]? = some [n, a, b]) : ∃ f, faces[i]? = some f ∧ (f = a ∨ f = b) := by
  have hl : i < faces.length := by rw [h.fl]; exact (List.getElem?_eq_some_iff.mp hi).1
  have e := List.getElem?_eq_getElem hl
  obtain ⟨n', a', b', e2, e3⟩ := h.fc i _ _ e hi
  cases e2
  exact ⟨_, e, e3⟩
theorem map_set {l : List (List Str)} (nd : (l.map hd0).Nodup) {j : Nat} {x y : List Str} {g : List Str → List Str} (h : l[j]? = some x) (hg : ∀ r, hd0 r = hd0 x → g r = y) (hn : ∀ r, hd0 r ≠ hd0 x → g r = r) : l.map g = l.set j y := by
  refine List.ext_getElem? fun k => ?_
  rw [List.getElem?_map, List.getElem?_set]
  have hj : j < l.length := (List.getElem?_eq_some_iff.mp h).1
  by_cases e : j = k
  · subst e
    rw [if_pos rfl, if_pos hj, h]
    exact congrArg some (hg x rfl)
  · rw [if_neg e]
    cases q : l[k]? with
    | none => rfl
    | some r => exact congrArg some (hn r fun z => e (at_one nd h q z.symm))
/-! ### the promises -/
def spRoomI (K : PySem.W.Frag) : Sp := fun vs H Q E => ∃ (st : Addr) (x : Str) (faces : List Str) (places : List (List Str)), vs = [.ref st, .str x] ∧ HS H st faces places ∧ (∀ p ∈ places, ∃ w r : Str, p = [w, r]) ∧
  (∀ (j : Nat) (r : Str), places[j]? = some [x, r] → ∀ H', Same H H' → Q (.str r) H') ∧ (x ∉ places.map hd0 → errW K E "UnknownWalker" "name" (.str x) H)
def spFaceI (K : PySem.W.Frag) : Sp := fun vs H Q E => ∃ (h st : Addr) (x : Str) (rooms : List Str) (rows : List (List Str)) (faces : List Str) (places : List (List Str)), vs = [.ref h, .ref st, .str x] ∧ HS H h rooms rows ∧ HallV rooms rows ∧ HS H st faces places ∧ faces.length = rows.length ∧
  (∀ (i : Nat) (a b f : Str), rows[i]? = some [x, a, b] → faces[i]? = some f → ∀ H', Same H H' → Q (.str f) H') ∧ (x ∉ rows.map hd0 → errW K E "UnknownDoor" "name" (.str x) H)
def spEndsI (K : PySem.W.Frag) : Sp := fun vs H Q E => ∃ (h : Addr) (x : Str) (rooms : List Str) (rows : List (List Str)), vs = [.ref h, .str x] ∧ HS H h rooms rows ∧ HallV rooms rows ∧
  (∀ (i : Nat) (a b : Str), rows[i]? = some [x, a, b] → ∀ p H', Same H H' → H' p = some (.tup [.str a, .str b]) → Q (.ref p) H') ∧ (x ∉ rows.map hd0 → errW K E "UnknownDoor" "name" (.str x) H)
/-- a hall and a state of it in the heap -/
structure HSt (H : Hp) (h st : Addr) (rooms : List Str) (rows : List (List Str)) (faces : List Str) (places : List (List Str)) : Prop where
  h : HS H h rooms rows
  v : HallV rooms rows
  s : HS H st faces places
  t : StV rooms rows faces places
theorem HSt.same {H H' : Hp} {h st : Addr} {rooms : List Str} {rows : List (List Str)} {faces : List Str} {places : List (List Str)} (x : Tu H H') (y : HSt H h st rooms rows faces places) : HSt H' h st rooms rows faces places := ⟨y.h.tu x, y.v, y.s.tu x, y.t⟩
def spCanP (K : PySem.W.Frag) : Sp := fun vs H Q E => ∃ (h st : Addr) (w x : Str) (rooms : List Str) (rows : List (List Str)) (faces : List Str) (places : List (List Str)), vs = [.ref h, .ref st, .str w, .str x] ∧ HSt H h st rooms rows faces places ∧
  (w ∉ places.map hd0 → errW K E "UnknownWalker" "name" (.str w) H) ∧ (w ∈ places.map hd0 → x ∉ rows.map hd0 → errW K E "UnknownDoor" "name" (.str x) H) ∧
  (∀ (i j : Nat) (a b f r : Str), rows[i]? = some [x, a, b] → faces[i]? = some f → places[j]? = some [w, r] → ∀ H', Same H H' → Q (.bl (decide (f = r))) H')
def spTurnI (K : PySem.W.Frag) : Sp := fun vs H Q E => ∃ (h st : Addr) (x : Str) (rooms : List Str) (rows : List (List Str)) (faces : List Str) (places : List (List Str)), vs = [.ref h, .ref st, .str x] ∧ HSt H h st rooms rows faces places ∧
  (x ∉ rows.map hd0 → errW K E "UnknownDoor" "name" (.str x) H) ∧ (∀ (i : Nat) (a b f : Str), rows[i]? = some [x, a, b] → faces[i]? = some f → ∀ p H', Same H H' → HS H' p (faces.set i (oth a b f)) places → Q (.ref p) H')
def spPassI (K : PySem.W.Frag) : Sp := fun vs H Q E => ∃ (h st : Addr) (w x : Str) (rooms : List Str) (rows : List (List Str)) (faces : List Str) (places : List (List Str)), vs = [.ref h, .ref st, .str w, .str x] ∧ HSt H h st rooms rows faces places ∧
  (w ∉ places.map hd0 → errW K E "UnknownWalker" "name" (.str w) H) ∧ (w ∈ places.map hd0 → x ∉ rows.map hd0 → errW K E "UnknownDoor" "name" (.str x) H) ∧
  (∀ (i j : Nat) (a b f r : Str), rows[i]? = some [x, a, b] → faces[i]? = some f → places[j]? = some [w, r] → (f ≠ r → errW K E "Blocked" "index" (.int 0) H) ∧
    (f = r → ∀ p H', Same H H' → HS H' p (faces.set i (oth a b f)) (places.set j [w, oth a b f]) → Q (.ref p) H'))
/-! ### dicts from walkers to rooms -/
abbrev rDictP (K : PySem.W.Frag) : List V → Hp → VK → Prop := fun xs H Q => ∃ (a : Addr) (ps : List Addr) (kvs : List (Key × V)), xs = [.ref a] ∧ SqL K H a (ps.map V.ref) ∧ Paired (fun p kv => SqT K H p [kV kv.1, kv.2]) ps kvs ∧
    ∀ p, H p = none → Q (.ref p) (L2.upd H p (.dK (mergeK [] kvs)))
def kvP (places : List (List Str)) : List (Key × V) := places.map fun p => (Sum.inr (hd0 p), V.str (p.getD 1 ""))
theorem val_none {kvs : List (Key × V)} {k : Key} (h : k ∉ kvs.map (·.1)) : valV kvs k = none := by
  unfold valV
  rw [List.find?_eq_none.mpr fun kv hkv => ?_]
  · rfl
  · rw [decide_eq_true_eq]
    exact fun e => h (List.mem_map.mpr ⟨kv, hkv, e⟩)
theorem merge_nd : ∀ (m acc : List (Key × V)), ((acc ++ m).map (·.1)).Nodup → mergeK acc m = acc ++ m
  | [], acc, _ => by
    show acc = acc ++ []
    rw [List.append_nil]
  | kv :: m, acc, h => by
    show mergeK (putK acc kv.1 kv.2) m = _
    have no : kv.1 ∉ acc.map (·.1) := fun z => by
      rw [List.map_append, List.map_cons] at h
      exact (List.nodup_append.mp h).2.2 _ z _ List.mem_cons_self rfl
    rw [putK_new _ (val_none no), merge_nd m (acc ++ [(kv.1, kv.2)]) (by rw [List.append_assoc]; exact h), List.append_assoc]
    rfl
theorem kvP_keys (places : List (List Str)) : (kvP places).map (·.1) = (places.map hd0).map Sum.inr := by
  unfold kvP
  rw [List.map_map, List.map_map]
  rfl
theorem inr_nd {l : List Str} (h : l.Nodup) : (l.map (Sum.inr : Str → Key)).Nodup := by
  refine List.Pairwise.map _ (fun a b hab e => hab (Sum.inr.inj e)) h
theorem kvP_merge {places : List (List Str)} (nd : (places.map hd0).Nodup) : mergeK [] (kvP places) = kvP places := by
  rw [merge_nd _ _ (by rw [List.nil_append, kvP_keys]; exact inr_nd nd)]
  rfl
theorem kvP_no {places : List (List Str)} {w : Str} (h : w ∉ places.map hd0) : valV (kvP places) (Sum.inr w) = none := val_none (by
  rw [kvP_keys]
  intro z
  obtain ⟨x, hx, e⟩ := List.mem_map.mp z
  rw [Sum.inr.inj e] at hx
  exact h hx)
theorem kvP_get {places : List (List Str)} (nd : (places.map hd0).Nodup) {j : Nat} {w r : Str} (h : places[j]? = some [w, r]) : valV (kvP places) (Sum.inr w) = some (.str r) := by
  induction places generalizing j with
  | nil => cases h
  | cons p ps ih =>
    obtain ⟨n1, n2⟩ := List.nodup_cons.mp nd
    cases j with
    | zero =>
      cases h
      exact valV_pos (p := (Sum.inr w, V.str r)) (r := kvP ps) rfl
    | succ j =>
      have h' : ps[j]? = some [w, r] := h
      have ne : ¬ (Sum.inr (hd0 p) : Key) = Sum.inr w := fun e => n1 (by
        rw [show hd0 p = w from Sum.inr.inj e]
        exact List.mem_map.mpr ⟨_, List.mem_of_getElem? h', rfl⟩)
      have z : valV (kvP (p :: ps)) (Sum.inr w) = valV (kvP ps) (Sum.inr w) := valV_neg (p := (Sum.inr (hd0 p), V.str (p.getD 1 ""))) (r := kvP ps) ne
      rw [z]
      exact ih n2 h'
theorem kvP_put {places : List (List Str)} (nd : (places.map hd0).Nodup) {j : Nat} {w r : Str} (h : places[j]? = some [w, r]) (t : Str) : putK (kvP places) (Sum.inr w) (.str t) = kvP (places.set j [w, t]) := by
  unfold putK
  rw [valV_any, kvP_get nd h, if_pos (show (some (V.str r)).isSome = true from rfl)]
  rw [← map_set (g := fun p => if hd0 p = w then [w, t] else p) nd h (fun r hr => if_pos hr) fun r hr => if_neg hr]
  unfold kvP
  rw [List.map_map, List.map_map]
  refine List.map_congr_left fun p _ => ?_
  show (if (Sum.inr (hd0 p) : Key) = Sum.inr w then ((Sum.inr (hd0 p) : Key), V.str t) else (Sum.inr (hd0 p), V.str (p.getD 1 ""))) = (Sum.inr (hd0 (if hd0 p = w then [w, t] else p)), V.str ((if hd0 p = w then [w, t] else p).getD 1 ""))
  by_cases e : hd0 p = w
  · rw [if_pos (by rw [e]), if_pos e, e]
    rfl
  · rw [if_neg (fun z => e (Sum.inr.inj z)), if_neg e]
theorem paired_places {K : PySem.W.Frag} {H : Hp} : ∀ {as : List Addr} {places : List (List Str)}, RowsAt H as places → (∀ p ∈ places, ∃ w r : Str, p = [w, r]) → Paired (fun p (kv : Key × V) => SqT K H p [kV kv.1, kv.2]) as (kvP places)
  | [], [], _, _ => .nil
  | [], _ :: _, h, _ => by cases h.1
  | _ :: _, [], h, _ => by cases h.1
  | a :: as, p :: ps, h, hp => by
    obtain ⟨w, r, e⟩ := hp p List.mem_cons_self
    have h0 := h.2 0 a p rfl rfl
    subst e
    exact .cons (SqT.of h0) (paired_places ⟨Nat.succ.inj h.1, fun i b s e1 e2 => h.2 (i + 1) b s (by rw [List.getElem?_cons_succ]; exact e1) (by rw [List.getElem?_cons_succ]; exact e2)⟩ fun q hq => hp q (List.mem_cons_of_mem _ hq))
/-- the law's own pass -/
def spLPass : Sp := fun vs H Q _ => ∃ (h st : Addr) (w x : Str) (rooms : List Str) (rows : List (List Str)) (faces : List Str) (places : List (List Str)), vs = [.ref h, .ref st, .str w, .str x] ∧ HSt H h st rooms rows faces places ∧
  ((w ∉ places.map hd0 ∨ x ∉ rows.map hd0) → ∀ H', Same H H' → Q .non H') ∧
  (∀ (i j : Nat) (a b f r : Str), rows[i]? = some [x, a, b] → faces[i]? = some f → places[j]? = some [w, r] → (f ≠ r → ∀ H', Same H H' → Q .non H') ∧
    (f = r → ∀ p H', Same H H' → HS H' p (faces.set i (oth a b f)) (places.set j [w, oth a b f]) → Q (.ref p) H'))
end Td
set_option maxHeartbeats 4000000
namespace Td
open PySem PySem.Spec PyProof.Rows L2
theorem dr_hs {H : Hp} {h : Addr} {ss : List Str} {rows : List (List Str)} (x : HS H h ss rows) (h1 : ss.length ≤ 1000) (h2 : rows.length ≤ 1000) (h3 : ∀ r ∈ rows, r.length ≤ 1000) : DR H 4 (.ref h) (hsD ss rows) := by
  obtain ⟨r, d, e1, e2, as, e3, hR⟩ := x
  have str_ : ∀ {n : Nat} {l : List Str} (_ : l.length ≤ 1000) {a : Addr} (_ : H a = some (.tup (l.map V.str))), DR H (n + 2) (.ref a) (sD l) := fun {n l} hl a ha => by
    refine .inr ⟨a, _, _, rfl, rfl, ha, ⟨by rw [List.length_map, List.length_map], by rw [List.length_map]; exact hl⟩, fun i v e a1 a2 => .inl ?_⟩
    rw [List.getElem?_map] at a1 a2
    cases z : l[i]? with
    | none => rw [z] at a1; cases a1
    | some y => rw [z] at a1 a2; cases a1; cases a2; exact .inl ⟨y, rfl, rfl⟩
  refine .inr ⟨h, _, _, rfl, rfl, e1, ⟨rfl, by show 2 ≤ 1000; decide⟩, fun j v e a1 a2 => ?_⟩
  match j with
  | 0 => cases a1; cases a2; exact str_ h1 e2
  | 1 =>
    cases a1; cases a2
    refine .inr ⟨d, _, _, rfl, rfl, e3, ⟨by rw [List.length_map, List.length_map]; exact hR.1, by rw [List.length_map]; exact h2⟩, fun i v e a1 a2 => ?_⟩
    rw [List.getElem?_map] at a1 a2
    cases z : as[i]? with
    | none => rw [z] at a1; cases a1
    | some a =>
      cases y : rows[i]? with
      | none => rw [y] at a2; cases a2
      | some l =>
        rw [z] at a1
        rw [y] at a2
        cases a1; cases a2
        exact str_ (h3 l (List.mem_of_getElem? y)) (hR.2 i a l z y)
  | j + 2 => cases a1
/-! ### what a law tells of a pass -/
def fIx (l : List (List Str)) (w : Str) : Option Nat := l.findIdx? fun r => decide (hd0 r = w)
theorem fIx_none {l : List (List Str)} {w : Str} (h : w ∉ l.map hd0) : fIx l w = none := by
  unfold fIx
  rw [List.findIdx?_eq_none_iff]
  intro r hr
  rw [decide_eq_false_iff_not]
  exact fun e => h (List.mem_map.mpr ⟨r, hr, e⟩)
theorem fIx_some {l : List (List Str)} {w : Str} {i : Nat} {r : List Str} (nd : (l.map hd0).Nodup) (h : l[i]? = some r) (e : hd0 r = w) : fIx l w = some i := by
  unfold fIx
  rw [List.findIdx?_eq_some_iff_getElem]
  obtain ⟨hi, hr⟩ := List.getElem?_eq_some_iff.mp h
  refine ⟨hi, by rw [hr, decide_eq_true e], fun j hj => ?_⟩
  have hjl : j < l.length := by omega
  rw [Bool.not_eq_true, decide_eq_false_iff_not]
  intro z
  have := at_one nd (List.getElem?_eq_getElem hjl) h (by rw [z, e])
  omega
def noD (c : Str) (v : PyData) : PyData := .tuple [.str c, v, .bool false]
def valD (v : PyData) : PyData := .tuple [.str "value", v]
def resD (form : Int) (rows : List (List Str)) (faces : List Str) (places : List (List Str)) (w x : Str) : PyData :=
  match fIx places w with
  | none => noD "walker" (.str w)
  | some j => match fIx rows x with
    | none => noD "door" (.str x)
    | some i =>
      let t := oth ((rows.getD i []).getD 1 "") ((rows.getD i []).getD 2 "") (faces.getD i "")
      let r := (places.getD j []).getD 1 ""
      if form = 0 then valD (.bool (decide (faces.getD i "" = r)))
      else if faces.getD i "" = r then valD (hsD (faces.set i t) (places.set j [w, t])) else noD "blocked" (.int 0)
theorem resD_w {form : Int} {rows places : List (List Str)} {faces : List Str} {w x : Str} (h : w ∉ places.map hd0) : resD form rows faces places w x = noD "walker" (.str w) := by
  unfold resD
  rw [fIx_none h]
theorem resD_x {form : Int} {rows places : List (List Str)} {faces : List Str} {w x : Str} (nd : (places.map hd0).Nodup) (h : w ∈ places.map hd0) (hx : x ∉ rows.map hd0) : resD form rows faces places w x = noD "door" (.str x) := by
  obtain ⟨j, r, hj, e⟩ := at_of_mem h
  unfold resD
  rw [fIx_some nd hj e, fIx_none hx]
theorem resD_at {form : Int} {rows places : List (List Str)} {faces : List Str} {w x a b f r : Str} {i j : Nat} (nd : (places.map hd0).Nodup) (nr : (rows.map hd0).Nodup) (hi : rows[i]? = some [x, a, b]) (hf : faces[i]? = some f) (hj : places[j]? = some [w, r]) :
    resD form rows faces places w x = if form = 0 then valD (.bool (decide (f = r))) else if f = r then valD (hsD (faces.set i (oth a b f)) (places.set j [w, oth a b f])) else noD "blocked" (.int 0) := by
  unfold resD
  rw [fIx_some nd hj (show hd0 [w, r] = w from rfl), fIx_some nr hi (show hd0 [x, a, b] = x from rfl)]
  have e1 : rows.getD i [] = [x, a, b] := by rw [List.getD_eq_getElem?_getD, hi]; rfl
  have e2 : faces.getD i "" = f := by rw [List.getD_eq_getElem?_getD, hf]; rfl
  have e3 : places.getD j [] = [w, r] := by rw [List.getD_eq_getElem?_getD, hj]; rfl
  simp only [e1, e2, e3]
  rfl
theorem dr_no {H : Hp} {t : Addr} {c : Str} {v : V} {d : PyData} (h : H t = some (.tup [.str c, v, .bl false])) (hv : Sc v d) : DR H 5 (.ref t) (noD c d) := by
  refine .inr ⟨t, _, _, rfl, rfl, h, ⟨rfl, by show 3 ≤ 1000; decide⟩, fun i v e a1 a2 => ?_⟩
  match i with
  | 0 => cases a1; cases a2; exact .inl (.inl ⟨c, rfl, rfl⟩)
  | 1 => cases a1; cases a2; exact .inl hv
  | 2 => cases a1; cases a2; exact .inl (.inr (.inl ⟨false, rfl, rfl⟩))
  | i + 3 => cases a1
theorem dr_val {H : Hp} {t : Addr} {v : V} {d : PyData} (h : H t = some (.tup [.str "value", v])) (hv : DR H 4 v d) : DR H 5 (.ref t) (valD d) := dr_two h (.inl (.inl ⟨_, rfl, rfl⟩)) hv
theorem sc_str (x : Str) : Sc (.str x) (.str x) := .inl ⟨x, rfl, rfl⟩
theorem sc_int (x : Int) : Sc (.int x) (.int x) := .inr (.inr (.inl ⟨x, rfl, rfl⟩))
theorem hs_pass {H : Hp} {p : Addr} {rooms faces : List Str} {rows places : List (List Str)} (hv : HallV rooms rows) (ht : StV rooms rows faces places) {i j : Nat} {w t : Str} (h : HS H p (faces.set i t) (places.set j [w, t])) : DR H 4 (.ref p) (hsD (faces.set i t) (places.set j [w, t])) := by
  have d12 := hv.d12
  have fl := ht.fl
  have p5 := ht.p5
  refine dr_hs h (by rw [List.length_set]; omega) (by rw [List.length_set]; omega) fun r hr => ?_
  rcases List.mem_or_eq_of_mem_set hr with hr | hr
  · obtain ⟨a, b, rfl, _⟩ := ht.pl r hr
    show 2 ≤ 1000
    decide
  · rw [hr]
    show 2 ≤ 1000
    decide
def spRes : Sp := fun vs H Q _ => ∃ (form : Int) (h st dd : Addr) (w x : Str) (rooms : List Str) (rows : List (List Str)) (faces : List Str) (places : List (List Str)), vs = [.int form, .ref h, .ref st, .ref dd] ∧ HSt H h st rooms rows faces places ∧ H dd = some (.tup [.str w, .str x]) ∧
  ∀ p H', Same H H' → DR H' 5 (.ref p) (resD form rows faces places w x) → Q (.ref p) H'
/-! ### facts of a class that an except suite asks -/
def excB (K : PySem.W.Frag) (D : Addr) : Bool := xfB K D && (decide (PySem.W.findIn K (.ref D) "__class__" = some (some (.builtin "object.__class__"))) &&
  (decide (PySem.W.specialIn K (.builtin "object.__class__") "__get__" = some (some (.builtin "getset_descriptor.__get__"))) && (decide (PySem.W.takesIn K (.builtin "object.__class__") = some true) && decide (PySem.W.mroIn K D (.type "object") = some true))))
theorem excB_ok {K : PySem.W.Frag} {D : Addr} (h : excB K D = true) : ExcC K D := by
  unfold excB at h
  simp only [Bool.and_eq_true, decide_eq_true_eq] at h
  obtain ⟨h6, h7, h8, h9, h10⟩ := h
  have X := xfB_ok h6
  exact ⟨X.ga, X.gg, X.exC, X.hdC, h7, h8, h9, h10⟩
end Td
set_option maxHeartbeats 4000000
namespace Td
open PySem PySem.Spec PyProof.Rows L2
/-! ### a hall and a state, as repr shows them -/
theorem Bd.weight {ss : List Str} {rows : List (List Str)} (h : Bd ss rows) : (hsD ss rows).weight ≤ 1000 := by
  have w1 := weight_sD h.sn
  have w2 := weightAll_map sD 21 rows fun r hr => Nat.le_trans (weight_sD (h.rn r hr).2) (by have := (h.rn r hr).1; omega)
  have a1 := h.s12
  have a2 := h.r12
  unfold hsD
  simp only [PyData.weight, PyData.weightAll]
  omega
theorem Bd.depth {ss : List Str} {rows : List (List Str)} (h : Bd ss rows) : (hsD ss rows).depth ≤ 10 := by
  have d1 := depth_sD ss
  have d2 := depth_map sD 3 depth_sD rows
  unfold hsD
  simp only [PyData.depth, PyData.depthAll]
  omega
theorem Bd.short {ss : List Str} {rows : List (List Str)} (h : Bd ss rows) : (hsD ss rows).leavesShort 8 = true := by
  unfold hsD
  simp only [PyData.leavesShort, PyData.leavesShortAll, short_sD h.sn, shortAll_map sD rows fun r hr => short_sD (h.rn r hr).2, Bool.and_true]
@[irreducible] def twoD (s1 : List Str) (r1 : List (List Str)) (s2 : List Str) (r2 : List (List Str)) : PyData := .tuple [hsD s1 r1, hsD s2 r2]
theorem two_shows {s1 s2 : List Str} {r1 r2 : List (List Str)} (h1 : Bd s1 r1) (h2 : Bd s2 r2) : Shows (twoD s1 r1 s2 r2) := by
  unfold twoD
  have a1 := h1.weight
  have a2 := h2.weight
  have b1 := h1.depth
  have b2 := h2.depth
  refine ⟨?_, ?_, ?_, PyData.shown_fits (B := 8) (by decide) (by decide) ?_ ?_⟩
  · simp only [PyData.showable, PyData.showableAll, h1.shows.sh, h2.shows.sh, Bool.and_true]
  · simp only [PyData.hasDict, PyData.hasDictAll, h1.shows.nd, h2.shows.nd, Bool.or_false]
  · simp only [PyData.depth, PyData.depthAll]
    omega
  · simp only [PyData.leavesShort, PyData.leavesShortAll, h1.short, h2.short, Bool.and_true]
  · simp only [PyData.weight, PyData.weightAll]
    omega
theorem two_dp {K : PySem.W.Frag} {H : Hp} {t h st : Addr} {s1 s2 : List Str} {r1 r2 : List (List Str)} (ht : H t = some (.tup [.ref h, .ref st])) (h1 : HS H h s1 r1) (h2 : HS H st s2 r2) : Dp K H (.ref t) (twoD s1 r1 s2 r2) := by
  unfold twoD
  exact .tup (SqT.of ht) (.cons h1.dp (.cons h2.dp .nil))
/-! ### lists of deeds, whatever the names -/
def AllD (H : Hp) (xs : List V) : Prop := ∀ x ∈ xs, ∃ (a : Addr) (w d : Str), x = .ref a ∧ H a = some (.tup [.str w, .str d])
theorem AllD.tu {H H' : Hp} {xs : List V} (x : Tu H H') (h : AllD H xs) : AllD H' xs := fun y hy => by
  obtain ⟨a, w, d, e, ha⟩ := h y hy
  exact ⟨a, w, d, e, x _ _ ha⟩
theorem AllD.sub {H : Hp} {xs ys : List V} (h : AllD H xs) (s : ∀ y ∈ ys, y ∈ xs) : AllD H ys := fun y hy => h y (s y hy)
theorem AllD.app {H : Hp} {xs ys : List V} (h : AllD H xs) (g : AllD H ys) : AllD H (xs ++ ys) := fun y hy => (List.mem_append.mp hy).elim (h y) (g y)
theorem mem_cut {xs : List V} {lo hi : Option Int} {x : V} (h : x ∈ cutV xs lo hi) : x ∈ xs := by
  unfold cutV at h
  exact List.mem_of_mem_drop (List.mem_of_mem_take h)
/-- the heap grows, but for one list -/
theorem slV {K : PySem.W.Frag} {H : Hp} {l : Addr} {xs : List V} {lo hi : Option Int} {Q : VK} (h : SqL K H l xs) (q : ∀ p H', H' p = some (.lst (cutV xs lo hi)) → Same H H' → Q (.ref p) H') : rSlL K (.ref l) lo hi H Q :=
  ⟨l, xs, rfl, h, fun p hp => q p _ upd_same (same_new hp _)⟩
theorem slVN {K : PySem.W.Frag} {σ : L2.St} {H : Hp} {l : Addr} {xs : List V} {lo : Option Int} {Q : VK} (h : SqL K H l xs) (q : ∀ p H', H' p = some (.lst (cutV xs lo none)) → Same H H' → Q (.ref p) H') : tNoPart σ H (fun u H3 => rSlL K (.ref l) lo u H3 Q) := slV h q
theorem catV {H : Hp} {a c : Addr} {us ws : List V} {Q : VK} (ha : H a = some (.lst us)) (hc : H c = some (.lst ws)) (hz : us.length + ws.length ≤ 1000) (q : ∀ p H', H' p = some (.lst (us ++ ws)) → Same H H' → Q (.ref p) H') : rCat (.ref a) (.ref c) H Q :=
  ⟨a, c, _, _, rfl, rfl, ha, hc, Nat.le_trans hz (by decide), fun p hp => q p _ upd_same (same_new hp _)⟩
theorem cut_len (xs : List V) (lo hi : Option Int) : (cutV xs lo hi).length ≤ xs.length := cutV_length xs lo hi
theorem ne_self (v : V) : (!decide (v = v)) = false := by simp
end Td
set_option maxHeartbeats 4000000
namespace Td
open PySem PySem.Spec PyProof.Rows L2
/-! ### enumerate of a list or of a tuple -/
theorem wp_if {α : Type} {M : Model} {A : Around} {c : Prop} [Decidable c] {x y : Sem α} {Q : α → Shared → Prop} {E : Value → Shared → Prop} {s : Shared} (h1 : wpAny M A x Q E s) (h2 : wpAny M A y Q E s) : wpAny M A (if c then x else y) Q E s := by
  split
  · exact h1
  · exact h2
abbrev eo2 (h : Heap) (o : Obj) : Heap := (h.push o).push { cls := .type "enumerate", data := .fields #[.none, .bool false, .ref h.objs.size, rawInt 0, .none, .none] }
theorem meets_enB {v : Value} {o : Obj} {C : Heap → Prop} (B : Begins v o C) : Meets (Builtin.«enumerate.__new__» ⟨[.type "enumerate", v], []⟩) (fun _ R s => C s.heap ∧ R (.ok (.ret (.ref (s.heap.push o).objs.size))) { s with heap := eo2 s.heap o }) :=
  .of_wp fun prog w A R s h => by
    obtain ⟨hp, g, d, tk, os⟩ := s
    obtain ⟨a1, k⟩ := h
    have sub_ := sub_enumerate
    wp_walk using B.iter _ _ _ _ _ _ a1
    refine wpAny_stack fun st _ _ _ => wpAny_pure ?_
    wp_walk using B.iter _ _ _ _ _ _ a1
    refine wp_if ?_ ?_
    · wp_walk using B.iter _ _ _ _ _ _ a1
      exact ⟨_, rfl, k⟩
    · wp_walk using B.iter _ _ _ _ _ _ a1
      exact ⟨_, rfl, k⟩
section
variable {P : Program} {w : World} {A : Around} {E : Value → Shared → Prop} {s : Shared}
theorem call_enB {v : Value} {o : Obj} {C : Heap → Prop} (B : Begins v o C) {Q : Value → Shared → Prop} (a1 : C s.heap)
    (h : ∀ g', IsEnum g' (s.heap.objs.size + 1) s.heap.objs.size 0 .none → g'.get? s.heap.objs.size = some o → (∀ c ob, s.heap.get? c = some ob → g'.get? c = some ob) → Q (.ref (s.heap.objs.size + 1)) { s with heap := g' }) :
    wpAny (model P w) A (call (.type "enumerate") [v]) Q E s := by
  refine callType_new F.called_enumerate (by decide) (F.typeCall_enumerate_1 _) (F.newCall_enumerate_1 _) (fun obj => F.args_object_init_2 obj _) F.entry_enumerate_new (meets_enB B) ⟨a1, ?_⟩
  have n1 : (s.heap.push o).objs.size = s.heap.objs.size + 1 := Heap.size_push ..
  have b2 : (eo2 s.heap o).get? (s.heap.push o).objs.size = some _ := Heap.get?_push_size _ rfl
  have b1 : (eo2 s.heap o).get? s.heap.objs.size = some _ := Heap.get?_push_of_some _ (Heap.get?_push_size _ B.free)
  show _ ∧ _
  rw [n1] at b2
  rw [n1]
  exact ⟨⟨_, b2, rfl⟩, h _ b2 b1 fun c o x => Heap.get?_push_of_some _ (Heap.get?_push_of_some _ x)⟩
end
abbrev ItEL (K : PySem.W.Frag) (a : Addr) : It := ItE (fun H xs => SqL K H a xs) 0
abbrev ItET (K : PySem.W.Frag) (a : Addr) : It := ItE (fun H xs => SqT K H a xs) 0
def iEnumQ (K : PySem.W.Frag) (ta : TA) : TI := fun σ H R => ta σ H fun vs H1 => ∃ a, vs = [.ref a] ∧ (((∃ xs, SqL K H1 a xs) ∧ R (ItEL K a) H1) ∨ ((∃ xs, SqT K H1 a xs) ∧ R (ItET K a) H1))
theorem pi_enumQ {X : Cx} {e : Expr} {ta : TA} {p pos tpos : Pos} {elts : List Expr} {kk : Nat} (hg : Gl X "enumerate") (hm : X.mg "enumerate" = none) (ha : PA X [e] ta)
    (hs : starEach [e] X.env = (false, eval e X.env) :: starEach [] X.env := by rfl) (hpl : (backTo pos (starEach [] X.env)).any (·.1) = false := by rfl) :
    PI X (.Tuple elts kk tpos) (.Call (.Name "enumerate" p) [e] [] pos) (iEnumQ X.K ta) := by
  refine ⟨fun pins s σ H R I h => Call_ (ld_blt I hg hm PyProof.Rows.boot_enumerate (PyProof.Rows.callWith_type1 (thn (ha.run pos pins s σ H _ I h) fun us s1 ⟨vs, H1, I1, r1, a, ex, q⟩ => ?_) hs hpl))⟩
  subst ex
  cases r1 with
  | cons r rr =>
    cases rr
    cases r
    have fin : ∀ c, c ∈ [s1.heap.objs.size + 1, s1.heap.objs.size] → FpOk X pins H1 c := fun c hc => by
      have le : s1.heap.objs.size ≤ c := by
        have hc' : c = s1.heap.objs.size + 1 ∨ c = s1.heap.objs.size := by simpa using hc
        rcases hc' with z | z <;> rw [z] <;> first | exact Nat.le_add_right _ _ | exact Nat.le_refl _
      exact I1.fpOk le (I1.hok.fresh le)
    rcases q with ⟨⟨xs, hx⟩, q⟩ | ⟨⟨xs, hx⟩, q⟩
    · obtain ⟨its, rv, p1, _⟩ := I1.list hx
      refine call_enB (begins_list a its.toArray) p1.isList fun g' he hit hk => wpAny_pyIter_enum he ?_
      exact ⟨s1.heap.objs.size + 1, [s1.heap.objs.size + 1, s1.heap.objs.size], _, _, H1, rfl, I1.kept (t' := s1.toks) hk, turn_E src_list sqs_list (Nat.succ_ne_self _), ⟨⟨_, he⟩, ⟨_, hit, rfl, rfl⟩⟩, fin, q⟩
    · obtain ⟨its, rv, p1, _⟩ := I1.tuple hx
      refine call_enB (begins_tuple a its.toArray) (show s1.heap.IsTuple a its.toArray from p1) fun g' he hit hk => wpAny_pyIter_enum he ?_
      exact ⟨s1.heap.objs.size + 1, [s1.heap.objs.size + 1, s1.heap.objs.size], _, _, H1, rfl, I1.kept (t' := s1.toks) hk, turn_E src_tup sqs_tup (Nat.succ_ne_self _), ⟨⟨_, he⟩, ⟨_, hit, rfl, rfl⟩⟩, fin, q⟩
/-- one walk over both -/
theorem for_enq {K : PySem.W.Frag} {a : Addr} {xs : List V} {g : TG} {tb : TS} {D : Ends} {σ : L2.St} {H H0 : Hp} (hk : SqL K H0 a xs ∨ SqT K H0 a xs) (Pv : Nat → L2.St → Hp → Prop) (h0 : Pv 0 σ H)
    (keep : ∀ i σ' H', Pv i σ' H' → Same H0 H')
    (hs : ∀ i x σ H T, xs[i]? = some x → Pv i σ H → H T = none → g (.ref T) σ (upd H T (.tup [.int (i : Nat), x])) fun σ2 H2 => tb { D with nx := Pv (i + 1), ct := Pv (i + 1), bk := D.nx } σ2 H2) (hd : ∀ σ H, Pv xs.length σ H → D.nx σ H) :
    ((∃ xs, SqL K H a xs) ∧ (∃ W : Nat → Nat → L2.St → Hp → Prop, (∃ m, W 0 m σ H) ∧ ∀ i m σ H, W i m σ H →
      ((ItEL K a).stop i H ∧ D.nx σ H) ∨ ((ItEL K a).go i H ∧ ∃ N : L2.St → Hp → Prop, (∀ σ' H', N σ' H' → ∃ m', m' < m ∧ W (i + 1) m' σ' H') ∧ ∀ x H', (ItEL K a).yld i H x H' → g x σ H' fun σ2 H2 => tb { D with nx := N, ct := N, bk := D.nx } σ2 H2))) ∨
    ((∃ xs, SqT K H a xs) ∧ (∃ W : Nat → Nat → L2.St → Hp → Prop, (∃ m, W 0 m σ H) ∧ ∀ i m σ H, W i m σ H →
      ((ItET K a).stop i H ∧ D.nx σ H) ∨ ((ItET K a).go i H ∧ ∃ N : L2.St → Hp → Prop, (∀ σ' H', N σ' H' → ∃ m', m' < m ∧ W (i + 1) m' σ' H') ∧ ∀ x H', (ItET K a).yld i H x H' → g x σ H' fun σ2 H2 => tb { D with nx := N, ct := N, bk := D.nx } σ2 H2))) := by
  rcases hk with hk | hk
  · refine .inl ⟨⟨xs, sqL_same (keep _ _ _ h0) hk⟩, for_gen (n := xs.length) Pv h0 (fun i σ' H' hi p => ?_) fun σ' H' p => ⟨⟨xs, sqL_same (keep _ _ _ p) hk, Nat.le_refl _⟩, hd _ _ p⟩⟩
    have hx : xs[i]? = some xs[i] := List.getElem?_eq_getElem hi
    have q := sqL_same (keep _ _ _ p) hk
    refine ⟨⟨xs, _, q, hx⟩, ?_⟩
    rintro _ _ ⟨T, x, rfl, hT, rfl, f⟩
    have e := (f xs q).symm.trans hx
    cases e
    rw [Int.zero_add]
    exact hs i _ σ' H' T hx p hT
  · refine .inr ⟨⟨xs, sqT_same (keep _ _ _ h0) hk⟩, for_gen (n := xs.length) Pv h0 (fun i σ' H' hi p => ?_) fun σ' H' p => ⟨⟨xs, sqT_same (keep _ _ _ p) hk, Nat.le_refl _⟩, hd _ _ p⟩⟩
    have hx : xs[i]? = some xs[i] := List.getElem?_eq_getElem hi
    have q := sqT_same (keep _ _ _ p) hk
    refine ⟨⟨xs, _, q, hx⟩, ?_⟩
    rintro _ _ ⟨T, x, rfl, hT, rfl, f⟩
    have e := (f xs q).symm.trans hx
    cases e
    rw [Int.zero_add]
    exact hs i _ σ' H' T hx p hT
end Td
set_option maxHeartbeats 4000000
namespace Td
open PySem PySem.Spec PyProof.Rows L2
/-! ### (a, *r) = a tuple: the last target takes the rest as a list -/
section
variable {prog : Program} {w : World} {A : Around} {E : Value → Shared → Prop} {s : Shared}
theorem rest_tup {t : Addr} {its : Array Value} {k : Nat} {Q : List Value → Shared → Prop} (hh : A.handled = none) (ht : IsTup s.heap t its) (hk : k ≤ its.size) (hz : its.size ≤ sizeLine)
    (q : ∀ (h2 : Heap) (tk : Nat), (∀ b o, s.heap.get? b = some o → h2.get? b = some o) → Q (its.toList.take k ++ [.ref h2.objs.size]) { s with heap := h2.push { cls := .type "list", data := .seq (its.toList.drop k).toArray }, toks := tk }) :
    wpAny (model prog w) A (unpackItems (.ref t) (k + 1) (some k)) Q E s := by
  have tn : t ≠ s.heap.objs.size := Nat.ne_of_lt ht.lt
  have tl : (its.toList.take k).length = k := by rw [List.length_take, Array.length_toList, Nat.min_eq_left hk]
  unfold unpackItems notIterableAtAll
  refine wpAny_bind (wpAny_bind (wpAny_specialOf ht.typeIs slot_tuple_iter.lookup (wpAny_pure ?_)))
  show wpAny _ _ (holding _ (pyIter (.ref t)) >>= _) _ _ _
  refine wpAny_bind (wpAny_holding (iter_tuple ht ?_))
  dsimp only
  refine wpAny_bind (wpAny_holding (draw_tuple tn k 0 _ _ ⟨_, Heap.get?_push_size _ rfl, rfl, rfl⟩ (ht.push _) (by omega) fun g1 i1 b1 => ?_))
  rw [List.drop_zero, tl, if_neg (Nat.lt_irrefl k)]
  rw [Nat.zero_add] at i1
  have t1 := (ht.push { cls := .type "tuple_iterator", data := .fields #[.ref t, .int 0 0] }).extBut b1.extBut tn
  have j1 : s.heap.objs.size < g1.objs.size := by
    obtain ⟨o, ho, _⟩ := id i1
    exact Heap.lt_size ho
  refine wpAny_bind (wpAny_holding (PySem.W.kun_collect (s := { s with heap := g1 }) (T := "tuple_iterator") (.inr (.inr (.inr rfl))) (Walks.tuple (A := A.in1) hh s.heap.objs.size t tn its) (fun _ _ z => z.1.typeIs) hk ⟨i1, t1⟩ j1 t1.lt (fun g2 tk k2 => ?_) hz))
  have dl : (its.toList.drop k).length - (k + 1 - 1 - k) = (its.toList.drop k).length := by omega
  dsimp only
  rw [if_neg (by omega), dl, List.take_length, List.drop_length]
  refine wpAny_bind (wpAny_newList (s := { s with heap := g2, toks := tk }) ?_)
  refine wpAny_pure ?_
  rw [List.append_nil]
  exact q g2 tk fun b o e => k2 b o (Nat.ne_of_lt (Heap.lt_size e)) (b1.extBut b o (Nat.ne_of_lt (Heap.lt_size e)) (Heap.get?_push_of_some _ e))
end
def gRest (K : PySem.W.Frag) (k : Nat) (t : TGs) : TG := fun v σ H Q => ∃ a xs, v = .ref a ∧ SqT K H a xs ∧ k ≤ xs.length ∧ ∀ p, H p = none → t (xs.take k ++ [.ref p]) σ (upd H p (.lst (xs.drop k))) Q
theorem pgs_star {X : Cx} {e : Expr} {p : Pos} {t : TG} (h1 : PG X e t) (hs : (assignEach [.Starred e p] X.env).map (·.2) = [assign e X.env] := by rfl) : PGs X [.Starred e p] (gCons t gNil) := by
  refine ⟨fun pins s σ H vs us Q I r h => ?_⟩
  obtain ⟨v, vr, rfl, h⟩ := h
  cases r with
  | cons r rr =>
    rw [hs]
    refine assignInOrder_cons (thn (h1.run pins s σ H _ _ _ I r h) fun _ s1 ⟨σ1, H1, I1, e1, q1⟩ => ?_)
    subst e1
    cases rr
    exact assignInOrder_nil ⟨σ1, H1, I1, q1⟩
theorem pg_rest {X : Cx} {es : List Expr} {n : Nat} {pos : Pos} {t : TGs} {k : Nat} (hc : X.calm = true) (h : PGs X es t) (hn : (assignEach es X.env).length = k + 1 := by rfl) (hst : (assignEach es X.env).findIdx? (·.1) = some k := by rfl) :
    PG X (.Tuple es n pos) (gRest X.K k t) := by
  refine ⟨fun pins s σ H v u Q I r hw => ?_⟩
  obtain ⟨a, xs, rfl, hq, hl, hw⟩ := hw
  cases r
  obtain ⟨its, rv, ht, hz⟩ := I.tuple hq
  rw [assign_Tuple]
  refine wpAny_bind (wpAny_standAt ?_)
  unfold unpack
  rw [hn, hst]
  have e : xs.length = its.length := rv.length
  refine wpAny_bind (wpAny_holding (rest_tup (I.ok.hd hc) ht (by rw [List.size_toArray]; omega) (by rw [List.size_toArray]; omega) fun h2 tk k2 => ?_))
  have I1 := I.kept (t' := tk) k2
  have hn1 : H h2.objs.size = none := I1.hok.fresh (Nat.le_refl _)
  have I2 := I1.laid (t' := tk) (a := h2.objs.size) (o := .lst (xs.drop k)) (h' := h2.push { cls := .type "list", data := .seq (its.drop k).toArray }) (fun b o e => Heap.get?_push_of_some _ e) (Nat.le_refl _) ?_
  · exact h.run pins _ σ _ (xs.take k ++ [.ref h2.objs.size]) _ Q I2 ((Vals.take k rv).append (show Vals [V.ref h2.objs.size] [Value.ref h2.objs.size] from .cons rfl .nil)) (hw _ hn1)
  · exact (show ObjOk X.prog X.w _ _ _ (.lst (xs.drop k)) from ⟨by rw [List.length_drop]; omega, its.drop k, 0, Vals.drop k rv, by simpa using Heap.get?_push_size h2 rfl⟩)
end Td
set_option maxHeartbeats 4000000
namespace Td
open PySem PySem.Spec PyProof.Rows L2
/-! ### a room merged into another -/
def gX (one other x : Str) : Str := if x = other then one else x
def gR (one other : Str) (r : List Str) : List Str := r.headD "" :: r.tail.map (gX one other)
def badR (one other : Str) (r : List Str) : Prop := gX one other (r.getD 1 "") = gX one other (r.getD 2 "")
instance (one other : Str) (r : List Str) : Decidable (badR one other r) := by unfold badR; infer_instance
def badL (one other : Str) : Nat → List (List Str) → Option Nat
  | _, [] => none
  | k, r :: rs => if badR one other r then some k else badL one other (k + 1) rs
theorem badL_app (one other : Str) : ∀ (l1 l2 : List (List Str)) (k : Nat), badL one other k (l1 ++ l2) = match badL one other k l1 with | some j => some j | none => badL one other (k + l1.length) l2
  | [], l2, k => rfl
  | r :: rs, l2, k => by
    show (if badR one other r then some k else badL one other (k + 1) (rs ++ l2)) = _
    rw [badL_app one other rs l2 (k + 1)]
    by_cases h : badR one other r
    · rw [if_pos h, show badL one other k (r :: rs) = some k from if_pos h]
    · rw [if_neg h, show badL one other k (r :: rs) = badL one other (k + 1) rs from if_neg h, List.length_cons, show k + 1 + rs.length = k + (rs.length + 1) by omega]
theorem badL_step {one other : Str} {rows : List (List Str)} {i : Nat} {r : List Str} (hi : rows[i]? = some r) (h : badL one other 0 (rows.take i) = none) :
    (badR one other r → badL one other 0 rows = some i) ∧ (¬ badR one other r → badL one other 0 (rows.take (i + 1)) = none) := by
  have hil := (List.getElem?_eq_some_iff.mp hi).1
  have tl : (rows.take i).length = i := by rw [List.length_take]; omega
  refine ⟨fun hb => ?_, fun hb => ?_⟩
  · have e : rows = rows.take i ++ (r :: rows.drop (i + 1)) := by
      have z := List.take_append_drop (i + 1) rows
      rw [take_snoc hi, List.append_assoc] at z
      exact z.symm
    have z := badL_app one other (rows.take i) (r :: rows.drop (i + 1)) 0
    rw [← e, h, tl] at z
    rw [z]
    show badL one other (0 + i) (r :: rows.drop (i + 1)) = some i
    rw [Nat.zero_add]
    exact if_pos hb
  · rw [take_snoc hi, badL_app, h]
    exact if_neg hb
theorem badL_none {one other : Str} : ∀ {rows : List (List Str)} {k : Nat}, badL one other k rows = none → ∀ r ∈ rows, ¬ badR one other r
  | r :: rs, k, h, x, hx => by
    have h' : (if badR one other r then some k else badL one other (k + 1) rs) = none := h
    by_cases hb : badR one other r
    · rw [if_pos hb] at h'
      cases h'
    · rw [if_neg hb] at h'
      rcases List.mem_cons.mp hx with rfl | hx
      · exact hb
      · exact badL_none h' x hx
/-- what is due -/
inductive GD where
  | room (x : Str)
  | hall (s : Str) (k : Nat)
  | ok
def glM (rooms : List Str) (rows : List (List Str)) (one other : Str) : GD :=
  if one ∈ rooms then (if other ∈ rooms then (match badL one other 0 rows with
    | some k => .hall "end" k
    | none => if one = other then .hall "rooms" 0 else .ok) else .room other) else .room one
def glS (rooms : List Str) (other : Str) : List Str := rooms.filter fun r => !decide (r = other)
def glRs (rows : List (List Str)) (one other : Str) : List (List Str) := rows.map (gR one other)
theorem glM_one {rooms : List Str} {rows : List (List Str)} {one other : Str} (h : one ∉ rooms) : glM rooms rows one other = .room one := if_neg h
theorem glM_other {rooms : List Str} {rows : List (List Str)} {one other : Str} (h : one ∈ rooms) (h2 : other ∉ rooms) : glM rooms rows one other = .room other := by
  unfold glM
  rw [if_pos h, if_neg h2]
theorem glM_bad {rooms : List Str} {rows : List (List Str)} {one other : Str} {k : Nat} (h : one ∈ rooms) (h2 : other ∈ rooms) (hb : badL one other 0 rows = some k) : glM rooms rows one other = .hall "end" k := by
  unfold glM
  rw [if_pos h, if_pos h2, hb]
theorem glM_same {rooms : List Str} {rows : List (List Str)} {one other : Str} (h : one ∈ rooms) (h2 : other ∈ rooms) (hb : badL one other 0 rows = none) (e : one = other) : glM rooms rows one other = .hall "rooms" 0 := by
  unfold glM
  rw [if_pos h, if_pos h2, hb]
  exact if_pos e
theorem glM_ok {rooms : List Str} {rows : List (List Str)} {one other : Str} (h : one ∈ rooms) (h2 : other ∈ rooms) (hb : badL one other 0 rows = none) (e : one ≠ other) : glM rooms rows one other = .ok := by
  unfold glM
  rw [if_pos h, if_pos h2, hb]
  exact if_neg e
theorem glM_is_ok {rooms : List Str} {rows : List (List Str)} {one other : Str} (h : glM rooms rows one other = .ok) : one ∈ rooms ∧ other ∈ rooms ∧ badL one other 0 rows = none ∧ one ≠ other := by
  by_cases h1 : one ∈ rooms
  · by_cases h2 : other ∈ rooms
    · cases hb : badL one other 0 rows with
      | some k => rw [glM_bad h1 h2 hb] at h; cases h
      | none =>
        by_cases e : one = other
        · rw [glM_same h1 h2 hb e] at h; cases h
        · exact ⟨h1, h2, rfl, e⟩
    · rw [glM_other h1 h2] at h; cases h
  · rw [glM_one h1] at h; cases h
theorem gl_valid {rooms : List Str} {rows : List (List Str)} {one other : Str} (hv : HallV rooms rows) (h : glM rooms rows one other = .ok) : HallV (glS rooms other) (glRs rows one other) := by
  obtain ⟨h1, h2, hb, e⟩ := glM_is_ok h
  have mem : ∀ x, x ∈ rooms → gX one other x ∈ glS rooms other := fun x hx => by
    unfold gX glS
    by_cases c : x = other
    · rw [if_pos c]
      exact List.mem_filter.mpr ⟨h1, by rw [decide_eq_false e]; rfl⟩
    · rw [if_neg c]
      exact List.mem_filter.mpr ⟨hx, by rw [decide_eq_false c]; rfl⟩
  refine ⟨?_, ?_, ?_, ?_, ?_, ?_, ?_⟩
  · have z : one ∈ glS rooms other := List.mem_filter.mpr ⟨h1, by rw [decide_eq_false e]; rfl⟩
    exact List.length_pos_of_mem z
  · exact Nat.le_trans (List.length_filter_le _ _) hv.r8
  · exact hv.nd.sublist List.filter_sublist
  · exact fun x hx => hv.nm x (List.mem_filter.mp hx).1
  · unfold glRs
    rw [List.length_map]
    exact hv.d12
  · intro r hr
    obtain ⟨p, hp, rfl⟩ := List.mem_map.mp hr
    obtain ⟨n, a, b, rfl, hn, ha, hb', hab⟩ := hv.row p hp
    exact ⟨n, gX one other a, gX one other b, rfl, hn, mem a ha, mem b hb', badL_none hb _ hp⟩
  · unfold glRs
    rw [List.map_map]
    exact hv.dn
theorem glS_snoc {rooms : List Str} {i : Nat} {x other : Str} (h : rooms[i]? = some x) : glS (rooms.take (i + 1)) other = glS (rooms.take i) other ++ (if x = other then [] else [x]) := by
  unfold glS
  rw [take_snoc h, List.filter_append]
  by_cases c : x = other
  · rw [if_pos c, List.filter_cons_of_neg (by rw [decide_eq_true c]; decide)]
    rfl
  · rw [if_neg c, List.filter_cons_of_pos (by rw [decide_eq_false c]; rfl)]
    rfl
theorem glR_snoc {rows : List (List Str)} {i : Nat} {r : List Str} {one other : Str} (h : rows[i]? = some r) : glRs (rows.take (i + 1)) one other = glRs (rows.take i) one other ++ [gR one other r] := by
  unfold glRs
  rw [take_snoc h, List.map_append]
  rfl
/-- what stands at t -/
def GAt (H : Hp) (t : Addr) (g : GD) (ss : List Str) (rs : List (List Str)) : Prop := match g with
  | .room x => H t = some (.tup [.str "room", .str x])
  | .hall s k => H t = some (.tup [.str "hall", .str s, .int (k : Nat)])
  | .ok => ∃ p, H t = some (.tup [.str "result", .ref p]) ∧ HS H p ss rs
def gD (g : GD) (ss : List Str) (rs : List (List Str)) : PyData := match g with
  | .room x => .tuple [.str "room", .str x]
  | .hall s k => .tuple [.str "hall", .str s, .int (k : Nat)]
  | .ok => .tuple [.str "result", hsD ss rs]
theorem GAt.tu {H H' : Hp} {t : Addr} {g : GD} {ss : List Str} {rs : List (List Str)} (x : Tu H H') (h : GAt H t g ss rs) : GAt H' t g ss rs := by
  cases g with
  | room n => exact x _ _ h
  | hall s k => exact x _ _ h
  | ok =>
    obtain ⟨p, h1, h2⟩ := h
    exact ⟨p, x _ _ h1, h2.tu x⟩
def errV2 (K : PySem.W.Frag) (E : XK) (s : Str) (k : Nat) (H : Hp) : Prop := ∀ H', Same H H' → ∀ d, H' d = none → E (.ref (He.ga K "InvalidHall")) (some d) (upd H' d (.xd [("index", .int (k : Nat)), ("reason", .str s)]))
def spGlue (K : PySem.W.Frag) : Sp := fun vs H Q E => ∃ (h : Addr) (one other : Str) (rooms : List Str) (rows : List (List Str)), vs = [.ref h, .str one, .str other] ∧ HS H h rooms rows ∧ HallV rooms rows ∧
  (∀ x, glM rooms rows one other = .room x → errX K E "UnknownRoom" x H) ∧ (∀ s k, glM rooms rows one other = .hall s k → errV2 K E s k H) ∧
  (glM rooms rows one other = .ok → ∀ p H', Same H H' → HS H' p (glS rooms other) (glRs rows one other) → Q (.ref p) H')
def spGlD : Sp := fun vs H Q _ => ∃ (h : Addr) (one other : Str) (rooms : List Str) (rows : List (List Str)), vs = [.ref h, .str one, .str other] ∧ HS H h rooms rows ∧ HallV rooms rows ∧
  ∀ t H', Same H H' → GAt H' t (glM rooms rows one other) (glS rooms other) (glRs rows one other) → Q (.ref t) H'
/-- a state glued -/
def spGlSt : Sp := fun vs H Q _ => ∃ (h : Addr) (one other : Str) (faces : List Str) (places : List (List Str)), vs = [.ref h, .str one, .str other] ∧ HS H h faces places ∧ faces.length ≤ 100 ∧ places.length ≤ 100 ∧ (∀ p ∈ places, ∃ w r : Str, p = [w, r]) ∧
  ∀ p H', Same H H' → HS H' p (faces.map (gX one other)) (glRs places one other) → Q (.ref p) H'
/-- validate_hall and its parts, of what is a hall -/
def spValid : Sp := fun vs H Q _ => ∃ (h : Addr) (rooms : List Str) (rows : List (List Str)), vs = [.ref h] ∧ HS H h rooms rows ∧ HallV rooms rows ∧ ∀ H', Same H H' → Q (.bl true) H'
def spShape : Sp := fun vs H Q _ => ∃ (h : Addr) (rooms : List Str) (rows : List (List Str)), vs = [.ref h, .int 3] ∧ HS H h rooms rows ∧ HallV rooms rows ∧ ∀ H', Same H H' → Q (.bl true) H'
def spStrs : Sp := fun vs H Q _ => ∃ (a : Addr) (ss : List Str), vs = [.ref a] ∧ H a = some (.tup (ss.map V.str)) ∧ ss.length ≤ 100 ∧ ∀ H', Same H H' → Q (.bl true) H'
def spGroups : Sp := fun vs H Q _ => ∃ (d : Addr) (rows : List (List Str)) (n : Nat), vs = [.ref d, .int (n : Nat)] ∧ Rows H d rows ∧ rows.length ≤ 100 ∧ n ≤ 100 ∧ (∀ r ∈ rows, r.length = n) ∧ ∀ H', Same H H' → Q (.bl true) H'
def spChkRooms : Sp := fun vs H Q _ => ∃ (r : Addr) (rooms : List Str) (rows : List (List Str)), vs = [.ref r] ∧ H r = some (.tup (rooms.map V.str)) ∧ HallV rooms rows ∧ ∀ H', Same H H' → Q .non H'
def spChkDoors : Sp := fun vs H Q _ => ∃ (r d : Addr) (rooms : List Str) (rows : List (List Str)), vs = [.ref r, .ref d] ∧ H r = some (.tup (rooms.map V.str)) ∧ Rows H d rows ∧ HallV rooms rows ∧ ∀ H', Same H H' → Q .non H'
end Td
set_option maxHeartbeats 4000000
namespace Td
open PySem PySem.Spec PyProof.Rows L2
/-! ### any data: texts, numbers, truth values, None, tuples of these; tuples of at most m items, n - 1 deep -/
def Ds (x : V) (d : PyData) : Prop := (∃ s : Str, x = .str s ∧ d = .str s ∧ s.length ≤ 100) ∨ (∃ b, x = .bl b ∧ d = .bool b) ∨ (∃ i, x = .int i ∧ d = .int i) ∨ (x = .non ∧ d = .none)
def DM (H : Hp) (m : Nat) : Nat → V → PyData → Prop
  | 0, _, _ => False
  | n + 1, x, d => Ds x d ∨ ∃ (a : Addr) (xs : List V) (ds : List PyData), x = .ref a ∧ d = .tuple ds ∧ H a = some (.tup xs) ∧ xs.length = ds.length ∧ ds.length ≤ m ∧ ∀ (i : Nat) (v : V) (e : PyData), xs[i]? = some v → ds[i]? = some e → DM H m n v e
theorem DM.tu {H H' : Hp} {m : Nat} (t : Tu H H') : ∀ {n : Nat} {x : V} {d : PyData}, DM H m n x d → DM H' m n x d
  | 0, _, _, h => h
  | n + 1, x, d, h => by
    rcases h with h | ⟨a, xs, ds, e1, e2, h1, h2, h3, h4⟩
    · exact .inl h
    · exact .inr ⟨a, xs, ds, e1, e2, t _ _ h1, h2, h3, fun i v e a1 a2 => DM.tu t (h4 i v e a1 a2)⟩
theorem DM.wide {H : Hp} {m m' : Nat} (hm : m ≤ m') : ∀ {n : Nat} {x : V} {d : PyData}, DM H m n x d → DM H m' n x d
  | 0, _, _, h => h
  | n + 1, x, d, h => by
    rcases h with h | ⟨a, xs, ds, e1, e2, h1, h2, h3, h4⟩
    · exact .inl h
    · exact .inr ⟨a, xs, ds, e1, e2, h1, h2, Nat.le_trans h3 hm, fun i v e a1 a2 => DM.wide hm (h4 i v e a1 a2)⟩
theorem DM.up {H : Hp} {m : Nat} : ∀ {n : Nat} {x : V} {d : PyData}, DM H m n x d → DM H m (n + 1) x d
  | 0, _, _, h => h.elim
  | n + 1, x, d, h => by
    rcases h with h | ⟨a, xs, ds, e1, e2, h1, h2, h3, h4⟩
    · exact .inl h
    · exact .inr ⟨a, xs, ds, e1, e2, h1, h2, h3, fun i v e a1 a2 => DM.up (h4 i v e a1 a2)⟩
theorem DM.le {H : Hp} {m n n' : Nat} (hn : n ≤ n') {x : V} {d : PyData} (h : DM H m n x d) : DM H m n' x d := by
  obtain ⟨k, rfl⟩ := Nat.le.dest hn
  clear hn
  induction k with
  | zero => exact h
  | succ k ih => exact ih.up
def tyD : PyData → String
  | .none => "NoneType"
  | .bool _ => "bool"
  | .int _ => "int"
  | .str _ => "str"
  | .list _ => "list"
  | .tuple _ => "tuple"
  | .dict _ => "dict"
def isS : PyData → Bool
  | .str _ => true
  | _ => false
def isT : PyData → Bool
  | .tuple _ => true
  | _ => false
def lenD : PyData → Nat
  | .tuple ds => ds.length
  | _ => 0
def isSs : PyData → Bool
  | .tuple ds => ds.all isS
  | _ => false
def isGs (n : Nat) : PyData → Bool
  | .tuple ds => ds.all fun e => isSs e && decide (lenD e = n)
  | _ => false
def shp (n : Nat) : PyData → Bool
  | .tuple [a, b] => isSs a && isGs n b
  | _ => false
theorem dm_ty {K : PySem.W.Frag} {H : Hp} {m n : Nat} {x : V} {d : PyData} (h : DM H m n x d) : TyX K H x (.type (tyD d)) := by
  cases n with
  | zero => exact h.elim
  | succ n =>
    rcases h with (⟨s, rfl, rfl, _⟩ | ⟨s, rfl, rfl⟩ | ⟨s, rfl, rfl⟩ | ⟨rfl, rfl⟩) | ⟨a, xs, ds, rfl, rfl, h1, _⟩
    · exact .base (.str _)
    · exact .base (.bl _)
    · exact .base (.int _)
    · exact .base .non
    · exact .base (.tup h1)
theorem kit_tD {K : PySem.W.Frag} : ∀ d : PyData, PySem.W.kitOne K (.type (tyD d)) (.type "tuple") = some (isT d)
  | .none => kit_ty (show kitB "NoneType" "tuple" = some false by decide +kernel)
  | .bool _ => kit_ty (show kitB "bool" "tuple" = some false by decide +kernel)
  | .int _ => kit_ty (show kitB "int" "tuple" = some false by decide +kernel)
  | .str _ => kit_ty (show kitB "str" "tuple" = some false by decide +kernel)
  | .list _ => kit_ty (show kitB "list" "tuple" = some false by decide +kernel)
  | .tuple _ => kit_ty (show kitB "tuple" "tuple" = some true by decide +kernel)
  | .dict _ => kit_ty (show kitB "dict" "tuple" = some false by decide +kernel)
theorem kit_sD {K : PySem.W.Frag} : ∀ d : PyData, PySem.W.kitOne K (.type (tyD d)) (.type "str") = some (isS d)
  | .none => kit_ty (show kitB "NoneType" "str" = some false by decide +kernel)
  | .bool _ => kit_ty (show kitB "bool" "str" = some false by decide +kernel)
  | .int _ => kit_ty (show kitB "int" "str" = some false by decide +kernel)
  | .str _ => kit_ty (show kitB "str" "str" = some true by decide +kernel)
  | .list _ => kit_ty (show kitB "list" "str" = some false by decide +kernel)
  | .tuple _ => kit_ty (show kitB "tuple" "str" = some false by decide +kernel)
  | .dict _ => kit_ty (show kitB "dict" "str" = some false by decide +kernel)
theorem dm_str {H : Hp} {m n : Nat} {x : V} {d : PyData} (h : DM H m n x d) (hs : isS d = true) : ∃ s : Str, x = .str s ∧ d = .str s ∧ s.length ≤ 100 := by
  cases n with
  | zero => exact h.elim
  | succ n =>
    rcases h with (⟨s, rfl, rfl, hl⟩ | ⟨s, rfl, rfl⟩ | ⟨s, rfl, rfl⟩ | ⟨rfl, rfl⟩) | ⟨a, xs, ds, rfl, rfl, h1, _⟩
    · exact ⟨s, rfl, rfl, hl⟩
    · cases hs
    · cases hs
    · cases hs
    · cases hs
theorem dm_tup {H : Hp} {m n : Nat} {x : V} {d : PyData} (h : DM H m n x d) (hs : isT d = true) : ∃ (n' : Nat) (a : Addr) (xs : List V) (ds : List PyData), n = n' + 1 ∧ x = .ref a ∧ d = .tuple ds ∧ H a = some (.tup xs) ∧ xs.length = ds.length ∧ ds.length ≤ m ∧ ∀ (i : Nat) (v : V) (e : PyData), xs[i]? = some v → ds[i]? = some e → DM H m n' v e := by
  cases n with
  | zero => exact h.elim
  | succ n =>
    rcases h with (⟨s, rfl, rfl, hl⟩ | ⟨s, rfl, rfl⟩ | ⟨s, rfl, rfl⟩ | ⟨rfl, rfl⟩) | ⟨a, xs, ds, rfl, rfl, h1, h2, h3, h4⟩
    · cases hs
    · cases hs
    · cases hs
    · cases hs
    · exact ⟨n, a, xs, ds, rfl, rfl, rfl, h1, h2, h3, h4⟩
theorem isSs_ok : ∀ {ds : List PyData}, ds.all isS = true → ∃ ss : List Str, ds = ss.map .str
  | [], _ => ⟨[], rfl⟩
  | d :: ds, h => by
    rw [List.all_cons, Bool.and_eq_true] at h
    obtain ⟨ss, e⟩ := isSs_ok h.2
    cases d <;> first | (exact absurd (show false = true from h.1) Bool.false_ne_true) | skip
    case str s => exact ⟨s :: ss, by rw [e]; rfl⟩
theorem isSs_sD (ss : List Str) : isSs (sD ss) = true := by
  show (ss.map PyData.str).all isS = true
  rw [List.all_map]
  exact List.all_eq_true.mpr fun _ _ => rfl
theorem isGs_ok {k : Nat} : ∀ {ds : List PyData}, (ds.all fun e => isSs e && decide (lenD e = k)) = true → ∃ rows : List (List Str), ds = rows.map sD ∧ ∀ r ∈ rows, r.length = k
  | [], _ => ⟨[], rfl, fun r hr => by cases hr⟩
  | d :: ds, h => by
    rw [List.all_cons, Bool.and_eq_true, Bool.and_eq_true, decide_eq_true_eq] at h
    obtain ⟨rows, e, hr⟩ := isGs_ok h.2
    cases d <;> first | (exact absurd (show false = true from h.1.1) Bool.false_ne_true) | skip
    case tuple ts =>
      obtain ⟨ss, rfl⟩ := isSs_ok (ds := ts) h.1.1
      refine ⟨ss :: rows, by rw [e]; rfl, fun r hr' => ?_⟩
      rcases List.mem_cons.mp hr' with rfl | hr'
      · have z : (r.map PyData.str).length = k := h.1.2
        rw [List.length_map] at z
        exact z
      · exact hr r hr'
theorem isGs_rows {k : Nat} {rows : List (List Str)} (h : ∀ r ∈ rows, r.length = k) : isGs k (.tuple (rows.map sD)) = true := by
  show ((rows.map sD).all fun e => isSs e && decide (lenD e = k)) = true
  rw [List.all_map]
  refine List.all_eq_true.mpr fun r hr => ?_
  show (isSs (sD r) && decide ((r.map PyData.str).length = k)) = true
  rw [isSs_sD, List.length_map, h r hr, decide_eq_true rfl]
  rfl
theorem shp_ok {k : Nat} {d : PyData} (h : shp k d = true) : ∃ (ss : List Str) (rows : List (List Str)), d = hsD ss rows ∧ ∀ r ∈ rows, r.length = k := by
  unfold shp at h
  split at h
  · rename_i a b
    rw [Bool.and_eq_true] at h
    obtain ⟨ha, hb⟩ := h
    cases a <;> first | (exact absurd (show false = true from ha) Bool.false_ne_true) | skip
    case tuple ts =>
      cases b <;> first | (exact absurd (show false = true from hb) Bool.false_ne_true) | skip
      case tuple us =>
        obtain ⟨ss, rfl⟩ := isSs_ok ha
        obtain ⟨rows, rfl, hr⟩ := isGs_ok hb
        exact ⟨ss, rows, rfl, hr⟩
  · cases h
theorem shp_hs {k : Nat} {ss : List Str} {rows : List (List Str)} (h : ∀ r ∈ rows, r.length = k) : shp k (hsD ss rows) = true := by
  show (isSs (sD ss) && isGs k (.tuple (rows.map sD))) = true
  rw [isSs_sD, isGs_rows h]
  rfl
theorem strs_of_dm {H : Hp} {m n : Nat} {xs : List V} {ss : List Str} (hl : xs.length = (ss.map PyData.str).length) (h : ∀ (i : Nat) (v : V) (e : PyData), xs[i]? = some v → (ss.map PyData.str)[i]? = some e → DM H m n v e) : xs = ss.map V.str ∧ ∀ s ∈ ss, s.length ≤ 100 := by
  have key : ∀ (i : Nat) (s : Str), ss[i]? = some s → xs[i]? = some (.str s) ∧ s.length ≤ 100 := fun i s hs => by
    have hi : i < xs.length := by rw [hl, List.length_map]; exact (List.getElem?_eq_some_iff.mp hs).1
    have z := h i xs[i] (.str s) (List.getElem?_eq_getElem hi) (by rw [List.getElem?_map, hs]; rfl)
    obtain ⟨t, e1, e2, e3⟩ := dm_str z rfl
    cases e2
    exact ⟨by rw [List.getElem?_eq_getElem hi, e1], e3⟩
  refine ⟨List.ext_getElem? fun i => ?_, fun s hs => ?_⟩
  · rw [List.getElem?_map]
    cases hs : ss[i]? with
    | none =>
      rw [List.length_map] at hl
      exact List.getElem?_eq_none (by rw [hl]; exact List.getElem?_eq_none_iff.mp hs)
    | some s => exact (key i s hs).1
  · obtain ⟨i, hi⟩ := List.getElem?_of_mem hs
    exact (key i s hi).2
/-- data of the form of a hall or a state stand as one in the heap -/
theorem hs_of_dm {H : Hp} {m n : Nat} {x : V} {ss : List Str} {rows : List (List Str)} (h : DM H m n x (hsD ss rows)) : ∃ a : Addr, x = .ref a ∧ HS H a ss rows ∧ ss.length ≤ m ∧ rows.length ≤ m ∧ (∀ s ∈ ss, s.length ≤ 100) ∧ ∀ r ∈ rows, ∀ s ∈ r, s.length ≤ 100 := by
  obtain ⟨n1, a, xs, ds, rfl, rfl, e, h1, h2, h3, h4⟩ := dm_tup h rfl
  cases e
  obtain ⟨v1, v2, rfl⟩ : ∃ v1 v2, xs = [v1, v2] := by
    match xs, h2 with
    | [v1, v2], _ => exact ⟨v1, v2, rfl⟩
  obtain ⟨n2, r, ys, es, rfl, rfl, e, g1, g2, g3, g4⟩ := dm_tup (h4 0 v1 _ rfl rfl) rfl
  cases e
  obtain ⟨rfl, l1⟩ := strs_of_dm g2 g4
  obtain ⟨n3, d, zs, es, e3, rfl, e, k1, k2, k3, k4⟩ := dm_tup (h4 1 v2 _ rfl rfl) rfl
  cases e
  cases e3
  have row : ∀ (i : Nat) (v : V) (l : List Str), zs[i]? = some v → rows[i]? = some l → ∃ b : Addr, v = .ref b ∧ H b = some (.tup (l.map V.str)) ∧ ∀ s ∈ l, s.length ≤ 100 := fun i v l a1 a2 => by
    obtain ⟨n4, b, us, es, e4, rfl, e, p1, p2, p3, p4⟩ := dm_tup (k4 i v (sD l) a1 (by rw [List.getElem?_map, a2]; rfl)) rfl
    cases e
    obtain ⟨rfl, l2⟩ := strs_of_dm p2 p4
    exact ⟨b, rfl, p1, l2⟩
  rw [List.length_map] at k2 k3 g3
  obtain ⟨as, rfl⟩ : ∃ as : List Addr, zs = as.map V.ref := by
    have all : ∀ v ∈ zs, ∃ b : Addr, v = .ref b := fun v hv => by
      obtain ⟨i, hi⟩ := List.getElem?_of_mem hv
      have hil : i < rows.length := by rw [← k2]; exact (List.getElem?_eq_some_iff.mp hi).1
      obtain ⟨b, e, _⟩ := row i v rows[i] hi (List.getElem?_eq_getElem hil)
      exact ⟨b, e⟩
    clear row k4 k2 h1 h2 h4 k1
    induction zs with
    | nil => exact ⟨[], rfl⟩
    | cons z zs ih =>
      obtain ⟨b, rfl⟩ := all z (List.mem_cons_self ..)
      obtain ⟨as, rfl⟩ := ih fun v hv => all v (List.mem_cons_of_mem _ hv)
      exact ⟨b :: as, rfl⟩
  rw [List.length_map] at k2
  refine ⟨a, rfl, ⟨r, d, h1, g1, as, k1, k2, fun i b l e1 e2 => ?_⟩, g3, k3, l1, fun l hl s hs => ?_⟩
  · obtain ⟨b', e, hb, _⟩ := row i (.ref b) l (by rw [List.getElem?_map, e1]; rfl) e2
    cases e
    exact hb
  · obtain ⟨i, hi⟩ := List.getElem?_of_mem hl
    have hil : i < as.length := by rw [k2]; exact (List.getElem?_eq_some_iff.mp hi).1
    obtain ⟨b', e, hb, l2⟩ := row i (.ref as[i]) l (by rw [List.getElem?_map, List.getElem?_eq_getElem hil]; rfl) hi
    exact l2 s hs
theorem dm_strs {H : Hp} {m n : Nat} {a : Addr} {ss : List Str} (h : H a = some (.tup (ss.map V.str))) (hm : ss.length ≤ m) (hl : ∀ s ∈ ss, s.length ≤ 100) : DM H m (n + 2) (.ref a) (sD ss) := by
  refine .inr ⟨a, _, _, rfl, rfl, h, by rw [List.length_map, List.length_map], by rw [List.length_map]; exact hm, fun i v e a1 a2 => .inl (.inl ?_)⟩
  rw [List.getElem?_map] at a1 a2
  cases z : ss[i]? with
  | none => rw [z] at a1; cases a1
  | some s => rw [z] at a1 a2; cases a1; cases a2; exact ⟨s, rfl, rfl, hl s (List.mem_of_getElem? z)⟩
theorem dm_of_hs {H : Hp} {m : Nat} {h : Addr} {ss : List Str} {rows : List (List Str)} (x : HS H h ss rows) (hm : 3 ≤ m) (h1 : ss.length ≤ m) (h2 : rows.length ≤ m) (h3 : ∀ r ∈ rows, r.length ≤ m) (l1 : ∀ s ∈ ss, s.length ≤ 100) (l2 : ∀ r ∈ rows, ∀ s ∈ r, s.length ≤ 100) : DM H m 4 (.ref h) (hsD ss rows) := by
  obtain ⟨r, d, e1, e2, as, e3, hR⟩ := x
  refine .inr ⟨h, _, _, rfl, rfl, e1, rfl, by show 2 ≤ m; omega, fun j v e a1 a2 => ?_⟩
  match j with
  | 0 => cases a1; cases a2; exact dm_strs e2 h1 l1
  | 1 =>
    cases a1; cases a2
    refine .inr ⟨d, _, _, rfl, rfl, e3, by rw [List.length_map, List.length_map]; exact hR.1, by rw [List.length_map]; exact h2, fun i v e a1 a2 => ?_⟩
    rw [List.getElem?_map] at a1 a2
    cases z : as[i]? with
    | none => rw [z] at a1; cases a1
    | some a =>
      cases y : rows[i]? with
      | none => rw [y] at a2; cases a2
      | some l =>
        rw [z] at a1
        rw [y] at a2
        cases a1; cases a2
        exact dm_strs (hR.2 i a l z y) (h3 l (List.mem_of_getElem? y)) (l2 l (List.mem_of_getElem? y))
  | j + 2 => cases a1
/-! ### the first that is wrong -/
def fstB {α β : Type} (bad : List α → α → Option β) : List α → List α → Option β
  | _, [] => none
  | pre, x :: r => match bad pre x with
    | some b => some b
    | none => fstB bad (pre ++ [x]) r
theorem fstB_app {α β : Type} (bad : List α → α → Option β) : ∀ (l1 l2 pre : List α), fstB bad pre (l1 ++ l2) = match fstB bad pre l1 with | some b => some b | none => fstB bad (pre ++ l1) l2
  | [], l2, pre => by rw [List.append_nil]; rfl
  | x :: r, l2, pre => by
    show (match bad pre x with | some b => some b | none => fstB bad (pre ++ [x]) (r ++ l2)) = _
    cases h : bad pre x with
    | some b =>
      have e : fstB bad pre (x :: r) = some b := by
        show (match bad pre x with | some b => some b | none => fstB bad (pre ++ [x]) r) = _
        rw [h]
      rw [e]
    | none =>
      have e : fstB bad pre (x :: r) = fstB bad (pre ++ [x]) r := by
        show (match bad pre x with | some b => some b | none => fstB bad (pre ++ [x]) r) = _
        rw [h]
      rw [e]
      show fstB bad (pre ++ [x]) (r ++ l2) = _
      rw [fstB_app bad r l2 (pre ++ [x]), List.append_assoc]
      rfl
theorem fstB_step {α β : Type} {bad : List α → α → Option β} {l : List α} {i : Nat} {x : α} (hi : l[i]? = some x) (h : fstB bad [] (l.take i) = none) :
    (∀ b, bad (l.take i) x = some b → fstB bad [] l = some b) ∧ (bad (l.take i) x = none → fstB bad [] (l.take (i + 1)) = none) := by
  refine ⟨fun b hb => ?_, fun hb => ?_⟩
  · have e : l = l.take i ++ (x :: l.drop (i + 1)) := by
      have z := List.take_append_drop (i + 1) l
      rw [take_snoc hi, List.append_assoc] at z
      exact z.symm
    have z := fstB_app bad (l.take i) (x :: l.drop (i + 1)) []
    rw [← e, h] at z
    rw [z]
    show (match bad ([] ++ l.take i) x with | some b => some b | none => _) = _
    rw [List.nil_append, hb]
  · rw [take_snoc hi, fstB_app, h]
    show (match bad ([] ++ l.take i) x with | some b => some b | none => _) = _
    rw [List.nil_append, hb]
    rfl
theorem fstB_mem {α β : Type} {bad : List α → α → Option β} : ∀ {l pre : List α} {b : β}, fstB bad pre l = some b → ∃ l1 x, bad (pre ++ l1) x = some b ∧ l1.length < l.length
  | x :: r, pre, b, h => by
    have h' : (match bad pre x with | some b => some b | none => fstB bad (pre ++ [x]) r) = some b := h
    cases hb : bad pre x with
    | some c =>
      rw [hb] at h'
      cases h'
      exact ⟨[], x, by rw [List.append_nil]; exact hb, Nat.succ_pos _⟩
    | none =>
      rw [hb] at h'
      obtain ⟨l1, y, e, hl⟩ := fstB_mem h'
      exact ⟨x :: l1, y, by rw [List.append_assoc] at e; exact e, by rw [List.length_cons, List.length_cons]; omega⟩
end Td
set_option maxHeartbeats 4000000
namespace Td
open PySem PySem.Spec PyProof.Rows L2
/-! ### whether data are a hall -/
def nmD : PyData → Bool
  | .str s => decide (Nm s)
  | _ => false
def bRoom (pre : List Str) (x : Str) : Option (Str × Nat) := if Nm x ∧ x ∉ pre then none else some ("room", pre.length)
def bDoor (rooms : List Str) (pre : List (List Str)) (r : List Str) : Option (Str × Nat) :=
  if Nm (hd0 r) ∧ hd0 r ∉ pre.map hd0 then (if r.getD 1 "" ≠ r.getD 2 "" ∧ r.getD 1 "" ∈ rooms ∧ r.getD 2 "" ∈ rooms then none else some ("end", pre.length)) else some ("door", pre.length)
def vM (ss : List Str) (rows : List (List Str)) : Option (Str × Nat) :=
  if 1 ≤ ss.length ∧ ss.length ≤ 8 then (if rows.length ≤ 12 then (match fstB bRoom [] ss with
    | some b => some b
    | none => fstB (bDoor ss) [] rows) else some ("doors", 0)) else some ("rooms", 0)
def strD : PyData → Str
  | .str s => s
  | _ => ""
def strsD : PyData → List Str
  | .tuple ds => ds.map strD
  | _ => []
def rowsD : PyData → List (List Str)
  | .tuple ds => ds.map strsD
  | _ => []
def fstD : PyData → PyData
  | .tuple (a :: _) => a
  | _ => .none
def sndD : PyData → PyData
  | .tuple (_ :: b :: _) => b
  | _ => .none
def vD (d : PyData) : Option (Str × Nat) := if shp 3 d = true then vM (strsD (fstD d)) (rowsD (sndD d)) else some (("form" : Str), 0)
theorem strsD_sD (ss : List Str) : strsD (sD ss) = ss := by
  show (ss.map PyData.str).map strD = ss
  rw [List.map_map]
  exact List.map_id ss
theorem vD_hs {ss : List Str} {rows : List (List Str)} (h : ∀ r ∈ rows, r.length = 3) : vD (hsD ss rows) = vM ss rows := by
  unfold vD
  rw [if_pos (shp_hs h)]
  show vM (strsD (sD ss)) ((rows.map sD).map strsD) = _
  rw [strsD_sD, List.map_map, show (strsD ∘ sD) = id from funext strsD_sD, List.map_id]
theorem vD_form {d : PyData} (h : ¬ shp 3 d = true) : vD d = some (("form" : Str), 0) := if_neg h
/-- the words and numbers -/
abbrev wds : List Str := ["form", "rooms", "doors", "room", "door", "end", "many", "face", "walker"]
def okB (b : Str × Nat) : Prop := b.1 ∈ wds ∧ b.2 < 16
theorem vD_ok {d : PyData} {b : Str × Nat} (h : vD d = some b) : okB b := by
  unfold vD at h
  split at h
  · unfold vM at h
    split at h
    · split at h
      · rename_i h1 h2
        cases hr : fstB bRoom [] (strsD (fstD d)) with
        | some c =>
          rw [hr] at h
          cases h
          obtain ⟨l1, x, e, hl⟩ := fstB_mem hr
          unfold bRoom at e
          split at e
          · cases e
          · cases e
            exact ⟨(show ("room" : Str) ∈ wds by decide +kernel), by show l1.length < 16; omega⟩
        | none =>
          rw [hr] at h
          obtain ⟨l1, x, e, hl⟩ := fstB_mem h
          unfold bDoor at e
          split at e
          · split at e
            · cases e
            · cases e
              exact ⟨(show ("end" : Str) ∈ wds by decide +kernel), by show l1.length < 16; omega⟩
          · cases e
            exact ⟨(show ("door" : Str) ∈ wds by decide +kernel), by show l1.length < 16; omega⟩
      · cases h
        exact ⟨by decide, by decide⟩
    · cases h
      exact ⟨by decide, by decide⟩
  · cases h
    exact ⟨by decide, by decide⟩
def oD : Option (Str × Nat) → PyData
  | none => .bool true
  | some (s, k) => .tuple [.str s, .int (k : Nat)]
theorem int_short : ∀ k : Fin 16, (PyData.int (k.val : Nat)).leavesShort 13 = true := by decide +kernel
theorem int_show : ∀ k : Fin 16, (PyData.int (k.val : Nat)).showable = true := by decide +kernel
theorem word_short : ∀ s ∈ wds, (PyData.str s).leavesShort 13 = true ∧ s.length ≤ 10 := by decide +kernel
theorem oD_shows {o : Option (Str × Nat)} (h : ∀ b, o = some b → b.1 ∈ wds ∧ b.2 < 16) : Shows (oD o) := by
  cases o with
  | none =>
    refine ⟨by decide, by decide, by decide, PyData.shown_fits_bulk (B := 13) (by decide) (by decide) (by decide) (by decide)⟩
  | some b =>
    obtain ⟨s, k⟩ := b
    obtain ⟨h1, h2⟩ := h _ rfl
    have e1 := (word_short s h1).1
    have e2 := int_short ⟨k, h2⟩
    have e3 := (word_short s h1).2
    refine ⟨?_, ?_, ?_, PyData.shown_fits_bulk (B := 13) (by decide) (by decide) ?_ ?_⟩
    · have e4 := int_show ⟨k, h2⟩
      simp only [oD, PyData.showable, PyData.showableAll] at e4 ⊢
      simpa using e4
    · simp [oD, PyData.hasDict, PyData.hasDictAll]
    · simp [oD, PyData.depth, PyData.depthAll]
    · simp only [oD, PyData.leavesShort, PyData.leavesShortAll] at e1 e2 ⊢
      rw [e1]
      simpa using e2
    · have z : s.cps.size ≤ 10 := e3
      simp only [oD, PyData.bulk, PyData.bulkAll]
      omega
def VAt (H : Hp) (y : V) (o : Option (Str × Nat)) : Prop := match o with
  | none => y = .bl true
  | some (s, k) => ∃ t, y = .ref t ∧ H t = some (.tup [.str s, .int (k : Nat)])
theorem VAt.dp {K : PySem.W.Frag} {H : Hp} {y : V} {o : Option (Str × Nat)} (h : VAt H y o) : Dp K H y (oD o) := by
  cases o with
  | none => cases h; exact .bl _
  | some b =>
    obtain ⟨s, k⟩ := b
    obtain ⟨t, rfl, ht⟩ := h
    exact .tup (SqT.of ht) (.cons (.str _) (.cons (.int _) .nil))
theorem VAt.tu {H H' : Hp} {y : V} {o : Option (Str × Nat)} (x : Tu H H') (h : VAt H y o) : VAt H' y o := by
  cases o with
  | none => exact h
  | some b =>
    obtain ⟨t, e, ht⟩ := h
    exact ⟨t, e, x _ _ ht⟩
/-! ### the promises, for any data -/
def spIsNm : Sp := fun vs H Q _ => ∃ (x : V) (d : PyData) (m n : Nat), vs = [x] ∧ DM H m n x d ∧ ∀ H', Same H H' → Q (.bl (nmD d)) H'
def spStrsD : Sp := fun vs H Q _ => ∃ (x : V) (d : PyData) (m n : Nat), vs = [x] ∧ DM H m n x d ∧ m ≤ 900 ∧ ∀ H', Same H H' → Q (.bl (isSs d)) H'
def spGrpsD : Sp := fun vs H Q _ => ∃ (x : V) (d : PyData) (m n k : Nat), vs = [x, .int (k : Nat)] ∧ DM H m n x d ∧ m ≤ 900 ∧ ∀ H', Same H H' → Q (.bl (isGs k d)) H'
def spShpD : Sp := fun vs H Q _ => ∃ (x : V) (d : PyData) (m n k : Nat), vs = [x, .int (k : Nat)] ∧ DM H m n x d ∧ m ≤ 900 ∧ ∀ H', Same H H' → Q (.bl (shp k d)) H'
def errV3 (K : PySem.W.Frag) (E : XK) (c : Str) (b : Str × Nat) (H : Hp) : Prop := ∀ H', Same H H' → ∀ d, H' d = none → E (.ref (He.ga K c)) (some d) (upd H' d (.xd [("index", .int (b.2 : Nat)), ("reason", .str b.1)]))
def spCkR (K : PySem.W.Frag) : Sp := fun vs H Q E => ∃ (r : Addr) (ss : List Str), vs = [.ref r] ∧ H r = some (.tup (ss.map V.str)) ∧ ss.length ≤ 8 ∧ (∀ s ∈ ss, s.length ≤ 100) ∧ (fstB bRoom [] ss = none → ∀ H', Same H H' → Q .non H') ∧ ∀ b, fstB bRoom [] ss = some b → errV3 K E "InvalidHall" b H
def spCkD (K : PySem.W.Frag) : Sp := fun vs H Q E => ∃ (r d : Addr) (ss : List Str) (rows : List (List Str)), vs = [.ref r, .ref d] ∧ H r = some (.tup (ss.map V.str)) ∧ Rows H d rows ∧ rows.length ≤ 12 ∧ (∀ r ∈ rows, r.length = 3 ∧ ∀ s ∈ r, s.length ≤ 100) ∧
  (fstB (bDoor ss) [] rows = none → ∀ H', Same H H' → Q .non H') ∧ ∀ b, fstB (bDoor ss) [] rows = some b → errV3 K E "InvalidHall" b H
def spValD (K : PySem.W.Frag) : Sp := fun vs H Q E => ∃ (x : V) (d : PyData) (m n : Nat), vs = [x] ∧ DM H m n x d ∧ m ≤ 900 ∧ (vD d = none → ∀ H', Same H H' → Q (.bl true) H') ∧ ∀ b, vD d = some b → errV3 K E "InvalidHall" b H
def spVAt : Sp := fun vs H Q _ => ∃ (x : V) (d : PyData) (m n : Nat), vs = [x] ∧ DM H m n x d ∧ m ≤ 900 ∧ ∀ y H', Same H H' → VAt H' y (vD d) → Q y H'
def spLStrs : Sp := fun vs H Q _ => ∃ (x : V) (d : PyData) (m n k : Nat), vs = [x, .int (k : Nat)] ∧ DM H m n x d ∧ m ≤ 900 ∧ ∀ H', Same H H' → Q (.bl (isSs d && decide (lenD d = k))) H'
end Td
set_option maxHeartbeats 4000000
namespace Td
open PySem PySem.Spec PyProof.Rows L2
/-! ### data whose texts have at most l signs -/
def Ds2 (l : Nat) (x : V) (d : PyData) : Prop := (∃ s : Str, x = .str s ∧ d = .str s ∧ s.length ≤ l) ∨ (∃ b, x = .bl b ∧ d = .bool b) ∨ (∃ i, x = .int i ∧ d = .int i) ∨ (x = .non ∧ d = .none)
def DN (H : Hp) (l m : Nat) : Nat → V → PyData → Prop
  | 0, _, _ => False
  | n + 1, x, d => Ds2 l x d ∨ ∃ (a : Addr) (xs : List V) (ds : List PyData), x = .ref a ∧ d = .tuple ds ∧ H a = some (.tup xs) ∧ xs.length = ds.length ∧ ds.length ≤ m ∧ ∀ (i : Nat) (v : V) (e : PyData), xs[i]? = some v → ds[i]? = some e → DN H l m n v e
theorem DN.tu {H H' : Hp} {l m : Nat} (t : Tu H H') : ∀ {n : Nat} {x : V} {d : PyData}, DN H l m n x d → DN H' l m n x d
  | 0, _, _, h => h
  | n + 1, x, d, h => by
    rcases h with h | ⟨a, xs, ds, e1, e2, h1, h2, h3, h4⟩
    · exact .inl h
    · exact .inr ⟨a, xs, ds, e1, e2, t _ _ h1, h2, h3, fun i v e a1 a2 => DN.tu t (h4 i v e a1 a2)⟩
theorem DN.wide {H : Hp} {l l' m m' : Nat} (hl : l ≤ l') (hm : m ≤ m') : ∀ {n : Nat} {x : V} {d : PyData}, DN H l m n x d → DN H l' m' n x d
  | 0, _, _, h => h
  | n + 1, x, d, h => by
    rcases h with (⟨s, e1, e2, h⟩ | h) | ⟨a, xs, ds, e1, e2, h1, h2, h3, h4⟩
    · exact .inl (.inl ⟨s, e1, e2, Nat.le_trans h hl⟩)
    · exact .inl (.inr h)
    · exact .inr ⟨a, xs, ds, e1, e2, h1, h2, Nat.le_trans h3 hm, fun i v e a1 a2 => DN.wide hl hm (h4 i v e a1 a2)⟩
theorem DN.dm {H : Hp} {l m : Nat} (hl : l ≤ 100) : ∀ {n : Nat} {x : V} {d : PyData}, DN H l m n x d → DM H m n x d
  | 0, _, _, h => h
  | n + 1, x, d, h => by
    rcases h with (⟨s, e1, e2, h⟩ | h) | ⟨a, xs, ds, e1, e2, h1, h2, h3, h4⟩
    · exact .inl (.inl ⟨s, e1, e2, Nat.le_trans h hl⟩)
    · exact .inl (.inr h)
    · exact .inr ⟨a, xs, ds, e1, e2, h1, h2, h3, fun i v e a1 a2 => DN.dm hl (h4 i v e a1 a2)⟩
theorem DN.up {H : Hp} {l m : Nat} : ∀ {n : Nat} {x : V} {d : PyData}, DN H l m n x d → DN H l m (n + 1) x d
  | 0, _, _, h => h.elim
  | n + 1, x, d, h => by
    rcases h with h | ⟨a, xs, ds, e1, e2, h1, h2, h3, h4⟩
    · exact .inl h
    · exact .inr ⟨a, xs, ds, e1, e2, h1, h2, h3, fun i v e a1 a2 => DN.up (h4 i v e a1 a2)⟩
theorem DN.le {H : Hp} {l m n n' : Nat} (hn : n ≤ n') {x : V} {d : PyData} (h : DN H l m n x d) : DN H l m n' x d := by
  obtain ⟨k, rfl⟩ := Nat.le.dest hn
  clear hn
  induction k with
  | zero => exact h
  | succ k ih => exact ih.up
/-- some data -/
def DV (H : Hp) (l m n : Nat) (x : V) : Prop := ∃ e, DN H l m n x e
theorem DV.tu {H H' : Hp} {l m n : Nat} {x : V} (t : Tu H H') (h : DV H l m n x) : DV H' l m n x := let ⟨e, he⟩ := h; ⟨e, he.tu t⟩
theorem DV.wide {H : Hp} {l l' m m' n n' : Nat} {x : V} (hl : l ≤ l') (hm : m ≤ m') (hn : n ≤ n') (h : DV H l m n x) : DV H l' m' n' x := let ⟨e, he⟩ := h; ⟨e, (he.wide hl hm).le hn⟩
theorem DV.str {H : Hp} {l m n : Nat} {s : Str} (h : s.length ≤ l) : DV H l m (n + 1) (.str s) := ⟨_, .inl (.inl ⟨s, rfl, rfl, h⟩)⟩
theorem DV.int {H : Hp} {l m n : Nat} {i : Int} : DV H l m (n + 1) (.int i) := ⟨_, .inl (.inr (.inr (.inl ⟨i, rfl, rfl⟩)))⟩
theorem DV.bl {H : Hp} {l m n : Nat} {i : Bool} : DV H l m (n + 1) (.bl i) := ⟨_, .inl (.inr (.inl ⟨i, rfl, rfl⟩))⟩
theorem DV.non {H : Hp} {l m n : Nat} : DV H l m (n + 1) .non := ⟨_, .inl (.inr (.inr (.inr ⟨rfl, rfl⟩)))⟩
theorem DV.mk {H : Hp} {l m n : Nat} {a : Addr} {xs : List V} (h : H a = some (.tup xs)) (hl : xs.length ≤ m) (hx : ∀ x ∈ xs, DV H l m n x) : DV H l m (n + 1) (.ref a) := by
  have key : ∀ ys : List V, (∀ x ∈ ys, DV H l m n x) → ∃ ds : List PyData, ys.length = ds.length ∧ ∀ (i : Nat) (v : V) (e : PyData), ys[i]? = some v → ds[i]? = some e → DN H l m n v e := by
    intro ys
    induction ys with
    | nil => exact fun _ => ⟨[], rfl, fun i v e a1 => by cases a1⟩
    | cons y ys ih =>
      intro hy
      obtain ⟨e, he⟩ := hy y (List.mem_cons_self ..)
      obtain ⟨ds, h1, h2⟩ := ih fun x hx => hy x (List.mem_cons_of_mem _ hx)
      refine ⟨e :: ds, by rw [List.length_cons, List.length_cons, h1], fun i v e' a1 a2 => ?_⟩
      cases i with
      | zero => cases a1; cases a2; exact he
      | succ i => exact h2 i v e' a1 a2
  obtain ⟨ds, h1, h2⟩ := key xs hx
  exact ⟨.tuple ds, .inr ⟨a, xs, ds, rfl, rfl, h, h1, by omega, h2⟩⟩
/-- what it is: a text, a tuple, or neither -/
theorem DV.cases {H : Hp} {l m n : Nat} {x : V} (h : DV H l m n x) : ∃ ty : String, (∀ K : PySem.W.Frag, TyX K H x (.type ty)) ∧
    ((∃ s : Str, x = .str s ∧ s.length ≤ l ∧ ty = "str") ∨ (∃ (n' : Nat) (a : Addr) (xs : List V), n = n' + 1 ∧ x = .ref a ∧ ty = "tuple" ∧ H a = some (.tup xs) ∧ xs.length ≤ m ∧ ∀ y ∈ xs, DV H l m n' y) ∨ (ty = "bool" ∨ ty = "int" ∨ ty = "NoneType")) := by
  obtain ⟨d, h⟩ := h
  cases n with
  | zero => exact h.elim
  | succ n =>
    rcases h with (⟨s, rfl, rfl, hl⟩ | ⟨s, rfl, rfl⟩ | ⟨s, rfl, rfl⟩ | ⟨rfl, rfl⟩) | ⟨a, xs, ds, rfl, rfl, h1, h2, h3, h4⟩
    · exact ⟨"str", fun _ => .base (.str _), .inl ⟨s, rfl, hl, rfl⟩⟩
    · exact ⟨"bool", fun _ => .base (.bl _), .inr (.inr (.inl rfl))⟩
    · exact ⟨"int", fun _ => .base (.int _), .inr (.inr (.inr (.inl rfl)))⟩
    · exact ⟨"NoneType", fun _ => .base .non, .inr (.inr (.inr (.inr rfl)))⟩
    · refine ⟨"tuple", fun _ => .base (.tup h1), .inr (.inl ⟨n, a, xs, rfl, rfl, rfl, h1, by omega, fun y hy => ?_⟩)⟩
      obtain ⟨i, hi⟩ := List.getElem?_of_mem hy
      have hil : i < ds.length := by rw [← h2]; exact (List.getElem?_eq_some_iff.mp hi).1
      exact ⟨ds[i], h4 i y _ hi (List.getElem?_eq_getElem hil)⟩
theorem kits {K : PySem.W.Frag} : PySem.W.kitOne K (.type "str") (.type "str") = some true ∧ PySem.W.kitOne K (.type "tuple") (.type "str") = some false ∧ PySem.W.kitOne K (.type "str") (.type "tuple") = some false ∧ PySem.W.kitOne K (.type "tuple") (.type "tuple") = some true ∧
    ∀ t : String, t = "bool" ∨ t = "int" ∨ t = "NoneType" → PySem.W.kitOne K (.type t) (.type "str") = some false ∧ PySem.W.kitOne K (.type t) (.type "tuple") = some false := by
  refine ⟨kit_ty (by decide +kernel), kit_ty (by decide +kernel), kit_ty (by decide +kernel), kit_ty (by decide +kernel), ?_⟩
  rintro t (rfl | rfl | rfl)
  · exact ⟨kit_ty (by decide +kernel), kit_ty (by decide +kernel)⟩
  · exact ⟨kit_ty (by decide +kernel), kit_ty (by decide +kernel)⟩
  · exact ⟨kit_ty (by decide +kernel), kit_ty (by decide +kernel)⟩
theorem dv_strs {H : Hp} {l m n : Nat} {a : Addr} {ss : List Str} (h : H a = some (.tup (ss.map V.str))) (hm : ss.length ≤ m) (hl : ∀ s ∈ ss, s.length ≤ l) : DV H l m (n + 2) (.ref a) :=
  DV.mk h (by rw [List.length_map]; exact hm) fun x hx => by
    obtain ⟨s, hs, rfl⟩ := List.mem_map.mp hx
    exact .str (hl s hs)
theorem dv_of_hs {H : Hp} {l m : Nat} {h : Addr} {ss : List Str} {rows : List (List Str)} (x : HS H h ss rows) (hm : 3 ≤ m) (h1 : ss.length ≤ m) (h2 : rows.length ≤ m) (h3 : ∀ r ∈ rows, r.length ≤ m) (l1 : ∀ s ∈ ss, s.length ≤ l) (l2 : ∀ r ∈ rows, ∀ s ∈ r, s.length ≤ l) : DV H l m 4 (.ref h) := by
  obtain ⟨r, d, e1, e2, as, e3, hR⟩ := x
  refine DV.mk e1 (by show 2 ≤ m; omega) fun y hy => ?_
  rcases List.mem_cons.mp hy with rfl | hy
  · exact dv_strs e2 h1 l1
  · rw [List.mem_singleton.mp hy]
    refine DV.mk e3 (by rw [List.length_map, hR.1]; exact h2) fun z hz => ?_
    obtain ⟨i, hi⟩ := List.getElem?_of_mem hz
    obtain ⟨a, q, rfl, hq, ha⟩ := hR.row hi
    exact dv_strs ha (h3 q (List.mem_of_getElem? hq)) (l2 q (List.mem_of_getElem? hq))
/-! ### whether data are a state -/
def bFace (rows : List (List Str)) (pre : List Str) (x : Str) : Option (Str × Nat) := if x ∈ (rows.getD pre.length []).tail then none else some ("face", pre.length)
def lastW (pre : List (List Str)) : Str := (pre.map hd0).getLastD ""
def bPlace (rooms : List Str) (pre : List (List Str)) (p : List Str) : Option (Str × Nat) :=
  if Nm (hd0 p) ∧ (lastW pre).cps.toList < (hd0 p).cps.toList then (if p.getD 1 "" ∈ rooms then none else some ("room", pre.length)) else some ("walker", pre.length)
def sM (rooms : List Str) (rows : List (List Str)) (faces : List Str) (places : List (List Str)) : Option (Str × Nat) :=
  if faces.length = rows.length then (if places.length ≤ 5 then (match fstB (bFace rows) [] faces with
    | some b => some b
    | none => fstB (bPlace rooms) [] places) else some ("many", 0)) else some ("form", 0)
def vS (rooms : List Str) (rows : List (List Str)) (d : PyData) : Option (Str × Nat) := if shp 2 d = true then sM rooms rows (strsD (fstD d)) (rowsD (sndD d)) else some (("form" : Str), 0)
theorem vS_hs {rooms : List Str} {rows : List (List Str)} {ss : List Str} {ps : List (List Str)} (h : ∀ r ∈ ps, r.length = 2) : vS rooms rows (hsD ss ps) = sM rooms rows ss ps := by
  unfold vS
  rw [if_pos (shp_hs h)]
  show sM rooms rows (strsD (sD ss)) ((ps.map sD).map strsD) = _
  rw [strsD_sD, List.map_map, show (strsD ∘ sD) = id from funext strsD_sD, List.map_id]
theorem vS_form {rooms : List Str} {rows : List (List Str)} {d : PyData} (h : ¬ shp 2 d = true) : vS rooms rows d = some (("form" : Str), 0) := if_neg h
def WAt (H : Hp) (y : V) (o : Option (Str × Nat)) : Prop := match o with
  | none => y = .non
  | some (s, k) => ∃ t, y = .ref t ∧ H t = some (.tup [.str s, .int (k : Nat)])
def wD : Option (Str × Nat) → PyData
  | none => .none
  | some (s, k) => .tuple [.str s, .int (k : Nat)]
theorem WAt.dp {K : PySem.W.Frag} {H : Hp} {y : V} {o : Option (Str × Nat)} (h : WAt H y o) : Dp K H y (wD o) := by
  cases o with
  | none => cases h; exact .non
  | some b =>
    obtain ⟨s, k⟩ := b
    obtain ⟨t, rfl, ht⟩ := h
    exact .tup (SqT.of ht) (.cons (.str _) (.cons (.int _) .nil))
theorem WAt.tu {H H' : Hp} {y : V} {o : Option (Str × Nat)} (x : Tu H H') (h : WAt H y o) : WAt H' y o := by
  cases o with
  | none => exact h
  | some b =>
    obtain ⟨t, e, ht⟩ := h
    exact ⟨t, e, x _ _ ht⟩
def okW (b : Str × Nat) : Prop := b.1 ∈ wds ∧ b.2 < 1000
theorem vS_ok {rooms : List Str} {rows : List (List Str)} {d : PyData} {b : Str × Nat} (h : vS rooms rows d = some b) : b.1 ∈ wds := by
  unfold vS at h
  split at h
  · unfold sM at h
    split at h
    · split at h
      · rename_i h1 h2
        cases hr : fstB (bFace rows) [] (strsD (fstD d)) with
        | some c =>
          rw [hr] at h
          cases h
          obtain ⟨l1, x, e, hl⟩ := fstB_mem hr
          unfold bFace at e
          split at e
          · cases e
          · cases e
            exact (show ("face" : Str) ∈ wds by decide +kernel)
        | none =>
          rw [hr] at h
          obtain ⟨l1, x, e, hl⟩ := fstB_mem h
          unfold bPlace at e
          split at e
          · split at e
            · cases e
            · cases e
              exact (show ("room" : Str) ∈ wds by decide +kernel)
          · cases e
            exact (show ("walker" : Str) ∈ wds by decide +kernel)
      · cases h
        exact (show ("many" : Str) ∈ wds by decide +kernel)
    · cases h
      exact (show ("form" : Str) ∈ wds by decide +kernel)
  · cases h
    exact (show ("form" : Str) ∈ wds by decide +kernel)
theorem wD_shaped {o : Option (Str × Nat)} (h : ∀ b, o = some b → b.1 ∈ wds) : SeqAt.shaped (wD o) = true := by
  cases o with
  | none => decide
  | some b =>
    obtain ⟨s, k⟩ := b
    have e : PyData.strOk s = true := (show ∀ s ∈ wds, PyData.strOk s = true by decide +kernel) s (h _ rfl)
    unfold SeqAt.shaped
    have c : (wD (some (s, k))).canLay0 = true := by
      simp only [wD, PyData.canLay0, PyData.canLayAll0, e, Bool.and_true]
    have dd : (wD (some (s, k))).depth ≤ 64 := by
      simp [wD, PyData.depth, PyData.depthAll]
    rw [c, decide_eq_true dd]
    rfl
theorem wD_eqv (o : Option (Str × Nat)) : PyData.eqv (wD o) (wD o) = true := by
  cases o with
  | none => simp [wD, PyData.eqv]
  | some b =>
    obtain ⟨s, k⟩ := b
    simp [wD, PyData.eqv, PyData.eqvAll]
/-! ### promises -/
def spValS (K : PySem.W.Frag) : Sp := fun vs H Q E => ∃ (h : Addr) (x : V) (d : PyData) (m n : Nat) (rooms : List Str) (rows : List (List Str)), vs = [.ref h, x] ∧ HS H h rooms rows ∧ HallV rooms rows ∧ DM H m n x d ∧ m ≤ 900 ∧
  (vS rooms rows d = none → ∀ H', Same H H' → Q (.bl true) H') ∧ ∀ b, vS rooms rows d = some b → errV3 K E "InvalidState" b H
def spCkF (K : PySem.W.Frag) : Sp := fun vs H Q E => ∃ (h f : Addr) (ss : List Str) (rooms : List Str) (rows : List (List Str)), vs = [.ref h, .ref f] ∧ HS H h rooms rows ∧ HallV rooms rows ∧ H f = some (.tup (ss.map V.str)) ∧ ss.length = rows.length ∧
  (fstB (bFace rows) [] ss = none → ∀ H', Same H H' → Q .non H') ∧ ∀ b, fstB (bFace rows) [] ss = some b → errV3 K E "InvalidState" b H
def spCkP (K : PySem.W.Frag) : Sp := fun vs H Q E => ∃ (r d : Addr) (rooms : List Str) (ps : List (List Str)), vs = [.ref r, .ref d] ∧ H r = some (.tup (rooms.map V.str)) ∧ Rows H d ps ∧ (∀ r ∈ ps, r.length = 2 ∧ ∀ s ∈ r, s.length ≤ 100) ∧
  (fstB (bPlace rooms) [] ps = none → ∀ H', Same H H' → Q .non H') ∧ ∀ b, fstB (bPlace rooms) [] ps = some b → errV3 K E "InvalidState" b H
def spWAt : Sp := fun vs H Q _ => ∃ (h : Addr) (x : V) (d : PyData) (m n : Nat) (rooms : List Str) (rows : List (List Str)), vs = [.ref h, x] ∧ HS H h rooms rows ∧ HallV rooms rows ∧ DM H m n x d ∧ m ≤ 900 ∧ ∀ y H', Same H H' → WAt H' y (vS rooms rows d) → Q y H'
def spPairs : Sp := fun vs H Q _ => ∃ (a : Addr) (d : PyData) (m n : Nat), vs = [.ref a] ∧ DM H m n (.ref a) d ∧ m ≤ 900 ∧ ∀ H', Same H H' → Q (.bl (isGs 2 d)) H'
def spSgn : Sp := fun vs H Q _ => ∃ b : Addr, vs = [.ref b] ∧ Box H b ∧ ∀ (s : Str) H', s.length = 1 → Box H' b → Ch b H H' → Q (.str s) H'
def spThing : Sp := fun vs H Q _ => ∃ (b h : Addr) (x : V) (l m n : Nat) (rooms : List Str) (rows : List (List Str)), vs = [.ref b, .ref h, x] ∧ Box H b ∧ HS H h rooms rows ∧ HallV rooms rows ∧ DV H l m n x ∧ 8 ≤ l ∧ l ≤ 90 ∧ 13 ≤ m ∧ m ≤ 800 ∧ 4 ≤ n ∧
  ∀ y H', DV H' (l + 1) m (n + 1) y → Box H' b → Ch b H H' → Q y H'
def spOthP : Sp := fun vs H Q _ => ∃ (b h p : Addr) (xs : List V) (l m n : Nat) (rooms : List Str) (rows : List (List Str)), vs = [.ref b, .ref h, .ref p] ∧ Box H b ∧ p ≠ b ∧ HS H h rooms rows ∧ HallV rooms rows ∧ H p = some (.lst xs) ∧ (∀ x ∈ xs, DV H l m n x) ∧ xs.length ≤ m ∧ 8 ≤ l ∧ l ≤ 90 ∧ 13 ≤ m ∧ m ≤ 800 ∧ 5 ≤ n ∧
  ∀ q ys H', H' q = some (.lst ys) → (∀ y ∈ ys, DV H' (l + 1) m (n + 1) y) → ys.length ≤ m + 6 → Box H' b → Ch b H H' → Q (.ref q) H'
def spChgS : Sp := fun vs H Q _ => ∃ (b h : Addr) (x : V) (l m n : Nat) (rooms : List Str) (rows : List (List Str)), vs = [.ref b, .ref h, x] ∧ Box H b ∧ HS H h rooms rows ∧ HallV rooms rows ∧ DV H l m n x ∧ 8 ≤ l ∧ l ≤ 90 ∧ 13 ≤ m ∧ m ≤ 800 ∧ 8 ≤ n ∧
  ∀ y H', DV H' (l + 1) (m + 6) (n + 1) y → Box H' b → Ch b H H' → Q y H'
end Td
set_option maxHeartbeats 4000000
namespace Td
open PySem PySem.Spec PyProof.Rows L2
/-! ### xs[::e], e 1 or -1 -/
def tStepL (K : PySem.W.Frag) (te ts : TE) : TE := fun σ H Q => te σ H fun x H1 => ∃ a xs, x = .ref a ∧ tPart ts σ H1 fun o H2 => ∃ j : Int, o = some j ∧ (j = 1 ∨ j = -1) ∧ SqL K H2 a xs ∧ ∀ p, H2 p = none → Q (.ref p) (L2.upd H2 p (.lst (if j = 1 then xs else xs.reverse)))
theorem pick_one (items : Array Value) : slicePick items none none (some 1) = slicePick items none none none := rfl
theorem cut_all (xs : List V) : cutV xs none none = xs := by
  unfold cutV
  rw [HT.sIx_none, HT.sIx_none, List.drop_zero, Nat.sub_zero, List.take_length]
theorem pe_stepL {X : Cx} {e f : Expr} {te ts : TE} {p3 pos : Pos} (he : PE X e te) (hf : PE X f ts) : PE X (.Subscript e (.Slice none none (some f) p3) pos) (tStepL X.K te ts) := by
  refine ⟨fun pins s σ H Q I h => ?_⟩
  refine Subscript_ (thn (he.run pins s σ H _ I h) fun v s1 ⟨x, H1, I1, r1, q1⟩ => ?_)
  obtain ⟨a, xs, ex, q⟩ := q1
  subst ex
  cases r1
  have hst : PO X (some f) (tPart ts) := po_some hf
  refine wpAny_Slice (thn (po_none.run pins s1 σ H1 (fun o H2 => o = none ∧ H2 = H1) I1 ⟨rfl, rfl⟩) fun vl s2 ⟨l, H2, I2, pl, el, e2⟩ => ?_)
  subst el e2
  refine thn (po_none.run pins s2 σ H2 (fun o H3 => o = none ∧ H3 = H2) I2 ⟨rfl, rfl⟩) fun vu s3 ⟨u, H3, I3, pu, eu, e3⟩ => ?_
  subst eu e3
  refine thn (hst.run pins s3 σ H3 _ I3 q) fun vs s4 ⟨o, H4, I4, ps, j, eo, hj, hx, q⟩ => ?_
  subst eo
  have I5 : Inv X pins σ H4 { s4 with heap := s4.heap.push { cls := .type "slice", data := .fields #[vl, vu, vs] } } := I4.kept (t' := s4.toks) fun b ob q => Heap.get?_push_of_some _ q
  obtain ⟨its, r, ht, hz⟩ := I5.list hx
  have hlen := r.length
  show wpAny (model X.prog X.w) X.A (subscriptTail e (.Slice none none (some f) p3) (.ref a) (.ref s4.heap.objs.size)) (EP X pins σ Q) X.xe { s4 with heap := s4.heap.push { cls := .type "slice", data := .fields #[vl, vu, vs] } }
  refine tail_any (ops := [.ref a, .ref s4.heap.objs.size]) ht.isList.typeIs (PySem.slot_list_getitem.lookup) ?_ (by with_unfolding_all rfl)
  rcases hj with rfl | rfl
  · refine wpAny_getItem_list_slice ht.isList (Heap.IsSliceOf.new _ vl vu vs) pl pu ps (by decide) ?_ (by rw [List.size_toArray]; omega)
    rw [pick_one, slicePick_cut, ← hlen]
    have e2 : ((its.drop (HT.sIx xs.length 0 none)).take (HT.sIx xs.length xs.length none - HT.sIx xs.length 0 none)) = its := by
      rw [HT.sIx_none, HT.sIx_none, List.drop_zero, Nat.sub_zero, hlen, List.take_length]
    refine ⟨.ref _, _, I5.laid (t' := s4.toks) (o := .lst xs) (fun b ob q => Heap.get?_push_of_some _ q) (Nat.le_refl _) ?_, rfl, q _ (I5.hok.fresh (Nat.le_refl _))⟩
    exact ⟨hz, its, 0, r, by rw [e2]; exact Heap.get?_push_size _ rfl⟩
  · refine wpAny_getItem_list_slice ht.isList (Heap.IsSliceOf.new _ vl vu vs) pl pu ps (by decide) ?_ (by rw [List.size_toArray]; omega)
    rw [PySem.W.krv_pick]
    refine ⟨.ref _, _, I5.laid (t' := s4.toks) (o := .lst xs.reverse) (fun b ob q => Heap.get?_push_of_some _ q) (Nat.le_refl _) ?_, rfl, q _ (I5.hok.fresh (Nat.le_refl _))⟩
    exact ⟨by rw [List.length_reverse]; exact hz, _, 0, r.reverse, Heap.get?_push_size _ rfl⟩
/-! ### slices and sums of tuples -/
theorem cut_full {xs : List V} {lo hi : Option Int} (h : HT.sIx xs.length 0 lo = 0 ∧ HT.sIx xs.length xs.length hi = xs.length) : cutV xs lo hi = xs := by
  unfold cutV
  rw [h.1, h.2, List.drop_zero, Nat.sub_zero, List.take_length]
theorem slA {K : PySem.W.Frag} {H : Hp} {a : Addr} {xs : List V} {lo hi : Option Int} {Q : VK} (h : SqT K H a xs) (hc : ∀ p H', Same H H' → (H' p = some (.tup (cutV xs lo hi)) ∨ (p = a ∧ H' = H ∧ cutV xs lo hi = xs)) → Q (.ref p) H') : rSlA K (.ref a) lo hi H Q :=
  ⟨a, xs, rfl, h, fun z => hc a H (Same.refl H) (.inr ⟨rfl, rfl, cut_full z⟩), fun _ p hp => hc p _ (same_new hp _) (.inl upd_same)⟩
theorem slT {K : PySem.W.Frag} {H : Hp} {a : Addr} {xs ys : List V} {lo hi : Option Int} {Q : VK} (h : H a = some (.tup xs)) (e : cutV xs lo hi = ys) (hc : ∀ p H', Same H H' → H' p = some (.tup ys) → Q (.ref p) H') : rSlA K (.ref a) lo hi H Q :=
  slA (SqT.of h) fun p H' s z => hc p H' s (by
    rcases z with z | ⟨rfl, rfl, z⟩
    · rw [← e]; exact z
    · rw [← e, z]; exact h)
theorem slTN {K : PySem.W.Frag} {σ : L2.St} {H : Hp} {a : Addr} {xs ys : List V} {lo : Option Int} {Q : VK} (h : H a = some (.tup xs)) (e : cutV xs lo none = ys) (hc : ∀ p H', Same H H' → H' p = some (.tup ys) → Q (.ref p) H') : tNoPart σ H (fun u H3 => rSlA K (.ref a) lo u H3 Q) := slT h e hc
theorem catT {K : PySem.W.Frag} {H : Hp} {a b : Addr} {xs ys : List V} {Q : VK} (ha : H a = some (.tup xs)) (hb : H b = some (.tup ys)) (hl : xs.length + ys.length ≤ 1000) (hc : ∀ p H', Same H H' → H' p = some (.tup (xs ++ ys)) → Q (.ref p) H') : rCatA K (.ref a) (.ref b) H Q :=
  ⟨a, b, xs, ys, rfl, rfl, SqT.of ha, SqT.of hb, Nat.le_of_lt (sz100 hl), fun e => hc b H (Same.refl H) (by rw [e]; exact hb), fun _ e => hc a H (Same.refl H) (by rw [e, List.append_nil]; exact ha), fun _ _ p hp => hc p _ (same_new hp _) upd_same⟩
end Td
set_option maxHeartbeats 4000000
namespace Td
open PySem PySem.Spec PyProof.Rows L2
section
variable {P : Program} {w : World} {K : PySem.W.Frag} {mg : Str → Option Value} {base : Heap} {f : Addr} {fd : FuncData}
abbrev s_is_name : Stmt := top 5
abbrev n_is_name : List Str := ["value", "letter"]
theorem sc_is_name : FnScope n_is_name ["value"] (defScope s_is_name) := ⟨rfl, rfl, rfl, by decide +kernel, rfl, by decide +kernel, by decide +kernel⟩
theorem ok_is_name (F : FnP K "is_name" s_is_name f fd) (hm : mg "is_name" = some (.ref f)) (m_all : mg "all" = none) (m_isinstance : mg "isinstance" = none) (m_len : mg "len" = none) (m_str : mg "str" = none) (g_LETTERS : ∃ t, mg "_LETTERS" = some (.int 6 t)) :
    Cal P w K mg base 1 "is_name" spIsNm := by
  refine cal_of (F.ok sc_is_name (fun vs H Q E h => ?_) (fun cdv A outer s H vs Q E hr h => ?_)) hm F.kp (F.bindsN (ps := ["value"]) fun _ _ _ _ _ _ us hl => match us, hl with | [_], _ => rfl)
  · obtain ⟨v, d, m, n, rfl, hd, q0⟩ := h
    rfl
  obtain ⟨v, d, m, n, rfl, hd, q0⟩ := h
  have nd := sc_is_name.nd
  refine ⟨_, PSs.nox (pss_cons (ps_if (PW.pt (pw_or (pt_not (pt_val (pe_callB (r := rIsi K) call_isi (by rfl) m_isinstance (by decide +kernel) (pa_cons (pv 0) (pa_cons (pe_bltn (by rfl) m_str (by decide +kernel) (show L2.RelV (.ty "str") (.type "str") from rfl)) pa_nil))))) (pw_or1 (pt_not (pt_chain op_le op_le pe_int (pe_callB call_len_str (by rfl) m_len PySem.boot_len (pa_cons (pv 0) pa_nil)) (pe_gint (by rfl) g_LETTERS)))))) (pss_one (ps_ret pe_bl)) pss_nil)
    (pss_one (ps_ret (pe_callB (r := rAll K) (cr_all rfl) (by rfl) m_all (by decide +kernel) (pa_cons (pe_lc (own := [("letter", 1)]) (g := (gName 1)) (by rfl) nd (pi_str (pv 0)) (blkOk_by (own := [("letter", 1)]) (N := n_is_name) (sc := defScope s_is_name) (by decide +kernel)) (fun _ _ _ _ _ => (pg_name (i := 1) nd rfl (Or.inl rfl))) (fun _ _ _ _ _ => pts_nil) (fun _ _ _ _ _ => (pe_chain op_le_str op_le_str pe_str (pv 1) pe_str))) pa_nil))))), ?_⟩
  refine ⟨_, rfl, v, .ty "str", .type (tyD d), .type "str", isS d, rfl, .ty _, dm_ty hd, kit_sD d, _, rfl, ?_⟩
  cases hs : isS d with
  | false =>
    refine iteT ?_
    have z := q0 H (Same.refl H)
    have e : nmD d = false := by cases d <;> first | rfl | (exact absurd (show true = false from hs) (by decide))
    rw [e] at z
    exact z
  | true =>
  obtain ⟨x, rfl, rfl, hl⟩ := dm_str hd hs
  have q : ∀ H', Same H H' → Q (.bl (decide (Nm x))) H' := q0
  have no : ¬ (1 ≤ x.length ∧ x.length ≤ 6) → Q (.bl false) H := fun h => by
    have e : decide (Nm x) = false := decide_eq_false fun z => h ⟨z.1, z.2.1⟩
    have z := q H (Same.refl H)
    rw [e] at z
    exact z
  refine iteF ?_
  refine ⟨_, rfl, x, rfl, Nat.le_trans hl (by decide), _, _, rfl, rfl, _, rfl, ?_⟩
  by_cases g1 : (1 : Int) ≤ (x.length : Int)
  · rw [decide_eq_true g1]
    refine iteT ⟨_, _, rfl, rfl, _, rfl, ?_⟩
    by_cases g2 : (x.length : Int) ≤ 6
    · rw [decide_eq_true g2]
      refine iteF ?_
      have hx : x.cps.size ≤ 6 := by
        have e : x.length = x.cps.size := rfl
        omega
      refine ⟨_, rfl, _, rfl, fun D hD => ?_⟩
      refine lc_gen (n := x.cps.size) (fun i Hx => Hx = upd H D (.lst (((x.cps.toList.take i).map fun c => decide (97 ≤ c) && decide (c ≤ 122)).map V.bl))) rfl (fun i Hx hi e => ⟨hi, ?_⟩) (fun Hx e => ⟨Nat.le_refl _, ?_⟩)
      · rintro _ _ ⟨rfl, c, hc, rfl⟩
        subst e
        refine ⟨rfl, lcY ?_⟩
        have hc2 : x.cps.toList[i]? = some c := by rw [Array.getElem?_toList]; exact hc
        have la : (!decide (({ cps := #[c] } : Str).cps.toList < ("a" : Str).cps.toList)) = decide (97 ≤ c) := by
          have e1 : ("a" : Str).cps.toList = [97] := by decide
          have e2 : ({ cps := #[c] } : Str).cps.toList = [c] := rfl
          rw [e1, e2]
          by_cases h : c < 97
          · have h1 : [c] < [97] := List.Lex.rel h
            rw [decide_eq_true h1, decide_eq_false (by omega)]
            rfl
          · have h1 : ¬ [c] < [97] := fun z => by
              cases z with
              | rel z => exact h z
              | cons z => cases z
            rw [decide_eq_false h1, decide_eq_true (by omega)]
            rfl
        have lz : (!decide (("z" : Str).cps.toList < ({ cps := #[c] } : Str).cps.toList)) = decide (c ≤ 122) := by
          have e1 : ("z" : Str).cps.toList = [122] := by decide
          have e2 : ({ cps := #[c] } : Str).cps.toList = [c] := rfl
          rw [e1, e2]
          by_cases h : 122 < c
          · have h1 : [122] < [c] := List.Lex.rel h
            rw [decide_eq_true h1, decide_eq_false (by omega)]
            rfl
          · have h1 : ¬ [122] < [c] := fun z => by
              cases z with
              | rel z => exact h z
              | cons z => cases z
            rw [decide_eq_false h1, decide_eq_true (by omega)]
            rfl
        have fin : ∀ v : Bool, v = (decide (97 ≤ c) && decide (c ≤ 122)) → ∃ acc, (upd H D (.lst (((x.cps.toList.take i).map fun c => decide (97 ≤ c) && decide (c ≤ 122)).map V.bl))) D = some (.lst acc) ∧ acc.length < sizeLine ∧
            upd (upd H D (.lst (((x.cps.toList.take i).map fun c => decide (97 ≤ c) && decide (c ≤ 122)).map V.bl))) D (.lst (acc ++ [.bl v])) = upd H D (.lst (((x.cps.toList.take (i + 1)).map fun c => decide (97 ≤ c) && decide (c ≤ 122)).map V.bl)) := fun v hv => by
          refine ⟨_, upd_same, ?_, ?_⟩
          · rw [List.length_map, List.length_map, List.length_take]
            exact sz100 (by omega)
          · rw [upd_upd, take_snoc hc2, List.map_append, List.map_append, hv]
            rfl
        refine ⟨_, rfl, _, _, rfl, rfl, _, rfl, ?_⟩
        rw [la]
        by_cases h : 97 ≤ c
        · rw [decide_eq_true h]
          refine iteT ⟨_, _, rfl, rfl, ?_⟩
          rw [lz]
          exact fin _ (by rw [decide_eq_true h]; rfl)
        · rw [decide_eq_false h]
          refine iteF ?_
          exact fin _ (by rw [decide_eq_false h]; rfl)
      · subst e
        refine ⟨D, _, rfl, SqL.of upd_same, ?_⟩
        have et : (((x.cps.toList.take x.cps.size).map fun c => decide (97 ≤ c) && decide (c ≤ 122)).all id) = decide (Nm x) := by
          have e1 : x.cps.toList.take x.cps.size = x.cps.toList := List.take_of_length_le (by rw [Array.length_toList]; exact Nat.le_refl _)
          rw [e1]
          by_cases h : ∀ c ∈ x.cps.toList, 97 ≤ c ∧ c ≤ 122
          · have hn : Nm x := ⟨by omega, by omega, h⟩
            rw [decide_eq_true hn, List.all_eq_true]
            intro b hb
            obtain ⟨c, hc, rfl⟩ := List.mem_map.mp hb
            obtain ⟨h1, h2⟩ := h c hc
            show (decide (97 ≤ c) && decide (c ≤ 122)) = true
            rw [decide_eq_true h1, decide_eq_true h2]
            rfl
          · have hn : ¬ Nm x := fun z => h z.2.2
            rw [decide_eq_false hn]
            cases hb : (x.cps.toList.map fun c => decide (97 ≤ c) && decide (c ≤ 122)).all id with
            | false => rfl
            | true =>
              refine absurd (fun c hc => ?_) h
              have z := List.all_eq_true.mp hb _ (List.mem_map.mpr ⟨c, hc, rfl⟩)
              have y : (decide (97 ≤ c) && decide (c ≤ 122)) = true := z
              rw [Bool.and_eq_true, decide_eq_true_eq, decide_eq_true_eq] at y
              exact y
        rw [et]
        exact q _ (same_new hD _)
    · rw [decide_eq_false g2]
      exact iteT (no fun z => g2 (by omega))
  · rw [decide_eq_false g1]
    refine iteF ⟨_, rfl, ?_⟩
    exact iteT (no fun z => g1 (by omega))
theorem isSs_no {d : PyData} (h : isT d = false) : isSs d = false := by
  cases d <;> first | rfl | (exact absurd (show true = false from h) (by decide))
theorem isGs_no {k : Nat} {d : PyData} (h : isT d = false) : isGs k d = false := by
  cases d <;> first | rfl | (exact absurd (show true = false from h) (by decide))
theorem shp_no {k : Nat} {d : PyData} (h : isT d = false) : shp k d = false := by
  cases d <;> first | rfl | (exact absurd (show true = false from h) (by decide))
abbrev s_is_strings : Stmt := top 6
abbrev n_is_strings : List Str := ["value", "item"]
theorem sc_is_strings : FnScope n_is_strings ["value"] (defScope s_is_strings) := ⟨rfl, rfl, rfl, by decide +kernel, rfl, by decide +kernel, by decide +kernel⟩
theorem ok_is_strings (F : FnP K "is_strings" s_is_strings f fd) (hm : mg "is_strings" = some (.ref f)) (m_all : mg "all" = none) (m_isinstance : mg "isinstance" = none) (m_str : mg "str" = none) (m_tuple : mg "tuple" = none) :
    Cal P w K mg base 1 "is_strings" spStrsD := by
  refine cal_of (F.ok sc_is_strings (fun vs H Q E h => ?_) (fun cdv A outer s H vs Q E hr h => ?_)) hm F.kp (F.bindsN (ps := ["value"]) fun _ _ _ _ _ _ us hl => match us, hl with | [_], _ => rfl)
  · obtain ⟨v, d, m, n, rfl, hd, hm9, q⟩ := h
    rfl
  obtain ⟨v, d, m, n, rfl, hd, hm9, q⟩ := h
  have nd := sc_is_strings.nd
  refine ⟨_, PSs.nox (pss_one (ps_ret (pe_and (pe_callB (r := rIsi K) call_isi (by rfl) m_isinstance (by decide +kernel) (pa_cons (pv 0) (pa_cons (pe_bltn (by rfl) m_tuple (by decide +kernel) (show L2.RelV (.ty "tuple") (.type "tuple") from rfl)) pa_nil))) (pe_one (pe_callB (r := rAll K) (cr_all rfl) (by rfl) m_all (by decide +kernel) (pa_cons (pe_lc (own := [("item", 1)]) (g := (gName 1)) (by rfl) nd (pi_tup (pv 0)) (blkOk_by (own := [("item", 1)]) (N := n_is_strings) (sc := defScope s_is_strings) (by decide +kernel)) (fun _ _ _ _ _ => (pg_name (i := 1) nd rfl (Or.inl rfl))) (fun _ _ _ _ _ => pts_nil) (fun _ _ _ _ _ => (pe_callB (r := rIsi K) call_isi (by rfl) m_isinstance (by decide +kernel) (pa_cons (pv 1) (pa_cons (pe_bltn (by rfl) m_str (by decide +kernel) (show L2.RelV (.ty "str") (.type "str") from rfl)) pa_nil))))) pa_nil)))))), ?_⟩
  refine ⟨_, rfl, v, .ty "tuple", .type (tyD d), .type "tuple", isT d, rfl, .ty _, dm_ty hd, kit_tD d, _, rfl, ?_⟩
  cases ht : isT d with
  | false =>
    refine iteF ?_
    have z := q H (Same.refl H)
    rw [isSs_no ht] at z
    exact z
  | true =>
  obtain ⟨n', a, xs, ds, rfl, rfl, rfl, ha, hl, hlm, hi⟩ := dm_tup hd ht
  refine iteT ?_
  refine ⟨_, rfl, a, rfl, ⟨_, SqT.of ha⟩, fun D hD => ?_⟩
  refine lc_tup (K := K) (a := a) (xs := xs) (fun i Hx => Same H Hx ∧ Hx D = some (.lst (((ds.take i).map isS).map V.bl))) ⟨same_new hD _, upd_same⟩ (fun i Hx _ ⟨sx, _⟩ => SqT.of (sx _ _ ha)) (fun i y Hx hy ⟨sx, hDx⟩ => ?_) (fun Hx ⟨sx, hDx⟩ => ?_)
  · have hil : i < ds.length := by rw [← hl]; exact (List.getElem?_eq_some_iff.mp hy).1
    have he : ds[i]? = some ds[i] := List.getElem?_eq_getElem hil
    have hd2 := hi i y _ hy he
    refine ⟨rfl, lcY ?_⟩
    refine ⟨_, rfl, y, .ty "str", .type (tyD ds[i]), .type "str", isS ds[i], rfl, .ty _, dm_ty (hd2.tu (Tu.same sx)), kit_sD _, _, hDx, ?_, same_mut sx hD _, ?_⟩
    · rw [List.length_map, List.length_map, List.length_take]
      exact sz100 (by omega)
    · rw [upd_same, take_snoc he, List.map_append, List.map_append]
      rfl
  · rw [hl, List.take_length] at hDx
    refine ⟨D, _, rfl, SqL.of hDx, ?_⟩
    have e : ((ds.map isS).all id) = isSs (.tuple ds) := by
      rw [List.all_map]
      rfl
    rw [e]
    exact q _ sx
abbrev s_is_groups : Stmt := top 7
abbrev n_is_groups : List Str := ["value", "width", "group"]
theorem sc_is_groups : FnScope n_is_groups ["value", "width"] (defScope s_is_groups) := ⟨rfl, rfl, rfl, by decide +kernel, rfl, by decide +kernel, by decide +kernel⟩
theorem ok_is_groups (F : FnP K "is_groups" s_is_groups f fd) (hm : mg "is_groups" = some (.ref f)) (c_is_strings : Cal P w K mg base 1 "is_strings" spStrsD) (m_all : mg "all" = none) (m_isinstance : mg "isinstance" = none) (m_len : mg "len" = none) (m_tuple : mg "tuple" = none) :
    Cal P w K mg base 2 "is_groups" spGrpsD := by
  refine cal_of (F.ok sc_is_groups (fun vs H Q E h => ?_) (fun cdv A outer s H vs Q E hr h => ?_)) hm F.kp (F.bindsN (ps := ["value", "width"]) fun _ _ _ _ _ _ us hl => match us, hl with | [_, _], _ => rfl)
  · obtain ⟨v, d, m, n, k, rfl, hd, hm9, q⟩ := h
    rfl
  obtain ⟨v, d, m, n, k, rfl, hd, hm9, q⟩ := h
  have nd := sc_is_groups.nd
  refine ⟨_, PSs.nox (pss_cons (ps_if (pt_not (pt_val (pe_callB (r := rIsi K) call_isi (by rfl) m_isinstance (by decide +kernel) (pa_cons (pv 0) (pa_cons (pe_bltn (by rfl) m_tuple (by decide +kernel) (show L2.RelV (.ty "tuple") (.type "tuple") from rfl)) pa_nil))))) (pss_one (ps_ret pe_bl)) pss_nil)
    (pss_one (ps_ret (pe_callB (r := rAll K) (cr_all rfl) (by rfl) m_all (by decide +kernel) (pa_cons (pe_lc (own := [("group", 2)]) (g := (gName 2)) (by rfl) nd (pi_tup (pv 0)) (blkOk_by (own := [("group", 2)]) (N := n_is_groups) (sc := defScope s_is_groups) (by decide +kernel)) (fun _ _ _ _ _ => (pg_name (i := 2) nd rfl (Or.inl rfl))) (fun _ _ _ _ _ => pts_nil) (fun _ _ _ _ _ => (pe_and (C8.pe_c c_is_strings hr (by omega) (by rfl) (pa_cons (pv 2) pa_nil)) (pe_one (pe_cmpR op_eq (pe_callB (r := rLn K) call_len_seq (by rfl) m_len PySem.boot_len (pa_cons (pv 2) pa_nil)) (pv 1) (nomark _)))))) pa_nil))))), ?_⟩
  refine ⟨_, rfl, v, .ty "tuple", .type (tyD d), .type "tuple", isT d, rfl, .ty _, dm_ty hd, kit_tD d, _, rfl, ?_⟩
  cases ht : isT d with
  | false =>
    refine iteT ?_
    have z := q H (Same.refl H)
    rw [isGs_no ht] at z
    exact z
  | true =>
  obtain ⟨n', a, xs, ds, rfl, rfl, rfl, ha, hl, hlm, hi⟩ := dm_tup hd ht
  refine iteF ?_
  refine ⟨_, rfl, a, rfl, ⟨_, SqT.of ha⟩, fun D hD => ?_⟩
  refine lc_tup (K := K) (a := a) (xs := xs) (fun i Hx => Same H Hx ∧ Hx D = some (.lst (((ds.take i).map fun e => isSs e && decide (lenD e = k)).map V.bl))) ⟨same_new hD _, upd_same⟩ (fun i Hx _ ⟨sx, _⟩ => SqT.of (sx _ _ ha)) (fun i y Hx hy ⟨sx, hDx⟩ => ?_) (fun Hx ⟨sx, hDx⟩ => ?_)
  · have hil : i < ds.length := by rw [← hl]; exact (List.getElem?_eq_some_iff.mp hy).1
    have he : ds[i]? = some ds[i] := List.getElem?_eq_getElem hil
    have hd2 := hi i y _ hy he
    have fin : ∀ H2, Same Hx H2 → ∀ b : Bool, b = (isSs ds[i] && decide (lenD ds[i] = k)) → ∃ acc, H2 D = some (.lst acc) ∧ acc.length < sizeLine ∧ Same H (upd H2 D (.lst (acc ++ [.bl b]))) ∧ (upd H2 D (.lst (acc ++ [.bl b]))) D = some (.lst (((ds.take (i + 1)).map fun e => isSs e && decide (lenD e = k)).map V.bl)) := fun H2 s2 b hb => by
      refine ⟨_, s2 _ _ hDx, ?_, same_mut (sx.trans s2) hD _, ?_⟩
      · rw [List.length_map, List.length_map, List.length_take]
        exact sz100 (by omega)
      · rw [upd_same, take_snoc he, List.map_append, List.map_append, hb]
        rfl
    refine ⟨rfl, lcY ?_⟩
    refine ⟨_, rfl, y, _, m, n', rfl, hd2.tu (Tu.same sx), hm9, fun H' s' => ⟨_, rfl, ?_⟩⟩
    cases hs : isSs ds[i] with
    | false =>
      refine iteF ?_
      exact fin H' s' false (by rw [hs]; rfl)
    | true =>
      refine iteT ?_
      have ht2 : isT ds[i] = true := by
        cases z : isT ds[i] with
        | true => rfl
        | false => rw [isSs_no z] at hs; cases hs
      obtain ⟨n2, b, ys, es, rfl, rfl, e3, hb, hl2, _⟩ := dm_tup hd2 ht2
      refine ⟨_, rfl, b, _, rfl, .inr (SqT.of (s' _ _ (sx _ _ hb))), _, rfl, rfl, ?_⟩
      refine fin H' s' _ ?_
      rw [hs, e3, hl2, Bool.true_and]
      show decide (V.int (es.length : Nat) = V.int (k : Nat)) = decide (es.length = k)
      by_cases c : es.length = k
      · rw [decide_eq_true c, c, decide_eq_true rfl]
      · rw [decide_eq_false c, decide_eq_false fun z => c (by injection z with z; omega)]
  · rw [hl, List.take_length] at hDx
    refine ⟨D, _, rfl, SqL.of hDx, ?_⟩
    have e : ((ds.map fun e => isSs e && decide (lenD e = k)).all id) = isGs k (.tuple ds) := by
      rw [List.all_map]
      rfl
    rw [e]
    exact q _ sx
abbrev s_has_shape : Stmt := top 8
abbrev n_has_shape : List Str := ["value", "width"]
theorem sc_has_shape : FnScope n_has_shape ["value", "width"] (defScope s_has_shape) := ⟨rfl, rfl, rfl, by decide +kernel, rfl, by decide +kernel, by decide +kernel⟩
theorem ok_has_shape (F : FnP K "has_shape" s_has_shape f fd) (hm : mg "has_shape" = some (.ref f)) (c_is_groups : Cal P w K mg base 2 "is_groups" spGrpsD) (c_is_strings : Cal P w K mg base 1 "is_strings" spStrsD) (m_isinstance : mg "isinstance" = none) (m_len : mg "len" = none) (m_tuple : mg "tuple" = none) :
    Cal P w K mg base 3 "has_shape" spShpD := by
  refine cal_of (F.ok sc_has_shape (fun vs H Q E h => ?_) (fun cdv A outer s H vs Q E hr h => ?_)) hm F.kp (F.bindsN (ps := ["value", "width"]) fun _ _ _ _ _ _ us hl => match us, hl with | [_, _], _ => rfl)
  · obtain ⟨v, d, m, n, k, rfl, hd, hm9, q⟩ := h
    rfl
  obtain ⟨v, d, m, n, k, rfl, hd, hm9, q⟩ := h
  have nd := sc_has_shape.nd
  refine ⟨_, PSs.nox (pss_cons (ps_if (PW.pt (pw_or (pt_not (pt_val (pe_callB (r := rIsi K) call_isi (by rfl) m_isinstance (by decide +kernel) (pa_cons (pv 0) (pa_cons (pe_bltn (by rfl) m_tuple (by decide +kernel) (show L2.RelV (.ty "tuple") (.type "tuple") from rfl)) pa_nil))))) (pw_or1 (pt_cmpR op_ne (pe_callB (r := rLn K) call_len_seq (by rfl) m_len PySem.boot_len (pa_cons (pv 0) pa_nil)) pe_int (nomark _))))) (pss_one (ps_ret pe_bl)) pss_nil)
    (pss_one (ps_ret (pe_and (C8.pe_c c_is_strings hr (by omega) (by rfl) (pa_cons (pe_ix (r := rIxT K) ix_tup (pv 0) pe_int (fun _ _ => rfl)) pa_nil)) (pe_one (C8.pe_c c_is_groups hr (by omega) (by rfl) (pa_cons (pe_ix (r := rIxT K) ix_tup (pv 0) pe_int (fun _ _ => rfl)) (pa_cons (pv 1) pa_nil)))))))), ?_⟩
  refine ⟨_, rfl, v, .ty "tuple", .type (tyD d), .type "tuple", isT d, rfl, .ty _, dm_ty hd, kit_tD d, _, rfl, ?_⟩
  cases ht : isT d with
  | false =>
    refine iteT ?_
    refine iteT ?_
    have z := q H (Same.refl H)
    rw [shp_no ht] at z
    exact z
  | true =>
  obtain ⟨n', a, xs, ds, rfl, rfl, rfl, ha, hl, hlm, hi⟩ := dm_tup hd ht
  refine iteF ?_
  refine ⟨_, rfl, a, _, rfl, .inr (SqT.of ha), rfl, _, rfl, ?_⟩
  by_cases c2 : ds.length = 2
  case neg =>
    rw [show (!decide (V.int (xs.length : Nat) = V.int 2)) = true by rw [decide_eq_false fun z => c2 (by injection z with z; omega)]; rfl]
    refine iteT ?_
    have z := q H (Same.refl H)
    have e : shp k (.tuple ds) = false := by
      match ds, c2 with
      | [], _ => rfl
      | [_], _ => rfl
      | [_, _], c2 => exact absurd rfl c2
      | _ :: _ :: _ :: _, _ => rfl
    rw [e] at z
    exact z
  rw [show (!decide (V.int (xs.length : Nat) = V.int 2)) = false by rw [decide_eq_true (show V.int (xs.length : Nat) = V.int 2 by rw [hl, c2]; rfl)]; rfl]
  refine iteF ?_
  obtain ⟨d1, d2, rfl⟩ : ∃ d1 d2, ds = [d1, d2] := by
    match ds, c2 with
    | [d1, d2], _ => exact ⟨d1, d2, rfl⟩
  obtain ⟨v1, v2, rfl⟩ : ∃ v1 v2, xs = [v1, v2] := by
    match xs, hl with
    | [v1, v2], _ => exact ⟨v1, v2, rfl⟩
  have hd1 := hi 0 v1 d1 rfl rfl
  have hd2 := hi 1 v2 d2 rfl rfl
  refine ⟨_, rfl, a, _, _, _, rfl, rfl, SqT.of ha, atI_nat (j := 0) rfl, v1, d1, m, n', rfl, hd1, hm9, fun H' s' => ⟨_, rfl, ?_⟩⟩
  cases hs : isSs d1 with
  | false =>
    refine iteF ?_
    have z := q H' s'
    have e : shp k (.tuple [d1, d2]) = false := by
      show (isSs d1 && isGs k d2) = false
      rw [hs]
      rfl
    rw [e] at z
    exact z
  | true =>
    refine iteT ?_
    refine ⟨_, rfl, a, _, _, _, rfl, rfl, SqT.of (s' _ _ ha), atI_nat (j := 1) rfl, _, rfl, v2, d2, m, n', k, rfl, hd2.tu (Tu.same s'), hm9, fun H2 s2 => ?_⟩
    have z := q H2 (s'.trans s2)
    have e : shp k (.tuple [d1, d2]) = isGs k d2 := by
      show (isSs d1 && isGs k d2) = _
      rw [hs]
      rfl
    rw [e] at z
    exact z
end
end Td
set_option maxHeartbeats 4000000
namespace Td
open PySem PySem.Spec PyProof.Rows L2
def mth (i : Nat) : Stmt := match top i with
  | .ClassDef _ _ _ body _ _ _ _ _ _ _ => body.getD 0 (.Pass ⟨0, 0, 0, 0⟩)
  | _ => .Pass ⟨0, 0, 0, 0⟩
section
variable {P : Program} {w : World} {K : PySem.W.Frag} {mg : Str → Option Value} {base : Heap} {f : Addr} {fd : FuncData}
theorem dm_s {H : Hp} (s : Str) (h : s.length ≤ 100) : DM H 0 1 (.str s) (.str s) := .inl (.inl ⟨s, rfl, rfl, h⟩)
abbrev s_check_faces : Stmt := top 12
abbrev n_check_faces : List Str := ["hall", "faces", "index", "face"]
theorem sc_check_faces : FnScope n_check_faces ["hall", "faces"] (defScope s_check_faces) := ⟨rfl, rfl, rfl, by decide +kernel, rfl, by decide +kernel, by decide +kernel⟩
theorem ok_check_faces (F : FnP K "check_faces" s_check_faces f fd) (hm : mg "check_faces" = some (.ref f)) (M_InvalidState : ErrMV2 P w K mg base "InvalidState" "reason" "index") (m_enumerate : mg "enumerate" = none) :
    CalX P w K mg base 3 "check_faces" (spCkF K) := by
  refine ⟨f, fd, ["hall", "faces"], F.ok (CX := L2.CX P w) sc_check_faces (fun vs H Q E h => ?_) (fun cdv A outer s H vs Q E hr h => ?_), hm, F.kp, F.bindsN (ps := ["hall", "faces"]) fun _ _ _ _ _ _ us hl => match us, hl with | [_, _], _ => rfl⟩
  · obtain ⟨h, f0, ss, rooms, rows, rfl, hH, hV, hf, hfl, q1, q2⟩ := h
    rfl
  obtain ⟨h, f0, ss, rooms, rows, rfl, hH, hV, hf, hfl, q1, q2⟩ := h
  have nd := sc_check_faces.nd
  refine ⟨_, (pss_one (ps_for (passes_of rfl) rfl (pi_enumQ (by rfl) m_enumerate (pa_cons (pv 1) pa_nil)) (pg_tup (by rfl) (pgs_cons (pg_name (i := 2) nd rfl (Or.inl rfl)) (pgs_cons (pg_name (i := 3) nd rfl (Or.inl rfl)) pgs_nil))) (pss_one (ps_if (pt_cmpR (r := rIn K true) op_notIn_seq (pv 3) (pe_slice (r := rSlA K) sl_tupA (pe_ix (r := rIxT K) ix_tup (pe_ix (r := rIxT K) ix_tup (pv 0) pe_int (fun _ _ => rfl)) (pv 2) (fun _ _ => rfl)) (po_some pe_int) po_none) (by rfl)) (pss_one (ps_raise rfl (takes_of rfl rfl rfl rfl) (pmk_errV2 M_InvalidState hr (by omega) (by rfl) (pa_cons pe_str (pa_cons (pv 2) pa_nil))))) pss_nil)))), ?_⟩
  obtain ⟨r, d, h1, h2, as, h3, hRA⟩ := id hH
  have d12 := hV.d12
  refine ⟨_, rfl, f0, rfl, ?_⟩
  refine for_enq (xs := ss.map V.str) (.inr (SqT.of hf)) (fun i σ' H' => Same H H' ∧ fstB (bFace rows) [] (ss.take i) = none ∧ ∃ v1 v2 : Option V, σ' = [some (.ref h), some (.ref f0), v1, v2]) ⟨Same.refl H, rfl, _, _, rfl⟩ (fun i σ' H' ⟨sx, _⟩ => sx) (fun i y σ' H' T hy hP hT => ?_) (fun σ' H' hP => ?_)
  · obtain ⟨sx, hb, v1, v2, rfl⟩ := hP
    obtain ⟨x, hx, rfl⟩ := str_at hy
    obtain ⟨b1, b2⟩ := fstB_step hx hb
    have hil : i < ss.length := (List.getElem?_eq_some_iff.mp hx).1
    have tl : (ss.take i).length = i := by rw [List.length_take]; omega
    have sT := sx.trans (same_new hT (.tup [.int (i : Nat), .str x]))
    have hri : rows[i]? = some (rows[i]'(by omega)) := List.getElem?_eq_getElem (by omega)
    obtain ⟨n0, e1, e2, er, _⟩ := hV.row _ (List.getElem_mem (show i < rows.length by omega))
    rw [er] at hri
    have hai : as[i]? = some (as[i]'(by rw [hRA.1]; omega)) := List.getElem?_eq_getElem (by rw [hRA.1]; omega)
    generalize as[i]'(by rw [hRA.1]; omega) = ai at hai
    have hrow := hRA.2 i _ _ hai hri
    have exi : (as.map V.ref)[i]? = some (.ref ai) := by rw [List.getElem?_map, hai]; rfl
    have gd_ : rows.getD (ss.take i).length [] = [n0, e1, e2] := by rw [tl, List.getD_eq_getElem?_getD, hri]; rfl
    refine ⟨T, _, rfl, SqT.of upd_same, rfl, _, _, rfl, _, _, rfl, rfl, ?_⟩
    generalize upd H' T (.tup [.int (i : Nat), .str x]) = H3 at sT ⊢
    refine ⟨_, rfl, _, rfl, h, _, _, _, rfl, rfl, SqT.of (sT _ _ h1), atI_nat (j := 1) rfl, _, rfl, d, _, _, _, rfl, rfl, SqT.of (sT _ _ h3), atI_nat exi, _, rfl, ?_⟩
    have sl : cutV (([n0, e1, e2] : List Str).map V.str) (some (1 : Int)) none = ([e1, e2] : List Str).map V.str := cut_from1
    refine slTN (sT _ _ hrow) sl fun p H4 s4 hp => ?_
    refine ⟨p, _, rfl, .inr (SqT.of hp), rfl, flat_strs _, _, rfl, ?_⟩
    rw [if_pos rfl, inV_str]
    by_cases c : x ∈ [e1, e2]
    · rw [decide_eq_true c]
      refine iteF ?_
      exact ⟨sT.trans s4, b2 (by unfold bFace; rw [gd_]; exact if_pos c), _, _, rfl⟩
    · rw [decide_eq_false c]
      refine iteT ?_
      have e := b1 (("face" : Str), i) (by unfold bFace; rw [gd_, tl]; exact if_neg c)
      exact ⟨_, rfl, mk_end_v2 fun dd hd => q2 _ e H4 (sT.trans s4) dd hd⟩
  · obtain ⟨sx, hb, v1, v2, rfl⟩ := hP
    rw [List.length_map, List.take_length] at hb
    exact q1 hb _ sx
abbrev s_check_places : Stmt := top 13
abbrev n_check_places : List Str := ["rooms", "places", "before", "index", "walker", "room"]
theorem sc_check_places : FnScope n_check_places ["rooms", "places"] (defScope s_check_places) := ⟨rfl, rfl, rfl, by decide +kernel, rfl, by decide +kernel, by decide +kernel⟩
theorem ok_check_places (F : FnP K "_check_places" s_check_places f fd) (hm : mg "_check_places" = some (.ref f)) (M_InvalidState : ErrMV2 P w K mg base "InvalidState" "reason" "index") (c_is_name : Cal P w K mg base 1 "is_name" spIsNm) (m_enumerate : mg "enumerate" = none) :
    CalX P w K mg base 3 "_check_places" (spCkP K) := by
  refine ⟨f, fd, ["rooms", "places"], F.ok (CX := L2.CX P w) sc_check_places (fun vs H Q E h => ?_) (fun cdv A outer s H vs Q E hr h => ?_), hm, F.kp, F.bindsN (ps := ["rooms", "places"]) fun _ _ _ _ _ _ us hl => match us, hl with | [_, _], _ => rfl⟩
  · obtain ⟨r, d, rooms, ps, rfl, hr0, ⟨as, hd, hR⟩, hrow, q1, q2⟩ := h
    rfl
  obtain ⟨r, d, rooms, ps, rfl, hr0, ⟨as, hd, hR⟩, hrow, q1, q2⟩ := h
  have nd := sc_check_places.nd
  refine ⟨_, (pss_cons (ps_set (i := 2) nd rfl (Or.inl rfl) pe_str)
    (pss_one (ps_for (passes_of rfl) rfl (pi_enumQ (by rfl) m_enumerate (pa_cons (pv 1) pa_nil)) (pg_tup (by rfl) (pgs_cons (pg_name (i := 3) nd rfl (Or.inl rfl)) (pgs_cons (pg_tup (by rfl) (pgs_cons (pg_name (i := 4) nd rfl (Or.inl rfl)) (pgs_cons (pg_name (i := 5) nd rfl (Or.inl rfl)) pgs_nil))) pgs_nil))) (pss_cons (ps_if (PW.pt (pw_or (pt_not (pt_val (C8.pe_c c_is_name hr (by omega) (by rfl) (pa_cons (pv 4) pa_nil)))) (pw_or1 (pt_cmpR op_le_str (pv 4) (pv 2) (nomark _))))) (pss_one (ps_raise rfl (takes_of rfl rfl rfl rfl) (pmk_errV2 M_InvalidState hr (by omega) (by rfl) (pa_cons pe_str (pa_cons (pv 3) pa_nil))))) pss_nil)
    (pss_cons (ps_if (pt_cmpR (r := rIn K true) op_notIn_seq (pv 5) (pv 0) (by rfl)) (pss_one (ps_raise rfl (takes_of rfl rfl rfl rfl) (pmk_errV2 M_InvalidState hr (by omega) (by rfl) (pa_cons pe_str (pa_cons (pv 3) pa_nil))))) pss_nil)
    (pss_one (ps_set (i := 2) nd rfl (Or.inl rfl) (pv 4)))))))), ?_⟩
  have hml : (as.map V.ref).length = ps.length := by rw [List.length_map]; exact hR.1
  refine ⟨_, rfl, d, rfl, ?_⟩
  refine for_enq (xs := as.map V.ref) (.inr (SqT.of hd)) (fun i σ' H' => Same H H' ∧ fstB (bPlace rooms) [] (ps.take i) = none ∧ ∃ v3 v4 v5 : Option V, σ' = [some (.ref r), some (.ref d), some (.str (lastW (ps.take i))), v3, v4, v5]) ⟨Same.refl H, rfl, _, _, _, rfl⟩ (fun i σ' H' ⟨sx, _⟩ => sx) (fun i y σ' H' T hy hP hT => ?_) (fun σ' H' hP => ?_)
  · obtain ⟨sx, hb, v3, v4, v5, rfl⟩ := hP
    obtain ⟨a, p, rfl, hpi, hpa⟩ := hR.row hy
    obtain ⟨h2, hl⟩ := hrow p (List.mem_of_getElem? hpi)
    obtain ⟨wk, rm, rfl⟩ : ∃ wk rm, p = [wk, rm] := by
      match p, h2 with
      | [wk, rm], _ => exact ⟨wk, rm, rfl⟩
    have hxl := hl wk (List.mem_cons_self ..)
    obtain ⟨b1, b2⟩ := fstB_step hpi hb
    have hil : i < ps.length := (List.getElem?_eq_some_iff.mp hpi).1
    have tl : (ps.take i).length = i := by rw [List.length_take]; omega
    have sT := sx.trans (same_new hT (.tup [.int (i : Nat), .ref a]))
    refine ⟨T, _, rfl, SqT.of upd_same, rfl, _, _, rfl, _, _, rfl, ⟨a, _, rfl, SqT.of (sT _ _ hpa), rfl, _, _, rfl, _, _, rfl, rfl, rfl, ?_⟩⟩
    show tSeq _ _ _ _ (upd H' T (.tup [.int (i : Nat), .ref a]))
    generalize upd H' T (.tup [.int (i : Nat), .ref a]) = H3 at sT ⊢
    refine ⟨_, rfl, .str wk, .str wk, 0, 1, rfl, dm_s wk hxl, fun H2 s2 => ⟨_, rfl, ?_⟩⟩
    show (if (!decide (Nm wk)) = true then _ else _)
    have s02 := sT.trans s2
    by_cases c1 : Nm wk
    case neg =>
      rw [decide_eq_false c1]
      refine iteT ?_
      refine iteT ?_
      have e := b1 (("walker" : Str), i) (by unfold bPlace; rw [if_neg (fun z => c1 z.1), tl])
      exact ⟨_, rfl, mk_end_v2 fun dd hd => q2 _ e H2 s02 dd hd⟩
    rw [decide_eq_true c1]
    refine iteF ?_
    refine ⟨_, rfl, _, rfl, _, _, rfl, rfl, _, rfl, ?_⟩
    by_cases c2 : (lastW (ps.take i)).cps.toList < wk.cps.toList
    case neg =>
      rw [decide_eq_false c2]
      refine iteT ?_
      have e := b1 (("walker" : Str), i) (by unfold bPlace; rw [if_neg (fun z => c2 z.2), tl])
      exact ⟨_, rfl, mk_end_v2 fun dd hd => q2 _ e H2 s02 dd hd⟩
    rw [decide_eq_true c2]
    refine iteF ?_
    refine ⟨_, rfl, _, rfl, r, _, rfl, .inr (SqT.of (s02 _ _ hr0)), rfl, flat_strs _, _, rfl, ?_⟩
    rw [if_pos rfl, inV_str]
    by_cases c3 : rm ∈ rooms
    case neg =>
      rw [decide_eq_false c3]
      refine iteT ?_
      have e := b1 (("room" : Str), i) (by unfold bPlace; rw [if_pos ⟨c1, c2⟩]; exact (if_neg c3).trans (by rw [tl]))
      exact ⟨_, rfl, mk_end_v2 fun dd hd => q2 _ e H2 s02 dd hd⟩
    rw [decide_eq_true c3]
    refine iteF ?_
    have lw : lastW (ps.take (i + 1)) = wk := by
      unfold lastW
      rw [take_snoc hpi, List.map_append]
      simp [hd0]
    refine ⟨_, rfl, s02, b2 (by unfold bPlace; rw [if_pos ⟨c1, c2⟩]; exact if_pos c3), some (.int (i : Nat)), some (.str wk), some (.str rm), ?_⟩
    rw [lw]
    rfl
  · obtain ⟨sx, hb, v3, v4, v5, rfl⟩ := hP
    rw [hml, List.take_length] at hb
    exact q1 hb _ sx
abbrev s_validate_state : Stmt := top 11
abbrev n_validate_state : List Str := ["hall", "value", "rooms", "doors", "faces", "places"]
theorem sc_validate_state : FnScope n_validate_state ["hall", "value"] (defScope s_validate_state) := ⟨rfl, rfl, rfl, by decide +kernel, rfl, by decide +kernel, by decide +kernel⟩
theorem ok_validate_state (F : FnP K "validate_state" s_validate_state f fd) (hm : mg "validate_state" = some (.ref f)) (M_InvalidState : ErrMV2 P w K mg base "InvalidState" "reason" "index") (c_check_places : CalX P w K mg base 3 "_check_places" (spCkP K)) (c_check_faces : CalX P w K mg base 3 "check_faces" (spCkF K)) (c_has_shape : Cal P w K mg base 3 "has_shape" spShpD) (m_len : mg "len" = none) (g_WALKERS : ∃ t, mg "WALKERS" = some (.int 5 t)) :
    CalX P w K mg base 4 "validate_state" (spValS K) := by
  refine ⟨f, fd, ["hall", "value"], F.ok (CX := L2.CX P w) sc_validate_state (fun vs H Q E h => ?_) (fun cdv A outer s H vs Q E hr h => ?_), hm, F.kp, F.bindsN (ps := ["hall", "value"]) fun _ _ _ _ _ _ us hl => match us, hl with | [_, _], _ => rfl⟩
  · obtain ⟨h, x, d, m, n, rooms, rows, rfl, hH, hV, hd, hm9, q1, q2⟩ := h
    rfl
  obtain ⟨h, x, d, m, n, rooms, rows, rfl, hH, hV, hd, hm9, q1, q2⟩ := h
  have nd := sc_validate_state.nd
  refine ⟨_, (pss_cons (ps_asg (pv 0) (pg_tup (by rfl) (pgs_cons (pg_name (i := 2) nd rfl (Or.inl rfl)) (pgs_cons (pg_name (i := 3) nd rfl (Or.inl rfl)) pgs_nil))))
    (pss_cons (ps_if (PW.pt (pw_or (pt_not (pt_val (C8.pe_c c_has_shape hr (by omega) (by rfl) (pa_cons (pv 1) (pa_cons pe_int pa_nil))))) (pw_or1 (pt_cmpR op_ne (pe_callB (r := rLn K) call_len_seq (by rfl) m_len PySem.boot_len (pa_cons (pe_ix (r := rIxT K) ix_tup (pv 1) pe_int (fun _ _ => rfl)) pa_nil)) (pe_callB (r := rLn K) call_len_seq (by rfl) m_len PySem.boot_len (pa_cons (pv 3) pa_nil)) (nomark _))))) (pss_one (ps_raise rfl (takes_of rfl rfl rfl rfl) (pmk_errV2 M_InvalidState hr (by omega) (by rfl) (pa_cons pe_str (pa_cons pe_int pa_nil))))) pss_nil)
    (pss_cons (ps_asg (pv 1) (pg_tup (by rfl) (pgs_cons (pg_name (i := 4) nd rfl (Or.inl rfl)) (pgs_cons (pg_name (i := 5) nd rfl (Or.inl rfl)) pgs_nil))))
    (pss_cons (ps_if (pt_cmpR op_gt (pe_callB (r := rLn K) call_len_seq (by rfl) m_len PySem.boot_len (pa_cons (pv 5) pa_nil)) (pe_gint (by rfl) g_WALKERS) (nomark _)) (pss_one (ps_raise rfl (takes_of rfl rfl rfl rfl) (pmk_errV2 M_InvalidState hr (by omega) (by rfl) (pa_cons pe_str (pa_cons pe_int pa_nil))))) pss_nil)
    (pss_cons (ps_expr (pe_cX c_check_faces hr (by omega) (fun σ => passAt (takes_of rfl rfl rfl rfl) σ) (by rfl) (pa_cons (pv 0) (pa_cons (pv 4) pa_nil))))
    (pss_cons (ps_expr (pe_cX c_check_places hr (by omega) (fun σ => passAt (takes_of rfl rfl rfl rfl) σ) (by rfl) (pa_cons (pv 2) (pa_cons (pv 5) pa_nil))))
    (pss_one (ps_ret pe_bl)))))))), ?_⟩
  obtain ⟨r, dd, i1, i2, as, i3, iR⟩ := id hH
  have hml : (as.map V.ref).length = rows.length := by rw [List.length_map]; exact iR.1
  refine ⟨_, rfl, h, _, rfl, SqT.of i1, rfl, _, _, rfl, _, _, rfl, rfl, ?_⟩
  refine ⟨_, rfl, x, d, m, n, 2, rfl, hd, hm9, fun H1 s1 => ⟨_, rfl, ?_⟩⟩
  cases hs : shp 2 d with
  | false =>
    refine iteT ?_
    refine iteT ?_
    exact mk_end_v2 fun d2 hd2 => q2 _ (vS_form (by rw [hs]; decide)) H1 s1 d2 hd2
  | true =>
  refine iteF ?_
  obtain ⟨ss, ps, rfl, h2⟩ := shp_ok hs
  obtain ⟨a, rfl, hA, g1, g2, l1, l2⟩ := hs_of_dm hd
  have ev : vS rooms rows (hsD ss ps) = sM rooms rows ss ps := vS_hs h2
  rw [ev] at q1 q2
  obtain ⟨fa, pl, k1, k2, hR2⟩ := id hA
  obtain ⟨bs, k3, kR⟩ := id hR2
  have hbl : (bs.map V.ref).length = ps.length := by rw [List.length_map]; exact kR.1
  have hsl : (ss.map V.str).length = ss.length := List.length_map _
  refine ⟨_, rfl, a, _, _, _, rfl, rfl, SqT.of (s1 _ _ k1), atI_nat (j := 0) rfl, fa, _, rfl, .inr (SqT.of (s1 _ _ k2)), _, rfl, dd, _, rfl, .inr (SqT.of (s1 _ _ i3)), rfl, _, rfl, ?_⟩
  by_cases c1 : ss.length = rows.length
  case neg =>
    rw [show (!decide (V.int ((ss.map V.str).length : Nat) = V.int ((as.map V.ref).length : Nat))) = true by rw [hsl, hml, decide_eq_false fun z => c1 (by injection z with z; omega)]; rfl]
    refine iteT ?_
    exact mk_end_v2 fun d2 hd2 => q2 (("form" : Str), 0) (by unfold sM; rw [if_neg c1]) H1 s1 d2 hd2
  rw [show (!decide (V.int ((ss.map V.str).length : Nat) = V.int ((as.map V.ref).length : Nat))) = false by rw [hsl, hml, c1, decide_eq_true rfl]; rfl]
  refine iteF ?_
  refine ⟨_, rfl, a, _, rfl, SqT.of (s1 _ _ k1), rfl, _, _, rfl, _, _, rfl, rfl, ?_⟩
  refine ⟨_, rfl, pl, _, rfl, .inr (SqT.of (s1 _ _ k3)), _, _, rfl, rfl, _, rfl, ?_⟩
  rw [hbl]
  by_cases c2 : ps.length ≤ 5
  case neg =>
    rw [decide_eq_true (show (5 : Int) < (ps.length : Int) by omega)]
    refine iteT ?_
    exact mk_end_v2 fun d2 hd2 => q2 (("many" : Str), 0) (by unfold sM; rw [if_pos c1, if_neg c2]) H1 s1 d2 hd2
  rw [decide_eq_false (show ¬ (5 : Int) < (ps.length : Int) by omega)]
  refine iteF ?_
  have evm : sM rooms rows ss ps = match fstB (bFace rows) [] ss with | some b => some b | none => fstB (bPlace rooms) [] ps := by
    unfold sM
    rw [if_pos c1, if_pos c2]
    all_goals (cases fstB (bFace rows) [] ss <;> rfl)
  rw [evm] at q1 q2
  refine ⟨_, rfl, _, rfl, h, fa, ss, rooms, rows, rfl, hH.tu (Tu.same s1), hV, s1 _ _ k2, c1, fun e H2 s2 => ?_, fun b e H2 s2 => ?_⟩
  · rw [e] at q1 q2
    have s02 := s1.trans s2
    refine ⟨_, rfl, _, rfl, r, pl, rooms, ps, rfl, s02 _ _ i2, hR2.tu (Tu.same s02), fun r hr => ⟨h2 r hr, l2 r hr⟩, fun e2 H3 s3 => ?_, fun b e2 H3 s3 => ?_⟩
    · exact q1 e2 H3 (s02.trans s3)
    · exact q2 b e2 H3 (s02.trans s3)
  · rw [e] at q2
    exact q2 b rfl H2 (s1.trans s2)
end
end Td
set_option maxHeartbeats 4000000
namespace Td
open PySem PySem.Spec PyProof.Rows L2
section
variable {P : Program} {w : World} {K : PySem.W.Frag} {mg : Str → Option Value} {base : Heap} {f : Addr} {fd : FuncData}
theorem lettersL : ("abcdefghijklmnopqrstuvwxyz" : Str).cps.toList = List.range' 97 26 := by decide +kernel
theorem letter_iff (c : Nat) : (!decide (c ∈ ("abcdefghijklmnopqrstuvwxyz" : Str).cps.toList)) = !(decide (97 ≤ c) && decide (c ≤ 122)) := by
  rw [lettersL]
  by_cases h : 97 ≤ c ∧ c ≤ 122
  · rw [decide_eq_true (List.mem_range'.mpr ⟨c - 97, by omega, by omega⟩), decide_eq_true h.1, decide_eq_true h.2]
    rfl
  · have n : ¬ c ∈ List.range' 97 26 := fun z => by
      obtain ⟨i, h1, h2⟩ := List.mem_range'.mp z
      exact h ⟨by omega, by omega⟩
    rw [decide_eq_false n]
    by_cases h1 : 97 ≤ c
    · rw [decide_eq_false (fun z => h ⟨h1, z⟩), Bool.and_false]
    · rw [decide_eq_false h1, Bool.false_and]
def badC (c : Nat) : Bool := !(decide (97 ≤ c) && decide (c ≤ 122))
abbrev s_law_is_name : Stmt := top 20
abbrev n_law_is_name : List Str := ["text", "letters", "sign"]
theorem sc_law_is_name : FnScope n_law_is_name ["text"] (defScope s_law_is_name) := ⟨rfl, rfl, rfl, by decide +kernel, rfl, by decide +kernel, by decide +kernel⟩
theorem ok_law_is_name (F : FnP K "_law_is_name" s_law_is_name f fd) (hm : mg "_law_is_name" = some (.ref f)) (m_len : mg "len" = none) :
    Cal P w K mg base 1 "_law_is_name" spIsName := by
  refine cal_of (F.ok sc_law_is_name (fun vs H Q E h => ?_) (fun cdv A outer s H vs Q E hr h => ?_)) hm F.kp (F.bindsN (ps := ["text"]) fun _ _ _ _ _ _ us hl => match us, hl with | [_], _ => rfl)
  · obtain ⟨x, rfl, hl, q⟩ := h
    rfl
  obtain ⟨x, rfl, hl, q⟩ := h
  have nd := sc_law_is_name.nd
  refine ⟨_, PSs.nox (pss_cons (ps_set (i := 1) nd rfl (Or.inr rfl) pe_str)
    (pss_one (ps_ret (pe_and (pe_chain op_lt op_lt pe_int (pe_callB call_len_str (by rfl) m_len PySem.boot_len (pa_cons (pv 0) pa_nil)) pe_int) (pe_one (pe_cmpR (r := rEqE K) (op_eqE hr.units) (pe_lc (own := [("sign", 2)]) (g := (gName 2)) (by rfl) nd (pi_str (pv 0)) (blkOk_by (own := [("sign", 2)]) (N := n_law_is_name) (sc := defScope s_law_is_name) (by decide +kernel)) (fun _ _ _ _ _ => (pg_name (i := 2) nd rfl (Or.inl rfl))) (fun _ _ _ _ _ => (pts_one (pt_cmpR op_notIn_sign (pv 2) (pv 1) (by rfl)))) (fun _ _ _ _ _ => (pv 2))) (pe_lst pa_nil) (nomark _))))))), ?_⟩
  have no : ¬ (1 ≤ x.length ∧ x.length ≤ 6) → Q (.bl false) H := fun h => by
    have e : decide (Nm x) = false := decide_eq_false fun z => h ⟨z.1, z.2.1⟩
    have z := q H (Same.refl H)
    rw [e] at z
    exact z
  refine ⟨_, rfl, x, rfl, Nat.le_trans hl (by decide), _, _, rfl, rfl, _, rfl, ?_⟩
  by_cases g1 : (0 : Int) < (x.length : Int)
  · rw [decide_eq_true g1]
    refine iteT ⟨_, _, rfl, rfl, _, rfl, ?_⟩
    by_cases g2 : (x.length : Int) < 7
    · rw [decide_eq_true g2]
      refine iteT ?_
      have hx : x.cps.size ≤ 6 := by
        have e : x.length = x.cps.size := rfl
        omega
      refine ⟨_, rfl, _, rfl, fun D hD => ?_⟩
      refine lc_gen (n := x.cps.size) (fun i Hx => Hx = upd H D (.lst (((x.cps.toList.take i).filter badC).map fun c => V.str ⟨#[c]⟩))) rfl (fun i Hx hi e => ⟨hi, ?_⟩) (fun Hx e => ⟨Nat.le_refl _, ?_⟩)
      · rintro _ _ ⟨rfl, c, hc, rfl⟩
        subst e
        have hc2 : x.cps.toList[i]? = some c := by rw [Array.getElem?_toList]; exact hc
        refine ⟨rfl, ?_⟩
        refine ⟨_, rfl, _, rfl, c, _, rfl, rfl, _, rfl, ?_⟩
        rw [letter_iff]
        have step : (x.cps.toList.take (i + 1)).filter badC = (x.cps.toList.take i).filter badC ++ [c].filter badC := by rw [take_snoc hc2, List.filter_append]
        cases hb : badC c with
        | true =>
          have hb' : (!(decide (97 ≤ c) && decide (c ≤ 122))) = true := hb
          rw [hb']
          refine iteT ⟨_, rfl, _, upd_same, ?_, ?_⟩
          · rw [List.length_map]
            exact sz100 (Nat.le_trans (List.length_filter_le _ _) (by rw [List.length_take]; omega))
          · rw [upd_upd, step, List.filter_cons_of_pos hb, List.map_append]
            rfl
        | false =>
          have hb' : (!(decide (97 ≤ c) && decide (c ≤ 122))) = false := hb
          rw [hb']
          refine iteF ?_
          rw [step, List.filter_cons_of_neg (by rw [hb]; exact Bool.false_ne_true), List.filter_nil, List.append_nil]
      · subst e
        have s1 := same_new hD (.lst (((x.cps.toList.take x.cps.size).filter badC).map fun c => V.str ⟨#[c]⟩))
        refine ⟨(by show 0 ≤ sizeLine; decide), fun e0 he0 => ?_⟩
        refine ⟨D, e0, _, rfl, rfl, SqL.of (same_new he0 _ _ _ upd_same), SqL.of upd_same, ?_⟩
        have e1 : x.cps.toList.take x.cps.size = x.cps.toList := List.take_of_length_le (by rw [Array.length_toList]; exact Nat.le_refl _)
        have et : (((x.cps.toList.take x.cps.size).filter badC).map fun c => V.str ⟨#[c]⟩).isEmpty = decide (Nm x) := by
          rw [e1]
          by_cases h : ∀ c ∈ x.cps.toList, 97 ≤ c ∧ c ≤ 122
          · have hn : Nm x := ⟨by omega, by omega, h⟩
            have ef : x.cps.toList.filter badC = [] := List.filter_eq_nil_iff.mpr fun c hc => by
              obtain ⟨h1, h2⟩ := h c hc
              unfold badC
              rw [decide_eq_true h1, decide_eq_true h2]
              decide
            rw [decide_eq_true hn, ef]
            rfl
          · have hn : ¬ Nm x := fun z => h z.2.2
            rw [decide_eq_false hn]
            cases hf : x.cps.toList.filter badC with
            | cons a r => rfl
            | nil =>
              refine absurd (fun c hc => ?_) h
              have z := List.filter_eq_nil_iff.mp hf c hc
              unfold badC at z
              simp only [Bool.not_eq_true', Bool.not_eq_false, Bool.and_eq_true, decide_eq_true_eq] at z
              exact z
        rw [et]
        exact q _ (s1.trans (same_new he0 _))
    · rw [decide_eq_false g2]
      exact iteF (no fun z => g2 (by omega))
  · rw [decide_eq_false g1]
    refine iteF ⟨_, rfl, ?_⟩
    exact iteF (no fun z => g1 (by omega))
theorem vS_len {rooms : List Str} {rows : List (List Str)} {ds1 : List PyData} {d2 : PyData} (h : ds1.length ≠ rows.length) : vS rooms rows (.tuple [.tuple ds1, d2]) = some (("form" : Str), 0) := by
  cases hs : shp 2 (.tuple [.tuple ds1, d2]) with
  | false => exact vS_form (by rw [hs]; decide)
  | true =>
    obtain ⟨ss, ps, e, h2⟩ := shp_ok hs
    rw [e, vS_hs h2]
    unfold sM
    have e2 : ds1 = ss.map PyData.str := by
      have z := e
      unfold hsD sD at z
      injection z with z
      injection z with z1 _
      injection z1
    rw [e2, List.length_map] at h
    rw [if_neg h]
abbrev s_law_pairs_good : Stmt := top 21
abbrev n_law_pairs_good : List Str := ["places", "place"]
theorem sc_law_pairs_good : FnScope n_law_pairs_good ["places"] (defScope s_law_pairs_good) := ⟨rfl, rfl, rfl, by decide +kernel, rfl, by decide +kernel, by decide +kernel⟩
theorem ok_law_pairs_good (F : FnP K "_law_pairs_good" s_law_pairs_good f fd) (hm : mg "_law_pairs_good" = some (.ref f)) (m_isinstance : mg "isinstance" = none) (m_len : mg "len" = none) (m_str : mg "str" = none) (m_tuple : mg "tuple" = none) :
    Cal P w K mg base 1 "_law_pairs_good" spPairs := by
  refine cal_of (F.ok sc_law_pairs_good (fun vs H Q E h => ?_) (fun cdv A outer s H vs Q E hr h => ?_)) hm F.kp (F.bindsN (ps := ["places"]) fun _ _ _ _ _ _ us hl => match us, hl with | [_], _ => rfl)
  · obtain ⟨a, d, m, n, rfl, hd, hm9, q⟩ := h
    rfl
  obtain ⟨a, d, m, n, rfl, hd, hm9, q⟩ := h
  have nd := sc_law_pairs_good.nd
  refine ⟨_, PSs.nox (pss_cons (ps_for PassesOwn.never rfl (pi_tup (pv 0)) (pg_name (i := 1) nd rfl (Or.inl rfl)) (pss_cons (ps_if (PW.pt (pw_or (pt_not (pt_val (pe_callB (r := rIsi K) call_isi (by rfl) m_isinstance (by decide +kernel) (pa_cons (pv 1) (pa_cons (pe_bltn (by rfl) m_tuple (by decide +kernel) (show L2.RelV (.ty "tuple") (.type "tuple") from rfl)) pa_nil))))) (pw_or (pt_cmpR op_ne (pe_callB (r := rLn K) call_len_seq (by rfl) m_len PySem.boot_len (pa_cons (pv 1) pa_nil)) pe_int (nomark _)) (pw_or1 (pt_not (pt_val (pe_callB (r := rIsi K) call_isi (by rfl) m_isinstance (by decide +kernel) (pa_cons (pe_ix (r := rIxT K) ix_tup (pv 1) pe_int (fun _ _ => rfl)) (pa_cons (pe_bltn (by rfl) m_str (by decide +kernel) (show L2.RelV (.ty "str") (.type "str") from rfl)) pa_nil))))))))) (pss_one (ps_ret pe_bl)) pss_nil)
    (pss_one (ps_if (pt_not (pt_val (pe_callB (r := rIsi K) call_isi (by rfl) m_isinstance (by decide +kernel) (pa_cons (pe_ix (r := rIxT K) ix_tup (pv 1) pe_int (fun _ _ => rfl)) (pa_cons (pe_bltn (by rfl) m_str (by decide +kernel) (show L2.RelV (.ty "str") (.type "str") from rfl)) pa_nil))))) (pss_one (ps_ret pe_bl)) pss_nil))))
    (pss_one (ps_ret pe_bl))), ?_⟩
  obtain ⟨n', xs, ds, rfl, rfl, ha, hl, hlm, hi⟩ : ∃ (n' : Nat) (xs : List V) (ds : List PyData), n = n' + 1 ∧ d = .tuple ds ∧ H a = some (.tup xs) ∧ xs.length = ds.length ∧ ds.length ≤ m ∧ ∀ (i : Nat) (v : V) (e : PyData), xs[i]? = some v → ds[i]? = some e → DM H m n' v e := by
    cases n with
    | zero => exact hd.elim
    | succ n =>
      rcases hd with (⟨s, e, _⟩ | ⟨s, e, _⟩ | ⟨s, e, _⟩ | ⟨e, _⟩) | ⟨b, xs, ds, e, rfl, h1, h2, h3, h4⟩
      · cases e
      · cases e
      · cases e
      · cases e
      · cases e
        exact ⟨n, xs, ds, rfl, rfl, h1, h2, h3, h4⟩
  refine ⟨_, rfl, a, rfl, ⟨_, SqT.of ha⟩, ?_⟩
  refine for_tup (K := K) (a := a) (xs := xs) (fun i σ' H' => H' = H ∧ ((ds.take i).all fun e => isSs e && decide (lenD e = 2)) = true ∧ ∃ v1 : Option V, σ' = [some (.ref a), v1]) ⟨rfl, rfl, _, rfl⟩ (fun i σ' H' _ ⟨e, _⟩ => by rw [e]; exact SqT.of ha) (fun i y σ' H' hy hP => ?_) (fun σ' H' hP => ?_)
  · obtain ⟨rfl, hall, v1, rfl⟩ := hP
    have hil : i < ds.length := by rw [← hl]; exact (List.getElem?_eq_some_iff.mp hy).1
    have he : ds[i]? = some ds[i] := List.getElem?_eq_getElem hil
    have hd2 := hi i y _ hy he
    generalize ds[i] = e at he hd2
    have no : (isSs e && decide (lenD e = 2)) = false → Q (.bl false) H' := fun z => by
      have w := q H' (Same.refl H')
      have e2 : isGs 2 (.tuple ds) = false := by
        show (ds.all fun e => isSs e && decide (lenD e = 2)) = false
        refine List.all_eq_false.mpr ⟨e, List.mem_of_getElem? he, ?_⟩
        rw [z]
        decide
      rw [e2] at w
      exact w
    have yes : (isSs e && decide (lenD e = 2)) = true → ((ds.take (i + 1)).all fun e => isSs e && decide (lenD e = 2)) = true := fun z => by
      rw [take_snoc he, List.all_append, hall]
      show (true && ((isSs e && decide (lenD e = 2)) && true)) = true
      rw [z]
      rfl
    refine ⟨_, rfl, y, .ty "tuple", .type (tyD e), .type "tuple", isT e, rfl, .ty _, dm_ty hd2, kit_tD e, _, rfl, ?_⟩
    cases ht : isT e with
    | false =>
      refine iteT ?_
      refine iteT ?_
      exact no (by rw [isSs_no ht]; rfl)
    | true =>
    obtain ⟨n2, b, ys, es, rfl, rfl, rfl, hb, hl2, hlm2, hi2⟩ := dm_tup hd2 ht
    refine iteF ?_
    refine ⟨_, rfl, b, _, rfl, .inr (SqT.of hb), rfl, _, rfl, ?_⟩
    by_cases c2 : es.length = 2
    case neg =>
      rw [show (!decide (V.int (ys.length : Nat) = V.int 2)) = true by rw [decide_eq_false fun z => c2 (by injection z with z; omega)]; rfl]
      refine iteT ?_
      refine iteT ?_
      exact no (by rw [decide_eq_false (show ¬ lenD (.tuple es) = 2 from c2), Bool.and_false])
    rw [show (!decide (V.int (ys.length : Nat) = V.int 2)) = false by rw [decide_eq_true (show V.int (ys.length : Nat) = V.int 2 by rw [hl2, c2]; rfl)]; rfl]
    refine iteF ?_
    obtain ⟨d1, d2, rfl⟩ : ∃ d1 d2, es = [d1, d2] := by
      match es, c2 with
      | [d1, d2], _ => exact ⟨d1, d2, rfl⟩
    obtain ⟨w1, w2, rfl⟩ : ∃ v1 v2, ys = [v1, v2] := by
      match ys, hl2 with
      | [v1, v2], _ => exact ⟨v1, v2, rfl⟩
    have hd3 := hi2 0 w1 d1 rfl rfl
    have hd4 := hi2 1 w2 d2 rfl rfl
    have es_ : (isSs (.tuple [d1, d2]) && decide (lenD (.tuple [d1, d2]) = 2)) = (isS d1 && isS d2) := by
      show ((isS d1 && (isS d2 && true)) && decide (2 = 2)) = _
      simp
    refine ⟨_, rfl, b, _, _, _, rfl, rfl, SqT.of hb, atI_nat (j := 0) rfl, w1, .ty "str", .type (tyD d1), .type "str", isS d1, rfl, .ty _, dm_ty hd3, kit_sD d1, _, rfl, ?_⟩
    cases h1 : isS d1 with
    | false =>
      refine iteT ?_
      exact no (by rw [es_, h1]; rfl)
    | true =>
    refine iteF ?_
    refine ⟨_, rfl, b, _, _, _, rfl, rfl, SqT.of hb, atI_nat (j := 1) rfl, w2, .ty "str", .type (tyD d2), .type "str", isS d2, rfl, .ty _, dm_ty hd4, kit_sD d2, _, rfl, ?_⟩
    cases h2 : isS d2 with
    | false =>
      refine iteT ?_
      exact no (by rw [es_, h1, h2]; rfl)
    | true =>
    refine iteF ?_
    exact ⟨rfl, yes (by rw [es_, h1, h2]; rfl), _, rfl⟩
  · obtain ⟨rfl, hall, v1, rfl⟩ := hP
    rw [hl, List.take_length] at hall
    have w := q H' (Same.refl H')
    have e2 : isGs 2 (.tuple ds) = true := hall
    rw [e2] at w
    exact w
abbrev s_law_due : Stmt := top 22
abbrev n_law_due : List Str := ["hall", "value", "last", "k", "face", "walker", "room"]
theorem sc_law_due : FnScope n_law_due ["hall", "value"] (defScope s_law_due) := ⟨rfl, rfl, rfl, by decide +kernel, rfl, by decide +kernel, by decide +kernel⟩
theorem ok_law_due (F : FnP K "_law_due" s_law_due f fd) (hm : mg "_law_due" = some (.ref f)) (c_law_is_name : Cal P w K mg base 1 "_law_is_name" spIsName) (c_law_pairs_good : Cal P w K mg base 1 "_law_pairs_good" spPairs) (m_enumerate : mg "enumerate" = none) (m_isinstance : mg "isinstance" = none) (m_len : mg "len" = none) (m_str : mg "str" = none) (m_tuple : mg "tuple" = none) :
    Cal P w K mg base 2 "_law_due" spWAt := by
  refine cal_of (F.ok sc_law_due (fun vs H Q E h => ?_) (fun cdv A outer s H vs Q E hr h => ?_)) hm F.kp (F.bindsN (ps := ["hall", "value"]) fun _ _ _ _ _ _ us hl => match us, hl with | [_, _], _ => rfl)
  · obtain ⟨h, x, d, m, n, rooms, rows, rfl, hH, hV, hd, hm9, q⟩ := h
    rfl
  obtain ⟨h, x, d, m, n, rooms, rows, rfl, hH, hV, hd, hm9, q⟩ := h
  have nd := sc_law_due.nd
  refine ⟨_, PSs.nox (pss_cons (ps_if (PW.pt (pw_or (pt_not (pt_val (pe_callB (r := rIsi K) call_isi (by rfl) m_isinstance (by decide +kernel) (pa_cons (pv 1) (pa_cons (pe_bltn (by rfl) m_tuple (by decide +kernel) (show L2.RelV (.ty "tuple") (.type "tuple") from rfl)) pa_nil))))) (pw_or (pt_cmpR op_ne (pe_callB (r := rLn K) call_len_seq (by rfl) m_len PySem.boot_len (pa_cons (pv 1) pa_nil)) pe_int (nomark _)) (pw_or1 (pt_not (pt_val (pe_callB (r := rIsi K) call_isi (by rfl) m_isinstance (by decide +kernel) (pa_cons (pe_ix (r := rIxT K) ix_tup (pv 1) pe_int (fun _ _ => rfl)) (pa_cons (pe_bltn (by rfl) m_tuple (by decide +kernel) (show L2.RelV (.ty "tuple") (.type "tuple") from rfl)) pa_nil))))))))) (pss_one (ps_ret (pe_tup (pa_cons pe_str (pa_cons pe_int pa_nil))))) pss_nil)
    (pss_cons (ps_if (PW.pt (pw_or (pt_not (pt_val (pe_callB (r := rIsi K) call_isi (by rfl) m_isinstance (by decide +kernel) (pa_cons (pe_ix (r := rIxT K) ix_tup (pv 1) pe_int (fun _ _ => rfl)) (pa_cons (pe_bltn (by rfl) m_tuple (by decide +kernel) (show L2.RelV (.ty "tuple") (.type "tuple") from rfl)) pa_nil))))) (pw_or (pt_cmpR op_ne (pe_callB (r := rLn K) call_len_seq (by rfl) m_len PySem.boot_len (pa_cons (pe_ix (r := rIxT K) ix_tup (pv 1) pe_int (fun _ _ => rfl)) pa_nil)) (pe_callB (r := rLn K) call_len_seq (by rfl) m_len PySem.boot_len (pa_cons (pe_ix (r := rIxT K) ix_tup (pv 0) pe_int (fun _ _ => rfl)) pa_nil)) (nomark _)) (pw_or1 (pt_not (pt_val (C8.pe_c c_law_pairs_good hr (by omega) (by rfl) (pa_cons (pe_ix (r := rIxT K) ix_tup (pv 1) pe_int (fun _ _ => rfl)) pa_nil)))))))) (pss_one (ps_ret (pe_tup (pa_cons pe_str (pa_cons pe_int pa_nil))))) pss_nil)
    (C8.pss_cut (ps_if (pt_cmpR (r := rNeE K) (op_neE hr.units) (pe_lc (own := [("face", 4)]) (g := (gName 4)) (by rfl) nd (pi_tup (pe_ix (r := rIxT K) ix_tup (pv 1) pe_int (fun _ _ => rfl))) (blkOk_by (own := [("face", 4)]) (N := n_law_due) (sc := defScope s_law_due) (by decide +kernel)) (fun _ _ _ _ _ => (pg_name (i := 4) nd rfl (Or.inl rfl))) (fun _ _ _ _ _ => (pts_one (pt_not (pt_val (pe_callB (r := rIsi K) call_isi (by rfl) m_isinstance (by decide +kernel) (pa_cons (pv 4) (pa_cons (pe_bltn (by rfl) m_str (by decide +kernel) (show L2.RelV (.ty "str") (.type "str") from rfl)) pa_nil))))))) (fun _ _ _ _ _ => (pv 4))) (pe_lst pa_nil) (nomark _)) (pss_one (ps_ret (pe_tup (pa_cons pe_str (pa_cons pe_int pa_nil))))) pss_nil)
    (pss_cons (ps_if (pt_cmpR op_gt (pe_callB (r := rLn K) call_len_seq (by rfl) m_len PySem.boot_len (pa_cons (pe_ix (r := rIxT K) ix_tup (pv 1) pe_int (fun _ _ => rfl)) pa_nil)) pe_int (nomark _)) (pss_one (ps_ret (pe_tup (pa_cons pe_str (pa_cons pe_int pa_nil))))) pss_nil)
    (C8.pss_cut (ps_for PassesOwn.never rfl (pi_enumQ (by rfl) m_enumerate (pa_cons (pe_ix (r := rIxT K) ix_tup (pv 1) pe_int (fun _ _ => rfl)) pa_nil)) (pg_tup (by rfl) (pgs_cons (pg_name (i := 3) nd rfl (Or.inl rfl)) (pgs_cons (pg_name (i := 4) nd rfl (Or.inl rfl)) pgs_nil))) (pss_one (ps_if (PW.pt (pw_and (pt_cmpR op_ne (pv 4) (pe_ix (r := rIxT K) ix_tup (pe_ix (r := rIxT K) ix_tup (pe_ix (r := rIxT K) ix_tup (pv 0) pe_int (fun _ _ => rfl)) (pv 3) (fun _ _ => rfl)) pe_int (fun _ _ => rfl)) (nomark _)) (pw_and1 (pt_cmpR op_ne (pv 4) (pe_ix (r := rIxT K) ix_tup (pe_ix (r := rIxT K) ix_tup (pe_ix (r := rIxT K) ix_tup (pv 0) pe_int (fun _ _ => rfl)) (pv 3) (fun _ _ => rfl)) pe_int (fun _ _ => rfl)) (nomark _))))) (pss_one (ps_ret (pe_tup (pa_cons pe_str (pa_cons (pv 3) pa_nil))))) pss_nil)))
    (pss_cons (ps_set (i := 2) nd rfl (Or.inl rfl) pe_str)
    (pss_cons (ps_for PassesOwn.never rfl (pi_enumQ (by rfl) m_enumerate (pa_cons (pe_ix (r := rIxT K) ix_tup (pv 1) pe_int (fun _ _ => rfl)) pa_nil)) (pg_tup (by rfl) (pgs_cons (pg_name (i := 3) nd rfl (Or.inl rfl)) (pgs_cons (pg_tup (by rfl) (pgs_cons (pg_name (i := 5) nd rfl (Or.inl rfl)) (pgs_cons (pg_name (i := 6) nd rfl (Or.inl rfl)) pgs_nil))) pgs_nil))) (pss_cons (ps_if (PW.pt (pw_or (pt_not (pt_val (C8.pe_c c_law_is_name hr (by omega) (by rfl) (pa_cons (pv 5) pa_nil)))) (pw_or1 (pt_not (pt_cmpR op_lt_str (pv 2) (pv 5) (nomark _)))))) (pss_one (ps_ret (pe_tup (pa_cons pe_str (pa_cons (pv 3) pa_nil))))) pss_nil)
    (pss_cons (ps_if (pt_cmpR (r := rIn K true) op_notIn_seq (pv 6) (pe_ix (r := rIxT K) ix_tup (pv 0) pe_int (fun _ _ => rfl)) (by rfl)) (pss_one (ps_ret (pe_tup (pa_cons pe_str (pa_cons (pv 3) pa_nil))))) pss_nil)
    (pss_one (ps_set (i := 2) nd rfl (Or.inl rfl) (pv 5))))))
    (pss_one (ps_ret pe_non))))))))), ?_⟩
  have ans : ∀ (H' : Hp) (w : Str) (k : Nat), Same H H' → vS rooms rows d = some (w, k) → ∀ t, H' t = none → Q (.ref t) (upd H' t (.tup [.str w, .int (k : Nat)])) := fun H' w k s' e t ht => q (.ref t) _ (s'.trans (same_new ht _)) (by rw [e]; exact ⟨t, rfl, upd_same⟩)
  have form : ∀ H', Same H H' → shp 2 d = false → 2 ≤ sizeLine ∧ ∀ t, H' t = none → Q (.ref t) (upd H' t (.tup [.str "form", .int 0])) := fun H' s' e => ⟨(by show 2 ≤ sizeLine; decide), fun t ht => ans H' _ 0 s' (vS_form (by rw [e]; decide)) t ht⟩
  obtain ⟨r, dd, i1, i2, as, i3, iR⟩ := id hH
  have hml : (as.map V.ref).length = rows.length := by rw [List.length_map]; exact iR.1
  refine ⟨_, rfl, x, .ty "tuple", .type (tyD d), .type "tuple", isT d, rfl, .ty _, dm_ty hd, kit_tD d, _, rfl, ?_⟩
  cases ht : isT d with
  | false =>
    refine iteT ?_
    refine iteT ?_
    exact form H (Same.refl H) (shp_no ht)
  | true =>
  obtain ⟨n', a, xs, ds, rfl, rfl, rfl, ha, hl, hlm, hi⟩ := dm_tup hd ht
  refine iteF ?_
  refine ⟨_, rfl, a, _, rfl, .inr (SqT.of ha), rfl, _, rfl, ?_⟩
  by_cases c2 : ds.length = 2
  case neg =>
    rw [show (!decide (V.int (xs.length : Nat) = V.int 2)) = true by rw [decide_eq_false fun z => c2 (by injection z with z; omega)]; rfl]
    refine iteT ?_
    refine iteT ?_
    refine form H (Same.refl H) ?_
    match ds, c2 with
    | [], _ => rfl
    | [_], _ => rfl
    | [_, _], c2 => exact absurd rfl c2
    | _ :: _ :: _ :: _, _ => rfl
  rw [show (!decide (V.int (xs.length : Nat) = V.int 2)) = false by rw [decide_eq_true (show V.int (xs.length : Nat) = V.int 2 by rw [hl, c2]; rfl)]; rfl]
  refine iteF ?_
  obtain ⟨d1, d2, rfl⟩ : ∃ d1 d2, ds = [d1, d2] := by
    match ds, c2 with
    | [d1, d2], _ => exact ⟨d1, d2, rfl⟩
  obtain ⟨v1, v2, rfl⟩ : ∃ v1 v2, xs = [v1, v2] := by
    match xs, hl with
    | [v1, v2], _ => exact ⟨v1, v2, rfl⟩
  have hd1 := hi 0 v1 d1 rfl rfl
  have hd2 := hi 1 v2 d2 rfl rfl
  have es : shp 2 (.tuple [d1, d2]) = (isSs d1 && isGs 2 d2) := rfl
  refine ⟨_, rfl, a, _, _, _, rfl, rfl, SqT.of ha, atI_nat (j := 0) rfl, v1, .ty "tuple", .type (tyD d1), .type "tuple", isT d1, rfl, .ty _, dm_ty hd1, kit_tD d1, _, rfl, ?_⟩
  cases ht1 : isT d1 with
  | false =>
    refine iteT ?_
    exact form H (Same.refl H) (by rw [es, isSs_no ht1]; rfl)
  | true =>
  refine iteF ?_
  obtain ⟨n1, a1, xs1, ds1, e1, rfl, rfl, ha1, hl1, hlm1, hi1⟩ := dm_tup hd1 ht1
  refine ⟨_, rfl, a, _, _, _, rfl, rfl, SqT.of ha, atI_nat (j := 1) rfl, v2, .ty "tuple", .type (tyD d2), .type "tuple", isT d2, rfl, .ty _, dm_ty hd2, kit_tD d2, _, rfl, ?_⟩
  cases ht2 : isT d2 with
  | false =>
    refine iteT ?_
    refine iteT ?_
    exact form H (Same.refl H) (by rw [es, isGs_no ht2, Bool.and_false])
  | true =>
  refine iteF ?_
  obtain ⟨n2, a2, xs2, ds2, e2, rfl, rfl, ha2, hl2, hlm2, hi2⟩ := dm_tup hd2 ht2
  refine ⟨_, rfl, a, _, _, _, rfl, rfl, SqT.of ha, atI_nat (j := 0) rfl, a1, _, rfl, .inr (SqT.of ha1), _, rfl, h, _, _, _, rfl, rfl, SqT.of i1, atI_nat (j := 1) rfl, dd, _, rfl, .inr (SqT.of i3), rfl, _, rfl, ?_⟩
  by_cases c3 : ds1.length = rows.length
  case neg =>
    rw [show (!decide (V.int (xs1.length : Nat) = V.int ((as.map V.ref).length : Nat))) = true by rw [hml, hl1, decide_eq_false fun z => c3 (by injection z with z; omega)]; rfl]
    refine iteT ?_
    refine iteT ?_
    exact ⟨(by show 2 ≤ sizeLine; decide), fun t ht => ans H _ 0 (Same.refl H) (vS_len c3) t ht⟩
  rw [show (!decide (V.int (xs1.length : Nat) = V.int ((as.map V.ref).length : Nat))) = false by rw [hml, hl1, c3, decide_eq_true rfl]; rfl]
  refine iteF ?_
  refine ⟨_, rfl, a, _, _, _, rfl, rfl, SqT.of ha, atI_nat (j := 1) rfl, a2, .tuple ds2, m, n', rfl, hd2, hm9, fun H1 s1 => ⟨_, rfl, ?_⟩⟩
  cases hg : isGs 2 (.tuple ds2) with
  | false =>
    refine iteT ?_
    exact form H1 s1 (by rw [es, hg, Bool.and_false])
  | true =>
  refine iteF ?_
  rw [hg, Bool.and_true] at es
  refine ⟨fun σ' H' => Same H H' ∧ isSs (.tuple ds1) = true ∧ σ' = [some (.ref h), some (.ref a), none, none, none, none, none], ?_, ?_⟩
  · refine ⟨_, rfl, a, _, _, _, rfl, rfl, SqT.of (s1 _ _ ha), atI_nat (j := 0) rfl, a1, rfl, ⟨_, SqT.of (s1 _ _ ha1)⟩, fun D hD => ?_⟩
    refine lc_tup (K := K) (a := a1) (xs := xs1) (fun i Hx => Same H1 Hx ∧ ∃ zs : List V, Hx D = some (.lst zs) ∧ zs.length ≤ i ∧ zs.isEmpty = (ds1.take i).all isS) ⟨same_new hD _, [], upd_same, Nat.zero_le _, rfl⟩ (fun i Hx _ ⟨sx, _⟩ => SqT.of (sx _ _ (s1 _ _ ha1))) (fun i y Hx hy ⟨sx, zs, hDx, hzl, hz⟩ => ?_) (fun Hx ⟨sx, zs, hDx, hzl, hz⟩ => ?_)
    · have hil : i < ds1.length := by rw [← hl1]; exact (List.getElem?_eq_some_iff.mp hy).1
      have he : ds1[i]? = some ds1[i] := List.getElem?_eq_getElem hil
      have hd3 := (hi1 i y _ hy he).tu (Tu.same (s1.trans sx))
      generalize ds1[i] = e at he hd3
      have st : (ds1.take (i + 1)).all isS = ((ds1.take i).all isS && isS e) := by
        rw [take_snoc he, List.all_append]
        simp
      refine ⟨rfl, ?_⟩
      refine ⟨_, rfl, y, .ty "str", .type (tyD e), .type "str", isS e, rfl, .ty _, dm_ty hd3, kit_sD e, _, rfl, ?_⟩
      cases hse : isS e with
      | true =>
        refine iteF ⟨sx, zs, hDx, by omega, ?_⟩
        rw [st, hse, Bool.and_true]
        exact hz
      | false =>
        refine iteT ⟨_, rfl, _, hDx, sz100 (by omega), same_mut sx hD _, zs ++ [y], upd_same, by rw [List.length_append]; show _ + 1 ≤ _; omega, ?_⟩
        rw [st, hse, Bool.and_false]
        cases zs <;> rfl
    rw [hl1, List.take_length] at hz
    have hz' : zs.isEmpty = isSs (.tuple ds1) := hz
    refine ⟨(by show 0 ≤ sizeLine; decide), fun e0 he0 => ?_⟩
    have s1x := (s1.trans sx).trans (same_new he0 (.lst []))
    refine ⟨D, e0, zs, rfl, rfl, SqL.of (same_new he0 _ _ _ hDx), SqL.of upd_same, _, rfl, ?_⟩
    rw [hz']
    cases hss : isSs (.tuple ds1) with
    | true => exact iteF ⟨s1x, rfl, rfl⟩
    | false =>
      refine iteT ?_
      exact form _ s1x (by rw [es, hss])
  rintro σ' H2 ⟨s2, hss, rfl⟩
  have hs : shp 2 (.tuple [.tuple ds1, .tuple ds2]) = true := by rw [es, hss]
  obtain ⟨ss, ps, ed, h2⟩ := shp_ok hs
  have hdm : DM H m (n' + 1) (.ref a) (hsD ss ps) := by rw [← ed]; exact hd
  obtain ⟨a', ea, hA, g1, g2, l1, l2⟩ := hs_of_dm hdm
  cases ea
  rw [ed, vS_hs h2] at q
  have ans' : ∀ (H' : Hp) (w : Str) (k : Nat), Same H H' → sM rooms rows ss ps = some (w, k) → ∀ t, H' t = none → Q (.ref t) (upd H' t (.tup [.str w, .int (k : Nat)])) := fun H' w k s' e t ht => q (.ref t) _ (s'.trans (same_new ht _)) (by rw [e]; exact ⟨t, rfl, upd_same⟩)
  have c4 : ss.length = rows.length := by
    have z := ed
    unfold hsD sD at z
    injection z with z
    injection z with z1 _
    injection z1 with z1
    rw [← c3, z1, List.length_map]
  clear ans form hi1 hi2 hd1 hd2 ha1 ha2 hs hg hss es ed hd hi ht ht1 ht2 c3
  obtain ⟨fa, pl, k1, k2, hR2⟩ := id hA
  obtain ⟨bs, k3, kR⟩ := id hR2
  have hbl : (bs.map V.ref).length = ps.length := by rw [List.length_map]; exact kR.1
  have hsl : (ss.map V.str).length = ss.length := List.length_map _
  refine ⟨_, rfl, a, _, _, _, rfl, rfl, SqT.of (s2 _ _ k1), atI_nat (j := 1) rfl, pl, _, rfl, .inr (SqT.of (s2 _ _ k3)), _, _, rfl, rfl, _, rfl, ?_⟩
  rw [hbl]
  by_cases c5 : ps.length ≤ 5
  case neg =>
    rw [decide_eq_true (show (5 : Int) < (ps.length : Int) by omega)]
    refine iteT ?_
    exact ⟨(by show 2 ≤ sizeLine; decide), fun t ht => ans' H2 ("many" : Str) 0 s2 (by unfold sM; rw [if_pos c4, if_neg c5]) t ht⟩
  rw [decide_eq_false (show ¬ (5 : Int) < (ps.length : Int) by omega)]
  refine iteF ?_
  have evm : sM rooms rows ss ps = match fstB (bFace rows) [] ss with | some b => some b | none => fstB (bPlace rooms) [] ps := by
    unfold sM
    rw [if_pos c4, if_pos c5]
    all_goals (cases fstB (bFace rows) [] ss <;> rfl)
  rw [evm] at q ans'
  refine ⟨fun σ' H' => Same H H' ∧ fstB (bFace rows) [] ss = none ∧ ∃ v3 v4 : Option V, σ' = [some (.ref h), some (.ref a), none, v3, v4, none, none], ?_, ?_⟩
  · refine ⟨_, rfl, a, _, _, _, rfl, rfl, SqT.of (s2 _ _ k1), atI_nat (j := 0) rfl, fa, rfl, ?_⟩
    refine for_enq (H0 := H2) (xs := ss.map V.str) (.inr (SqT.of (s2 _ _ k2))) (fun i σ' H' => Same H2 H' ∧ fstB (bFace rows) [] (ss.take i) = none ∧ ∃ v3 v4 : Option V, σ' = [some (.ref h), some (.ref a), none, v3, v4, none, none]) ⟨Same.refl H2, rfl, _, _, rfl⟩ (fun i σ' H' ⟨sx, _⟩ => sx) (fun i y σ' H' T hy hP hT => ?_) (fun σ' H' hP => ?_)
    · obtain ⟨sx, hb, v3, v4, rfl⟩ := hP
      obtain ⟨x, hx, rfl⟩ := str_at hy
      obtain ⟨b1, b2⟩ := fstB_step hx hb
      have hil : i < ss.length := (List.getElem?_eq_some_iff.mp hx).1
      have tl : (ss.take i).length = i := by rw [List.length_take]; omega
      have sT := (s2.trans sx).trans (same_new hT (.tup [.int (i : Nat), .str x]))
      have sU := sx.trans (same_new hT (.tup [.int (i : Nat), .str x]))
      have hri : rows[i]? = some (rows[i]'(by omega)) := List.getElem?_eq_getElem (by omega)
      obtain ⟨n0, e1, e2, er, _⟩ := hV.row _ (List.getElem_mem (show i < rows.length by omega))
      rw [er] at hri
      have hai : as[i]? = some (as[i]'(by rw [iR.1]; omega)) := List.getElem?_eq_getElem (by rw [iR.1]; omega)
      generalize as[i]'(by rw [iR.1]; omega) = ai at hai
      have hrow := iR.2 i _ _ hai hri
      have exi : (as.map V.ref)[i]? = some (.ref ai) := by rw [List.getElem?_map, hai]; rfl
      have gd_ : rows.getD (ss.take i).length [] = [n0, e1, e2] := by rw [tl, List.getD_eq_getElem?_getD, hri]; rfl
      refine ⟨T, _, rfl, SqT.of upd_same, rfl, _, _, rfl, _, _, rfl, rfl, ?_⟩
      generalize upd H' T (.tup [.int (i : Nat), .str x]) = H3 at sT sU ⊢
      have ok_ : x ∈ [e1, e2] → fstB (bFace rows) [] (ss.take (i + 1)) = none := fun c => b2 (by unfold bFace; rw [gd_]; exact if_pos c)
      refine ⟨_, rfl, _, rfl, h, _, _, _, rfl, rfl, SqT.of (sT _ _ i1), atI_nat (j := 1) rfl, _, rfl, dd, _, _, _, rfl, rfl, SqT.of (sT _ _ i3), atI_nat exi, ai, _, _, _, rfl, rfl, SqT.of (sT _ _ hrow), atI_nat (j := 1) rfl, rfl, _, rfl, ?_⟩
      by_cases c6 : x = e1
      · rw [show (!decide (V.str x = V.str e1)) = false by rw [decide_eq_true (show V.str x = V.str e1 by rw [c6])]; rfl]
        refine iteF ?_
        exact iteF ⟨sU, ok_ (by rw [c6]; exact List.mem_cons_self ..), _, _, rfl⟩
      rw [show (!decide (V.str x = V.str e1)) = true by rw [decide_eq_false (fun z => c6 (V.str.inj z))]; rfl]
      refine iteT ?_
      refine ⟨_, rfl, _, rfl, h, _, _, _, rfl, rfl, SqT.of (sT _ _ i1), atI_nat (j := 1) rfl, _, rfl, dd, _, _, _, rfl, rfl, SqT.of (sT _ _ i3), atI_nat exi, ai, _, _, _, rfl, rfl, SqT.of (sT _ _ hrow), atI_nat (j := 2) rfl, rfl, _, rfl, ?_⟩
      by_cases c7 : x = e2
      · rw [show (!decide (V.str x = V.str e2)) = false by rw [decide_eq_true (show V.str x = V.str e2 by rw [c7])]; rfl]
        exact iteF ⟨sU, ok_ (by rw [c7]; exact List.mem_cons_of_mem _ (List.mem_cons_self ..)), _, _, rfl⟩
      rw [show (!decide (V.str x = V.str e2)) = true by rw [decide_eq_false (fun z => c7 (V.str.inj z))]; rfl]
      refine iteT ?_
      have e := b1 (("face" : Str), i) (by unfold bFace; rw [gd_, tl]; exact if_neg (fun z => by
        rcases List.mem_cons.mp z with z | z
        · exact c6 z
        · exact c7 (List.mem_singleton.mp z)))
      rw [e] at ans'
      exact ⟨_, rfl, (by show 2 ≤ sizeLine; decide), fun t ht => ans' H3 _ i sT rfl t ht⟩
    · obtain ⟨sx, hb, v3, v4, rfl⟩ := hP
      rw [hsl, List.take_length] at hb
      exact ⟨s2.trans sx, hb, _, _, rfl⟩
  rintro σ' H5 ⟨s5, hb0, v3, v4, rfl⟩
  rw [hb0] at q ans'
  refine ⟨_, rfl, a, _, _, _, rfl, rfl, SqT.of (s5 _ _ k1), atI_nat (j := 1) rfl, pl, rfl, ?_⟩
  refine for_enq (H0 := H5) (xs := bs.map V.ref) (.inr (SqT.of (s5 _ _ k3))) (fun i σ' H' => Same H5 H' ∧ fstB (bPlace rooms) [] (ps.take i) = none ∧ ∃ v3 v4 v5 v6 : Option V, σ' = [some (.ref h), some (.ref a), some (.str (lastW (ps.take i))), v3, v4, v5, v6]) ⟨Same.refl H5, rfl, _, _, _, _, rfl⟩ (fun i σ' H' ⟨sx, _⟩ => sx) (fun i y σ' H' T hy hP hT => ?_) (fun σ' H' hP => ?_)
  · obtain ⟨sx, hb, v3, v4, v5, v6, rfl⟩ := hP
    obtain ⟨pa, p, rfl, hpi, hpa⟩ := kR.row hy
    have lp := l2 p (List.mem_of_getElem? hpi)
    have h2' := h2 p (List.mem_of_getElem? hpi)
    obtain ⟨wk, rm, rfl⟩ : ∃ wk rm, p = [wk, rm] := by
      match p, h2' with
      | [wk, rm], _ => exact ⟨wk, rm, rfl⟩
    have hxl := lp wk (List.mem_cons_self ..)
    obtain ⟨b1, b2⟩ := fstB_step hpi hb
    have hil : i < ps.length := (List.getElem?_eq_some_iff.mp hpi).1
    have tl : (ps.take i).length = i := by rw [List.length_take]; omega
    have sU := sx.trans (same_new hT (.tup [.int (i : Nat), .ref pa]))
    have sT := s5.trans sU
    refine ⟨T, _, rfl, SqT.of upd_same, rfl, _, _, rfl, _, _, rfl, ⟨pa, _, rfl, SqT.of (sT _ _ hpa), rfl, _, _, rfl, _, _, rfl, rfl, rfl, ?_⟩⟩
    show tSeq _ _ _ _ (upd H' T (.tup [.int (i : Nat), .ref pa]))
    generalize upd H' T (.tup [.int (i : Nat), .ref pa]) = H6 at sT sU ⊢
    refine ⟨_, rfl, wk, rfl, Nat.le_trans hxl (by decide), fun H7 s7 => ⟨_, rfl, ?_⟩⟩
    have s07 := sT.trans s7
    have s57 := sU.trans s7
    by_cases c6 : Nm wk
    case neg =>
      rw [decide_eq_false c6]
      refine iteT ?_
      refine iteT ?_
      have e := b1 (("walker" : Str), i) (by unfold bPlace; rw [if_neg (fun z => c6 z.1), tl])
      rw [e] at ans'
      exact ⟨_, rfl, (by show 2 ≤ sizeLine; decide), fun t ht => ans' H7 _ i s07 rfl t ht⟩
    rw [decide_eq_true c6]
    refine iteF ?_
    refine ⟨_, rfl, _, rfl, _, _, rfl, rfl, _, rfl, ?_⟩
    by_cases c7 : (lastW (ps.take i)).cps.toList < wk.cps.toList
    case neg =>
      rw [decide_eq_false c7]
      refine iteT ?_
      have e := b1 (("walker" : Str), i) (by unfold bPlace; rw [if_neg (fun z => c7 z.2), tl])
      rw [e] at ans'
      exact ⟨_, rfl, (by show 2 ≤ sizeLine; decide), fun t ht => ans' H7 _ i s07 rfl t ht⟩
    rw [decide_eq_true c7]
    refine iteF ?_
    refine ⟨_, rfl, _, rfl, h, _, _, _, rfl, rfl, SqT.of (s07 _ _ i1), atI_nat (j := 0) rfl, r, _, rfl, .inr (SqT.of (s07 _ _ i2)), rfl, flat_strs _, _, rfl, ?_⟩
    rw [if_pos rfl, inV_str]
    by_cases c8 : rm ∈ rooms
    case neg =>
      rw [decide_eq_false c8]
      refine iteT ?_
      have e := b1 (("room" : Str), i) (by unfold bPlace; rw [if_pos ⟨c6, c7⟩]; exact (if_neg c8).trans (by rw [tl]))
      rw [e] at ans'
      exact ⟨_, rfl, (by show 2 ≤ sizeLine; decide), fun t ht => ans' H7 _ i s07 rfl t ht⟩
    rw [decide_eq_true c8]
    refine iteF ?_
    have lw : lastW (ps.take (i + 1)) = wk := by
      unfold lastW
      rw [take_snoc hpi, List.map_append]
      simp [hd0]
    refine ⟨_, rfl, s57, b2 (by unfold bPlace; rw [if_pos ⟨c6, c7⟩]; exact if_pos c8), some (.int (i : Nat)), v4, some (.str wk), some (.str rm), ?_⟩
    rw [lw]
    rfl
  · obtain ⟨sx, hb, v3, v4, v5, v6, rfl⟩ := hP
    rw [hbl, List.take_length] at hb
    rw [hb] at q
    exact q _ _ (s5.trans sx) rfl
structure EKs (K : PySem.W.Frag) : Prop where
  t : True
abbrev s_met : Stmt := top 23
abbrev n_met : List Str := ["hall", "value", "found", "e"]
theorem sc_met : FnScope n_met ["hall", "value"] (defScope s_met) := ⟨rfl, rfl, rfl, by decide +kernel, rfl, by decide +kernel, by decide +kernel⟩
theorem ok_law_met (F : FnP K "_law_met" s_met f fd) (hm : mg "_law_met" = some (.ref f)) (c_validate_state : CalX P w K mg base 4 "validate_state" (spValS K)) (m_int : mg "int" = none) (MS : ErrMV2 P w K mg base "InvalidState" "reason" "index") : Cal P w K mg base 5 "_law_met" spWAt := by
  refine cal_of (F.ok sc_met (fun vs H Q E h => ?_) (fun cdv A outer s H vs Q E hr h => ?_)) hm F.kp (F.bindsN (ps := ["hall", "value"]) fun _ _ _ _ _ _ us hl => match us, hl with | [_, _], _ => rfl)
  · obtain ⟨h, x, d, m, n, rooms, rows, rfl, hH, hV, hd, hm9, q⟩ := h
    rfl
  obtain ⟨h, x, d, m, n, rooms, rows, rfl, hH, hV, hd, hm9, q⟩ := h
  have nd := sc_met.nd
  refine ⟨_, (pss_cons (ps_set (i := 2) nd rfl (Or.inl rfl) pe_str)
    (pss_cons (ps_try_seq (tb := fun W => tAsg (tOp (rIxL K) (tLst (tCons (tVar 2) (tCons (tC .non) tNil))) (tCB _ (tCons (tOp _ (tCallS (spValS K) (WE W) (tCons (tVar 0) (tCons (tVar 1) tNil))) (tC (.bl true))) tNil))) (gName 2)) rfl rfl nd
      (fun W pn xe tk _ => pss_one (ps_set (i := 2) nd rfl (Or.inl rfl) (pe_ix (r := rIxL K) ix_list (pe_lst (pa_cons (pv 2) (pa_cons pe_non pa_nil))) (pe_callTy call_int1 (by rfl) m_int (by decide +kernel) (pa_cons (pe_cmpR op_isBl (pe_cX c_validate_state hr (by omega) (fun σ => passAt tk σ) (by rfl) (pa_cons (pv 0) (pa_cons (pv 1) pa_nil))) pe_bl (nomark _)) pa_nil)) (fun _ _ => rfl))))
      (.cons (i := 3) ⟨by rfl, by decide, Or.inl MS.g⟩ rfl rfl (fun a oe cls d pn hz hf => pss_one (ps_set (i := 2) nd rfl (Or.inl rfl) (pe_tup (pa_cons (pe_xf MS.t.v.xf MS.t.v.no hz hf (pv 3)) (pa_cons (pe_xf MS.t.v.xf MS.t.no2 hz hf (pv 3)) pa_nil)))))
        (.any _)))
    (pss_one (ps_ret (pv 2))))), ?_⟩
  refine ⟨_, rfl, (by show 2 ≤ sizeLine; decide), fun lp hlp => ?_⟩
  have s0 := same_new hlp (.lst [.str "other", .non])
  have hl0 : upd H lp (.lst [.str "other", .non]) lp = some (.lst [.str "other", .non]) := upd_same
  have hd0_ := hd.tu (Tu.same s0)
  have hH0 := hH.tu (Tu.same s0)
  generalize upd H lp (.lst [.str "other", .non]) = H0 at s0 hl0 hd0_ hH0 ⊢
  refine ⟨_, rfl, _, rfl, h, x, d, m, n, rooms, rows, rfl, hH0, hV, hd0_, hm9, fun e H' s' => ?_, fun b e H' s' dx hdx => ?_⟩
  · refine ⟨_, _, rfl, rfl, .inr ⟨_, rfl, ?_⟩⟩
    refine ⟨lp, _, _, _, rfl, rfl, SqL.of (s' _ _ hl0), atI_nat (j := 1) rfl, ?_⟩
    refine ⟨_, rfl, ?_⟩
    exact q _ _ (s0.trans s') (by rw [e]; rfl)
  · refine .inl ⟨MS.t.v.me, fun a ha => ?_⟩
    refine ⟨_, rfl, rfl, rfl, dx, _, .str b.1, rfl, upd_same, by (have e : (("reason" : Str) == "index") = false := by decide +kernel); simp [List.lookup, e], _, rfl, rfl, rfl, dx, _, .int (b.2 : Nat), rfl, upd_same, by simp [List.lookup], (by show 2 ≤ sizeLine; decide), fun t ht => ⟨_, rfl, ?_⟩⟩
    refine q _ _ (((s0.trans s').trans (same_new hdx _)).trans (same_new ht _)) ?_
    rw [e]
    exact ⟨t, rfl, upd_same⟩
end
end Td
set_option maxHeartbeats 4000000
namespace Td
open PySem PySem.Spec PyProof.Rows L2
abbrev sgs : Str := "!\"#$&'()*+,-./0123456789:;<=>?@ABCDEFGHIJKLMNOPQRSTUVWXYZ[\\]^_`{|}~"
theorem sz_two {a b : Str} (h1 : a.length ≤ 200) (h2 : b.length ≤ 200) : a.length + b.length ≤ sizeLine := Nat.le_trans (show a.length + b.length ≤ 400 by omega) (by decide)
theorem cut_fr_ {xs : List V} (j : Nat) : cutV xs (some (j : Int)) none = xs.drop j := cut_from
theorem sl_to_le (t : Str) {i : Int} (h : 0 ≤ i) : (Txt.slice t none (some i)).length ≤ i.toNat := by
  rw [← S_cs' t, SX.slice_to h, SX.S_len, List.length_take]
  exact Nat.min_le_left _ _
theorem sl_fr_le (t : Str) {i : Int} (h : 0 ≤ i) : (Txt.slice t (some i) none).length ≤ t.length - i.toNat := by
  have e : (Txt.slice (SX.S (cs t)) (some i) none).length = (cs t).length - i.toNat := by rw [SX.slice_from h, SX.S_len, List.length_drop]
  have l : (cs t).length = t.length := by rw [← SX.S_len, S_cs']
  rw [S_cs', l] at e
  omega
/-- the things that stand ready -/
theorem thing_items {H : Hp} {l m n : Nat} {m1 : Int} {t0 t1 t2 t3 t4 t5 : Addr} (h8 : 8 ≤ l) (hm : 13 ≤ m) (hn : 4 ≤ n) (g0 : H t0 = some (.tup [])) (g1 : H t1 = some (.tup [.str "a"])) (g2 : H t2 = some (.tup [.str "a", .str "b"])) (g3 : H t3 = some (.tup [])) (g4 : H t4 = some (.tup [])) (g5 : H t5 = some (.tup [.ref t3, .ref t4])) :
    ∀ v ∈ ([.int 0, .int 1, .int 7, .int m1, .bl true, .bl false, .non, .str "", .str "a", .str "A", .str "abcdefg", .str "x1", .ref t0, .ref t1, .ref t2, .ref t5] : List V), DV H (l + 1) m (n + 1) v := fun v hv => by
  have st : ∀ (s : Str) (k : Nat), s.length ≤ 8 → DV H (l + 1) m (k + 1) (.str s) := fun s k h => DV.str (by omega)
  have em : ∀ (t : Addr) (k : Nat), H t = some (.tup []) → DV H (l + 1) m (k + 1) (.ref t) := fun t k h => DV.mk h (Nat.zero_le _) fun y hy => by cases hy
  obtain ⟨k, rfl⟩ : ∃ k, n = k + 1 := ⟨n - 1, by omega⟩
  simp only [List.mem_cons, List.not_mem_nil, or_false] at hv
  rcases hv with rfl | rfl | rfl | rfl | rfl | rfl | rfl | rfl | rfl | rfl | rfl | rfl | rfl | rfl | rfl | rfl
  · exact .int
  · exact .int
  · exact .int
  · exact .int
  · exact .bl
  · exact .bl
  · exact .non
  · exact st _ _ (by decide)
  · exact st _ _ (by decide)
  · exact st _ _ (by decide)
  · exact st _ _ (by decide)
  · exact st _ _ (by decide)
  · exact em _ _ g0
  · exact DV.mk g1 (by show 1 ≤ m; omega) fun y hy => by rw [List.mem_singleton.mp hy]; exact st _ _ (by decide)
  · exact DV.mk g2 (by show 2 ≤ m; omega) fun y hy => by
      rcases List.mem_cons.mp hy with rfl | hy
      · exact st _ _ (by decide)
      · rw [List.mem_singleton.mp hy]; exact st _ _ (by decide)
  · exact DV.mk g5 (by show 2 ≤ m; omega) fun y hy => by
      rcases List.mem_cons.mp hy with rfl | hy
      · exact em _ _ g3
      · rw [List.mem_singleton.mp hy]; exact em _ _ g4
section
variable {P : Program} {w : World} {K : PySem.W.Frag} {mg : Str → Option Value} {base : Heap} {f : Addr} {fd : FuncData}
abbrev s_law_sign : Stmt := top 24
abbrev n_law_sign : List Str := ["box", "signs"]
theorem sc_law_sign : FnScope n_law_sign ["box"] (defScope s_law_sign) := ⟨rfl, rfl, rfl, by decide +kernel, rfl, by decide +kernel, by decide +kernel⟩
theorem ok_law_sign (F : FnP K "_law_sign" s_law_sign f fd) (hm : mg "_law_sign" = some (.ref f)) (c_law_take : Cal P w K mg base 1 "_law_take" spTake) (m_len : mg "len" = none) :
    Cal P w K mg base 2 "_law_sign" spSgn := by
  refine cal_of (F.ok sc_law_sign (fun vs H Q E h => ?_) (fun cdv A outer s H vs Q E hr h => ?_)) hm F.kp (F.bindsN (ps := ["box"]) fun _ _ _ _ _ _ us hl => match us, hl with | [_], _ => rfl)
  · obtain ⟨b, rfl, hB, q⟩ := h
    rfl
  obtain ⟨b, rfl, hB, q⟩ := h
  have nd := sc_law_sign.nd
  refine ⟨_, PSs.nox (pss_cons (ps_set (i := 1) nd rfl (Or.inl rfl) pe_str)
    (pss_one (ps_ret (pe_ix ix_str (pv 1) (C8.pe_c c_law_take hr (by omega) (by rfl) (pa_cons (pv 0) (pa_cons (pe_callB call_len_str (by rfl) m_len PySem.boot_len (pa_cons (pv 1) pa_nil)) pa_nil))) (fun _ _ => rfl))))), ?_⟩
  refine ⟨_, rfl, _, rfl, _, rfl, sgs, rfl, (show sgs.length ≤ sizeLine by decide +kernel), b, _, rfl, hB, (show (0 : Int) < (sgs.length : Int) by decide +kernel), (show (sgs.length : Int) < 1073741824 by decide +kernel), fun r H1 r0 r1 B1 c1 => ?_⟩
  obtain ⟨j, rfl⟩ : ∃ j : Nat, r = (j : Int) := ⟨r.toNat, by omega⟩
  have hj : j < sgs.cps.toList.length := by
    have e : sgs.cps.toList.length = sgs.length := by simp [Str.length]
    omega
  refine ⟨sgs, _, _, rfl, rfl, (show sgs.length ≤ sizeLine by decide +kernel), atI_nat (List.getElem?_eq_getElem hj), ?_⟩
  exact q _ H1 rfl B1 c1
abbrev s_law_thing : Stmt := top 25
abbrev n_law_thing : List Str := ["box", "hall", "thing", "room", "some", "base", "at"]
theorem sc_law_thing : FnScope n_law_thing ["box", "hall", "thing"] (defScope s_law_thing) := ⟨rfl, rfl, rfl, by decide +kernel, rfl, by decide +kernel, by decide +kernel⟩
theorem ok_law_thing (F : FnP K "_law_thing" s_law_thing f fd) (hm : mg "_law_thing" = some (.ref f)) (c_law_sign : Cal P w K mg base 2 "_law_sign" spSgn) (c_law_take : Cal P w K mg base 1 "_law_take" spTake) (m_isinstance : mg "isinstance" = none) (m_len : mg "len" = none) (m_str : mg "str" = none) :
    Cal P w K mg base 3 "_law_thing" spThing := by
  refine cal_of (F.ok sc_law_thing (fun vs H Q E h => ?_) (fun cdv A outer s H vs Q E hr h => ?_)) hm F.kp (F.bindsN (ps := ["box", "hall", "thing"]) fun _ _ _ _ _ _ us hl => match us, hl with | [_, _, _], _ => rfl)
  · obtain ⟨b, h, x, l, m, n, rooms, rows, rfl, hB, hH, hV, hd, l8, l90, m13, m800, n4, q⟩ := h
    rfl
  obtain ⟨b, h, x, l, m, n, rooms, rows, rfl, hB, hH, hV, hd, l8, l90, m13, m800, n4, q⟩ := h
  have nd := sc_law_thing.nd
  refine ⟨_, PSs.nox (pss_cons (ps_set (i := 3) nd rfl (Or.inl rfl) (pe_ix (r := rIxT K) ix_tup (pe_ix (r := rIxT K) ix_tup (pv 1) pe_int (fun _ _ => rfl)) (C8.pe_c c_law_take hr (by omega) (by rfl) (pa_cons (pv 0) (pa_cons (pe_callB (r := rLn K) call_len_seq (by rfl) m_len PySem.boot_len (pa_cons (pe_ix (r := rIxT K) ix_tup (pv 1) pe_int (fun _ _ => rfl)) pa_nil)) pa_nil))) (fun _ _ => rfl)))
    (C8.pss_cut (ps_if (PW.pt (pw_and (pt_val (pe_callB (r := rIsi K) call_isi (by rfl) m_isinstance (by decide +kernel) (pa_cons (pv 2) (pa_cons (pe_bltn (by rfl) m_str (by decide +kernel) (show L2.RelV (.ty "str") (.type "str") from rfl)) pa_nil)))) (pw_and1 (pt_cmpR op_eq (C8.pe_c c_law_take hr (by omega) (by rfl) (pa_cons (pv 0) (pa_cons pe_int pa_nil))) pe_int (nomark _))))) (pss_cons (ps_set (i := 5) nd rfl (Or.inl rfl) (pe_ix (r := rIxL K) ix_list (pe_lst (pa_cons (pv 2) (pa_cons (pv 3) pa_nil))) (C8.pe_c c_law_take hr (by omega) (by rfl) (pa_cons (pv 0) (pa_cons pe_int pa_nil))) (fun _ _ => rfl)))
    (pss_cons (ps_set (i := 6) nd rfl (Or.inl rfl) (pe_ix (r := rIxL K) ix_list (pe_lst (pa_cons pe_int (pa_cons (pe_callB call_len_str (by rfl) m_len PySem.boot_len (pa_cons (pv 5) pa_nil)) (pa_cons (C8.pe_c c_law_take hr (by omega) (by rfl) (pa_cons (pv 0) (pa_cons (pe_op op_add (pe_callB call_len_str (by rfl) m_len PySem.boot_len (pa_cons (pv 5) pa_nil)) pe_int) pa_nil))) pa_nil)))) (C8.pe_c c_law_take hr (by omega) (by rfl) (pa_cons (pv 0) (pa_cons pe_int pa_nil))) (fun _ _ => rfl)))
    (pss_one (ps_ret (pe_op op_add_str (pe_op op_add_str (pe_slice C8.sl_txt (pv 5) po_none (po_some (pv 6))) (pe_ix (r := rIxL K) ix_list (pe_lst (pa_cons pe_str (pa_cons pe_str (pa_cons (C8.pe_c c_law_sign hr (by omega) (by rfl) (pa_cons (pv 0) pa_nil)) pa_nil)))) (C8.pe_c c_law_take hr (by omega) (by rfl) (pa_cons (pv 0) (pa_cons pe_int pa_nil))) (fun _ _ => rfl))) (pe_slice C8.sl_txt (pv 5) (po_some (pe_op op_add (pv 6) (C8.pe_c c_law_take hr (by omega) (by rfl) (pa_cons (pv 0) (pa_cons pe_int pa_nil))))) po_none)))))) pss_nil)
    (pss_cons (ps_set (i := 4) nd rfl (Or.inl rfl) (pe_lst (pa_cons pe_int (pa_cons pe_int (pa_cons pe_int (pa_cons (pe_op op_sub pe_int pe_int) (pa_cons pe_bl (pa_cons pe_bl (pa_cons pe_non (pa_cons pe_str (pa_cons pe_str (pa_cons pe_str (pa_cons pe_str (pa_cons pe_str (pa_cons (pe_tup pa_nil) (pa_cons (pe_tup (pa_cons pe_str pa_nil)) (pa_cons (pe_tup (pa_cons pe_str (pa_cons pe_str pa_nil))) (pa_cons (pe_tup (pa_cons (pe_tup pa_nil) (pa_cons (pe_tup pa_nil) pa_nil))) pa_nil))))))))))))))))))
    (pss_cons (ps_set (i := 4) nd rfl (Or.inl rfl) (pe_op op_cat (pv 4) (pe_lst (pa_cons (pv 2) (pa_cons (pe_tup (pa_cons (pv 2) pa_nil)) (pa_cons (pe_ix (r := rIxT K) ix_tup (pe_ix (r := rIxT K) ix_tup (pv 1) pe_int (fun _ _ => rfl)) (C8.pe_c c_law_take hr (by omega) (by rfl) (pa_cons (pv 0) (pa_cons (pe_callB (r := rLn K) call_len_seq (by rfl) m_len PySem.boot_len (pa_cons (pe_ix (r := rIxT K) ix_tup (pv 1) pe_int (fun _ _ => rfl)) pa_nil)) pa_nil))) (fun _ _ => rfl)) (pa_cons (pv 1) pa_nil)))))))
    (pss_cons (ps_set (i := 4) nd rfl (Or.inl rfl) (pe_op op_cat (pv 4) (pe_lst (pa_cons (pe_op op_add_str pe_str (C8.pe_c c_law_sign hr (by omega) (by rfl) (pa_cons (pv 0) pa_nil))) (pa_cons (pe_op op_add_str pe_str (C8.pe_c c_law_sign hr (by omega) (by rfl) (pa_cons (pv 0) pa_nil))) pa_nil)))))
    (pss_one (ps_ret (pe_ix (r := rIxL K) ix_list (pv 4) (C8.pe_c c_law_take hr (by omega) (by rfl) (pa_cons (pv 0) (pa_cons pe_int pa_nil))) (fun _ _ => rfl))))))))), ?_⟩
  obtain ⟨r, dd, i1, i2, as, i3, iR⟩ := id hH
  have r1_ := hV.r1
  have r8 := hV.r8
  have hrl : (rooms.map V.str).length = rooms.length := List.length_map _
  have tuB : ∀ {H' : Hp}, Ch b H H' → Tu H H' := fun c => Tu.of c hB
  refine ⟨_, rfl, h, _, _, _, rfl, rfl, SqT.of i1, atI_nat (j := 0) rfl, _, rfl, _, rfl, h, _, _, _, rfl, rfl, SqT.of i1, atI_nat (j := 0) rfl, r, _, rfl, .inr (SqT.of i2), b, _, rfl, hB, by omega, by omega, fun r0 H1 r00 r01 B1 c1 => ?_⟩
  rw [hrl] at r01
  obtain ⟨rm, hrm, arm⟩ := atS (ss := rooms) (j := r0) r00 r01
  have rm8 : rm.length ≤ l := Nat.le_trans (Nat.le_trans (hV.nm rm (List.mem_of_getElem? hrm)).2.1 (by decide)) l8
  refine ⟨r, _, _, _, rfl, rfl, SqT.of (tuB c1 _ _ i2), arm, ?_⟩
  refine ⟨fun σ' H' => Box H' b ∧ Ch b H H' ∧ σ' = [some (.ref b), some (.ref h), some x, some (.str rm), none, none, none], ?_, ?_⟩
  · obtain ⟨ty, hty, hc⟩ := (hd.tu (tuB c1)).cases
    rcases hc with ⟨s, rfl, hs, rfl⟩ | ⟨n', a, xs, rfl, rfl, rfl, _⟩ | hc
    · refine ⟨_, rfl, .str s, .ty "str", .type "str", .type "str", true, rfl, .ty _, hty K, kits.1, _, rfl, ?_⟩
      refine iteT ?_
      refine ⟨_, rfl, b, 4, rfl, B1, by decide, by decide, fun r2 H2 r20 r21 B2 c2 => ⟨rfl, _, rfl, ?_⟩⟩
      have c02 := c1.trans c2
      by_cases z : r2 = 0
      case neg =>
        rw [dint_f z]
        exact iteF ⟨B2, c02, rfl⟩
      rw [decide_eq_true (show V.int r2 = V.int 0 by rw [z])]
      refine iteT ?_
      refine ⟨_, rfl, _, rfl, (by show 2 ≤ sizeLine; decide), fun lp hlp => ⟨_, rfl, b, 2, rfl, B2.new hlp _, by decide, by decide, fun r3 H3 r30 r31 B3 c3 => ?_⟩⟩
      obtain ⟨bs, hbs, lbs⟩ : ∃ bs : Str, atI ([.str s, .str rm] : List V) r3 = some (.str bs) ∧ bs.length ≤ l := by
        have z : r3 = 0 ∨ r3 = 1 := by omega
        rcases z with rfl | rfl
        · exact ⟨s, atI_nat (j := 0) rfl, hs⟩
        · exact ⟨rm, atI_nat (j := 1) rfl, rm8⟩
      refine ⟨lp, _, _, _, rfl, rfl, SqL.of (c3 _ _ (B2.ne hlp) upd_same), hbs, ?_⟩
      have c03 := (c02.new hlp (.lst [.str s, .str rm])).trans c3
      have szb : bs.length ≤ sizeLine := Nat.le_trans lbs (Nat.le_trans l90 (by decide))
      refine ⟨_, rfl, bs, rfl, szb, _, rfl, _, rfl, bs, rfl, szb, _, _, rfl, rfl, b, _, rfl, B3, by omega, by omega, fun r4 H4 r40 r41 B4 c4 => ?_⟩
      refine ⟨(by show 3 ≤ sizeLine; decide), fun l2 hl2 => ⟨_, rfl, b, 3, rfl, B4.new hl2 _, by decide, by decide, fun r5 H5 r50 r51 B5 c5 => ?_⟩⟩
      obtain ⟨av, hav, av0, av1⟩ : ∃ av : Int, atI ([.int 0, .int (bs.length : Nat), .int r4] : List V) r5 = some (.int av) ∧ 0 ≤ av ∧ av ≤ (bs.length : Nat) := by
        have z : r5 = 0 ∨ r5 = 1 ∨ r5 = 2 := by omega
        rcases z with rfl | rfl | rfl
        · exact ⟨0, atI_nat (j := 0) rfl, by decide, by omega⟩
        · exact ⟨_, atI_nat (j := 1) rfl, by omega, by omega⟩
        · exact ⟨r4, atI_nat (j := 2) rfl, r40, by omega⟩
      refine ⟨l2, _, _, _, rfl, rfl, SqL.of (c5 _ _ (B4.ne hl2) upd_same), hav, ?_⟩
      have c05 := ((c03.trans c4).new hl2 (.lst [.int 0, .int (bs.length : Nat), .int r4])).trans c5
      have t1 := sl_to_le bs av0
      refine ⟨_, rfl, _, rfl, _, rfl, _, rfl, szb, _, rfl, b, rfl, B5, fun sg H6 hsg B6 c6 => ?_⟩
      refine ⟨(by show 3 ≤ sizeLine; decide), fun l3 hl3 => ⟨_, rfl, b, 3, rfl, B6.new hl3 _, by decide, by decide, fun r6 H7 r60 r61 B7 c7 => ?_⟩⟩
      obtain ⟨sg2, hs2, ls2⟩ : ∃ sg2 : Str, atI ([.str " ", .str "\n", .str sg] : List V) r6 = some (.str sg2) ∧ sg2.length = 1 := by
        have z : r6 = 0 ∨ r6 = 1 ∨ r6 = 2 := by omega
        rcases z with rfl | rfl | rfl
        · exact ⟨" ", atI_nat (j := 0) rfl, rfl⟩
        · exact ⟨"\n", atI_nat (j := 1) rfl, rfl⟩
        · exact ⟨sg, atI_nat (j := 2) rfl, hsg⟩
      refine ⟨l3, _, _, _, rfl, rfl, SqL.of (c7 _ _ (B6.ne hl3) upd_same), hs2, _, _, rfl, rfl, sz_two (by omega) (by omega), ?_⟩
      have c07 := ((c05.trans c6).new hl3 (.lst [.str " ", .str "\n", .str sg])).trans c7
      refine ⟨_, rfl, _, rfl, _, rfl, b, 2, rfl, B7, by decide, by decide, fun r7 H8 r70 r71 B8 c8 => ?_⟩
      have f1 := sl_fr_le bs (show 0 ≤ av + r7 by omega)
      have la : (Txt.slice bs none (some av) ++ sg2).length ≤ av.toNat + 1 := by rw [str_len_app]; omega
      refine ⟨_, _, rfl, rfl, _, rfl, _, rfl, szb, _, _, rfl, rfl, sz_two (by omega) (by omega), ?_⟩
      refine q _ H8 (DV.str ?_) B8 (c07.trans c8)
      rw [str_len_app]
      omega
    · refine ⟨_, rfl, .ref a, .ty "str", .type "tuple", .type "str", false, rfl, .ty _, hty K, kits.2.1, _, rfl, ?_⟩
      refine iteF ?_
      exact iteF ⟨B1, c1, rfl⟩
    · refine ⟨_, rfl, x, .ty "str", .type ty, .type "str", false, rfl, .ty _, hty K, (kits.2.2.2.2 ty hc).1, _, rfl, ?_⟩
      refine iteF ?_
      exact iteF ⟨B1, c1, rfl⟩
  rintro σ' H2 ⟨B2, c2, rfl⟩
  have hd2 := hd.tu (tuB c2)
  have hdw : ∀ {H' : Hp}, Tu H H' → DV H' (l + 1) m (n + 1) x := fun t => (hd.tu t).wide (Nat.le_succ l) (Nat.le_refl m) (Nat.le_succ n)
  -- the first list
  refine ⟨_, _, rfl, rfl, (by show 0 ≤ sizeLine; decide), fun t0 ht0 => ?_⟩
  have u0 := same_new ht0 (.tup [])
  have g0 : upd H2 t0 (.tup []) t0 = some (.tup []) := upd_same
  generalize upd H2 t0 (.tup []) = G0 at u0 g0 ⊢
  refine ⟨(by show 1 ≤ sizeLine; decide), fun t1 ht1 => ?_⟩
  have w1 := same_new ht1 (.tup [.str "a"])
  have g1 : upd G0 t1 (.tup [.str "a"]) t1 = some (.tup [.str "a"]) := upd_same
  generalize upd G0 t1 (.tup [.str "a"]) = G1 at w1 g1 ⊢
  refine ⟨(by show 2 ≤ sizeLine; decide), fun t2 ht2 => ?_⟩
  have w2 := same_new ht2 (.tup [.str "a", .str "b"])
  have g2 : upd G1 t2 (.tup [.str "a", .str "b"]) t2 = some (.tup [.str "a", .str "b"]) := upd_same
  generalize upd G1 t2 (.tup [.str "a", .str "b"]) = G2 at w2 g2 ⊢
  refine ⟨(by show 0 ≤ sizeLine; decide), fun t3 ht3 => ?_⟩
  have w3 := same_new ht3 (.tup [])
  have g3 : upd G2 t3 (.tup []) t3 = some (.tup []) := upd_same
  generalize upd G2 t3 (.tup []) = G3 at w3 g3 ⊢
  refine ⟨(by show 0 ≤ sizeLine; decide), fun t4 ht4 => ?_⟩
  have w4 := same_new ht4 (.tup [])
  have g4 : upd G3 t4 (.tup []) t4 = some (.tup []) := upd_same
  generalize upd G3 t4 (.tup []) = G4 at w4 g4 ⊢
  refine ⟨(by show 2 ≤ sizeLine; decide), fun t5 ht5 => ?_⟩
  have w5 := same_new ht5 (.tup [.ref t3, .ref t4])
  have g5 : upd G4 t5 (.tup [.ref t3, .ref t4]) t5 = some (.tup [.ref t3, .ref t4]) := upd_same
  generalize upd G4 t5 (.tup [.ref t3, .ref t4]) = G5 at w5 g5 ⊢
  refine ⟨(by show 16 ≤ sizeLine; decide), fun lp hlp => ?_⟩
  set_option simprocs false in dsimp only
  have w6 := same_new hlp (.lst [.int 0, .int 1, .int 7, .int (0 - 1), .bl true, .bl false, .non, .str "", .str "a", .str "A", .str "abcdefg", .str "x1", .ref t0, .ref t1, .ref t2, .ref t5])
  have w06 := ((((u0.trans w1).trans w2).trans w3).trans w4).trans w5
  have all0 := thing_items (H := upd G5 lp (.lst [.int 0, .int 1, .int 7, .int (0 - 1), .bl true, .bl false, .non, .str "", .str "a", .str "A", .str "abcdefg", .str "x1", .ref t0, .ref t1, .ref t2, .ref t5])) (m1 := 0 - 1) l8 m13 n4 (w6 _ _ (w5 _ _ (w4 _ _ (w3 _ _ (w2 _ _ (w1 _ _ g0)))))) (w6 _ _ (w5 _ _ (w4 _ _ (w3 _ _ (w2 _ _ g1))))) (w6 _ _ (w5 _ _ (w4 _ _ (w3 _ _ g2)))) (w6 _ _ (w5 _ _ (w4 _ _ g3))) (w6 _ _ (w5 _ _ g4)) (w6 _ _ g5)
  have g6 : upd G5 lp (.lst [.int 0, .int 1, .int 7, .int (0 - 1), .bl true, .bl false, .non, .str "", .str "a", .str "A", .str "abcdefg", .str "x1", .ref t0, .ref t1, .ref t2, .ref t5]) lp = some (.lst [.int 0, .int 1, .int 7, .int (0 - 1), .bl true, .bl false, .non, .str "", .str "a", .str "A", .str "abcdefg", .str "x1", .ref t0, .ref t1, .ref t2, .ref t5]) := upd_same
  have l16 : ([.int 0, .int 1, .int 7, .int (0 - 1), .bl true, .bl false, .non, .str "", .str "a", .str "A", .str "abcdefg", .str "x1", .ref t0, .ref t1, .ref t2, .ref t5] : List V).length = 16 := rfl
  have s26 : Same H2 (upd G5 lp (.lst [.int 0, .int 1, .int 7, .int (0 - 1), .bl true, .bl false, .non, .str "", .str "a", .str "A", .str "abcdefg", .str "x1", .ref t0, .ref t1, .ref t2, .ref t5])) := w06.trans w6
  have nlb : lp ≠ b := (bxs B2 w06).ne hlp
  generalize ([.int 0, .int 1, .int 7, .int (0 - 1), .bl true, .bl false, .non, .str "", .str "a", .str "A", .str "abcdefg", .str "x1", .ref t0, .ref t1, .ref t2, .ref t5] : List V) = xs at all0 g6 l16 s26 ⊢
  generalize upd G5 lp (.lst xs) = H6 at all0 g6 s26 ⊢
  clear u0 g0 w1 g1 w2 g2 w3 g3 w4 g4 w5 g5 w6 w06 ht0 ht1 ht2 ht3 ht4 ht5 hlp
  have B6 := bxs B2 s26
  have c06 := c2.trans (Ch.of s26)
  -- the thing
  refine ⟨_, rfl, _, rfl, _, rfl, (by show 1 ≤ sizeLine; decide), fun t6 ht6 => ?_⟩
  have s67 := same_new ht6 (.tup [x])
  have g7 : upd H6 t6 (.tup [x]) t6 = some (.tup [x]) := upd_same
  generalize upd H6 t6 (.tup [x]) = H7 at s67 g7 ⊢
  have B7 := bxs B6 s67
  have c07 := c06.trans (Ch.of s67)
  have tu7 := tuB c07
  refine ⟨_, rfl, h, _, _, _, rfl, rfl, SqT.of (tu7 _ _ i1), atI_nat (j := 0) rfl, _, rfl, _, rfl, h, _, _, _, rfl, rfl, SqT.of (tu7 _ _ i1), atI_nat (j := 0) rfl, r, _, rfl, .inr (SqT.of (tu7 _ _ i2)), b, _, rfl, B7, by omega, by omega, fun r1 H8 r10 r11 B8 c8 => ?_⟩
  rw [hrl] at r11
  obtain ⟨rm2, hrm2, arm2⟩ := atS (ss := rooms) (j := r1) r10 r11
  have rm28 : rm2.length ≤ l := Nat.le_trans (Nat.le_trans (hV.nm rm2 (List.mem_of_getElem? hrm2)).2.1 (by decide)) l8
  have c08 := c07.trans c8
  have tu8 := tuB c08
  have t78 := Tu.of c8 B7
  refine ⟨r, _, _, _, rfl, rfl, SqT.of (tu8 _ _ i2), arm2, _, rfl, (by show 4 ≤ sizeLine; decide), fun l2 hl2 => ?_⟩
  have s89 := same_new hl2 (.lst [x, .ref t6, .str rm2, .ref h])
  have g9 : upd H8 l2 (.lst [x, .ref t6, .str rm2, .ref h]) l2 = some (.lst [x, .ref t6, .str rm2, .ref h]) := upd_same
  have x9 := s89 _ _ (c8 _ _ nlb (s67 _ _ g6))
  refine catV x9 g9 (by rw [l16]; show 16 + 4 ≤ 1000; decide) fun p10 H10 g10 s910 => ?_
  have s810 := s89.trans s910
  have B10 := bxs B8 s810
  have c010 := c08.trans (Ch.of s810)
  have l20 : (xs ++ [x, .ref t6, .str rm2, .ref h]).length = 20 := by rw [List.length_append, l16]; rfl
  have t610 : Tu H6 H10 := ((Tu.same s67).trans t78).trans (Tu.same s810)
  have hallv : DV H10 l m 4 (.ref h) := dv_of_hs (hH.tu (tuB c010)) (by omega) (by omega) (by have := hV.d12; omega) (fun p hp => by
      obtain ⟨n0, e1, e2, rfl, _⟩ := hV.row p hp
      show 3 ≤ m
      omega) (fun s hs => Nat.le_trans (Nat.le_trans (hV.nm s hs).2.1 (by decide)) l8) fun p hp s hs => by
      obtain ⟨n0, e1, e2, rfl, hn, h1, h2, _⟩ := hV.row p hp
      simp only [List.mem_cons, List.not_mem_nil, or_false] at hs
      rcases hs with rfl | rfl | rfl
      · exact Nat.le_trans (Nat.le_trans hn.2.1 (by decide)) l8
      · exact Nat.le_trans (Nat.le_trans (hV.nm _ h1).2.1 (by decide)) l8
      · exact Nat.le_trans (Nat.le_trans (hV.nm _ h2).2.1 (by decide)) l8
  have all1 : ∀ v ∈ xs ++ [x, .ref t6, .str rm2, .ref h], DV H10 (l + 1) m (n + 1) v := fun v hv => by
    rcases List.mem_append.mp hv with hv | hv
    · exact (all0 v hv).tu t610
    · simp only [List.mem_cons, List.not_mem_nil, or_false] at hv
      rcases hv with rfl | rfl | rfl | rfl
      · exact hdw (tuB c010)
      · exact DV.mk (s810 _ _ (t78 _ _ g7)) (by show 1 ≤ m; omega) fun y hy => by
          rw [List.mem_singleton.mp hy]
          exact (hd.tu (tuB c010)).wide (Nat.le_succ l) (Nat.le_refl m) (Nat.le_refl n)
      · exact DV.str (by omega)
      · exact hallv.wide (Nat.le_succ l) (Nat.le_refl m) (by omega)
  have n10 : p10 ≠ b := fun e => by
    obtain ⟨c, sd, n0, hb, _⟩ := B10
    rw [e, hb] at g10
    have z := congrArg List.length (HO.lst.inj (Option.some.inj g10))
    rw [l20] at z
    have z' : 3 = 20 := z
    omega
  generalize xs ++ [x, .ref t6, .str rm2, .ref h] = ys at all1 g10 l20 ⊢
  clear all0 g6 l16 s26 nlb B6 c06 s67 g7 B7 c07 tu7 B8 c8 c08 tu8 t78 s89 g9 x9 s910 s810 t610 hallv B2 c2 hd2 hl2 ht6
  -- the signs
  refine ⟨_, rfl, _, rfl, b, rfl, B10, fun s1 H11 hs1 B11 c11 => ⟨_, _, rfl, rfl, sz_two (by decide) (by omega), ?_⟩⟩
  refine ⟨_, rfl, b, rfl, B11, fun s2 H12 hs2 B12 c12 => ⟨_, _, rfl, rfl, sz_two (by decide) (by omega), (by show 2 ≤ sizeLine; decide), fun l3 hl3 => ?_⟩⟩
  have c1012 := c11.trans c12
  have s13 := same_new hl3 (.lst [.str (("a" : Str) ++ s1), .str (("z" : Str) ++ s2)])
  refine catV (s13 _ _ (c1012 _ _ n10 g10)) upd_same (by rw [l20]; show 20 + 2 ≤ 1000; decide) fun p14 H14 g14 s14 => ?_
  have s1214 := s13.trans s14
  have B14 := bxs B12 s1214
  have c1014 := c1012.trans (Ch.of s1214)
  have l22 : (ys ++ [V.str (("a" : Str) ++ s1), V.str (("z" : Str) ++ s2)]).length = 22 := by rw [List.length_append, l20]; rfl
  have all2 : ∀ v ∈ ys ++ [.str (("a" : Str) ++ s1), .str (("z" : Str) ++ s2)], DV H14 (l + 1) m (n + 1) v := fun v hv => by
    rcases List.mem_append.mp hv with hv | hv
    · exact (all1 v hv).tu (Tu.of c1014 B10)
    · rcases List.mem_cons.mp hv with rfl | hv
      · exact DV.str (by rw [str_len_app, hs1]; show 1 + 1 ≤ l + 1; omega)
      · rw [List.mem_singleton.mp hv]
        exact DV.str (by rw [str_len_app, hs2]; show 1 + 1 ≤ l + 1; omega)
  have n14 : p14 ≠ b := fun e => by
    obtain ⟨c, sd, n0, hb, _⟩ := B14
    rw [e, hb] at g14
    have z := congrArg List.length (HO.lst.inj (Option.some.inj g14))
    rw [l22] at z
    have z' : 3 = 22 := z
    omega
  generalize ys ++ ([.str (("a" : Str) ++ s1), .str (("z" : Str) ++ s2)] : List V) = zs at all2 g14 l22 ⊢
  refine ⟨_, rfl, _, rfl, b, 22, rfl, B14, by decide, by decide, fun r2 H15 r20 r21 B15 c15 => ?_⟩
  obtain ⟨jn, rfl⟩ : ∃ jn : Nat, r2 = (jn : Int) := ⟨r2.toNat, by omega⟩
  have jl : jn < zs.length := by omega
  refine ⟨p14, _, _, _, rfl, rfl, SqL.of (c15 _ _ n14 g14), atI_nat (List.getElem?_eq_getElem jl), ?_⟩
  exact q _ H15 ((all2 _ (List.getElem_mem jl)).tu (Tu.of c15 B14)) B15 ((c010.trans c1014).trans c15)
end
end Td
set_option maxHeartbeats 4000000
namespace Td
open PySem PySem.Spec PyProof.Rows L2
/-- a or b, both tried on one heap -/
theorem or_ev {a b : TT} {σ : L2.St} {H : Hp} {Q : Bool → Hp → Prop} (x y : Bool) (ha : ∀ K : Bool → Hp → Prop, K x H → a σ H K) (hb : x = false → ∀ K : Bool → Hp → Prop, K y H → b σ H K) (q : Q (x || y) H) : tOr a b σ H Q := by
  refine ha _ ?_
  cases x with
  | true => exact iteT q
  | false => exact iteF (hb rfl _ q)
theorem if_ev {c : TT} {t u : TS} {D : Ends} {σ : L2.St} {H : Hp} (x : Bool) (hc : ∀ K : Bool → Hp → Prop, K x H → c σ H K) (ht : x = true → t D σ H) (hu : x = false → u D σ H) : tIfS c t u D σ H := by
  refine hc _ ?_
  cases x with
  | true => exact iteT (ht rfl)
  | false => exact iteF (hu rfl)
section
variable {P : Program} {w : World} {K : PySem.W.Frag} {mg : Str → Option Value} {base : Heap} {f : Addr} {fd : FuncData}
abbrev s_law_other_places : Stmt := top 26
abbrev n_law_other_places : List Str := ["box", "hall", "places", "one", "other", "form", "at", "sign"]
theorem sc_law_other_places : FnScope n_law_other_places ["box", "hall", "places"] (defScope s_law_other_places) := ⟨rfl, rfl, rfl, by decide +kernel, rfl, by decide +kernel, by decide +kernel⟩
theorem ok_law_other_places (F : FnP K "_law_other_places" s_law_other_places f fd) (hm : mg "_law_other_places" = some (.ref f)) (c_law_take : Cal P w K mg base 1 "_law_take" spTake) (c_law_thing : Cal P w K mg base 3 "_law_thing" spThing) (m_isinstance : mg "isinstance" = none) (m_len : mg "len" = none) (m_max : mg "max" = none) (m_tuple : mg "tuple" = none) :
    Cal P w K mg base 4 "_law_other_places" spOthP := by
  refine cal_of (F.ok sc_law_other_places (fun vs H Q E h => ?_) (fun cdv A outer s H vs Q E hr h => ?_)) hm F.kp (F.bindsN (ps := ["box", "hall", "places"]) fun _ _ _ _ _ _ us hl => match us, hl with | [_, _, _], _ => rfl)
  · obtain ⟨b, h, p, xs, l, m, n, rooms, rows, rfl, hB, npb, hH, hV, hp, hx, hxl, l8, l90, m13, m800, n5, q⟩ := h
    rfl
  obtain ⟨b, h, p, xs, l, m, n, rooms, rows, rfl, hB, npb, hH, hV, hp, hx, hxl, l8, l90, m13, m800, n5, q⟩ := h
  have nd := sc_law_other_places.nd
  refine ⟨_, PSs.nox (pss_cons (ps_par (i := 5) (j := 6) (by rfl) nd rfl rfl (by decide) rfl rfl (pa_cons (C8.pe_c c_law_take hr (by omega) (by rfl) (pa_cons (pv 0) (pa_cons pe_int pa_nil))) (pa_cons (C8.pe_c c_law_take hr (by omega) (by rfl) (pa_cons (pv 0) (pa_cons (pe_callB (call_max2 rfl) (by rfl) m_max (by decide +kernel) (pa_cons pe_int (pa_cons (pe_callB (r := rLn K) call_len_seq (by rfl) m_len PySem.boot_len (pa_cons (pv 2) pa_nil)) pa_nil))) pa_nil))) pa_nil)) (by rfl))
    (pss_cons (ps_if (PW.pt (pw_or (pt_cmpR op_eq (pv 5) pe_int (nomark _)) (pw_or1 (pt_cmpR (r := rEqE K) (op_eqE hr.units) (pv 2) (pe_lst pa_nil) (nomark _))))) (pss_one (ps_ret (pe_op op_cat (pv 2) (pe_lc (own := [("sign", 7)]) (g := (gName 7)) (by rfl) nd (pi_str (pe_slice C8.sl_txt pe_str po_none (po_some (pe_op op_add pe_int (C8.pe_c c_law_take hr (by omega) (by rfl) (pa_cons (pv 0) (pa_cons pe_int pa_nil))))))) (blkOk_by (own := [("sign", 7)]) (N := n_law_other_places) (sc := defScope s_law_other_places) (by decide +kernel)) (fun _ _ _ _ _ => (pg_name (i := 7) nd rfl (Or.inl rfl))) (fun _ _ _ _ _ => pts_nil) (fun _ _ _ _ _ => (pe_tup (pa_cons (pe_op op_add_str pe_str (pv 7)) (pa_cons (pe_ix (r := rIxT K) ix_tup (pe_ix (r := rIxT K) ix_tup (pv 1) pe_int (fun _ _ => rfl)) pe_int (fun _ _ => rfl)) pa_nil)))))))) pss_nil)
    (pss_cons (ps_if (pt_cmpR op_eq (pv 5) pe_int (nomark _)) (pss_one (ps_ret (pe_op op_cat (pe_op op_cat (pe_slice (r := rSlL K) sl_list (pv 2) po_none (po_some (pv 6))) (pe_lst (pa_cons (pe_ix (r := rIxL K) ix_list (pv 2) (pv 6) (fun _ _ => rfl)) pa_nil))) (pe_slice (r := rSlL K) sl_list (pv 2) (po_some (pv 6)) po_none)))) pss_nil)
    (pss_cons (ps_if (pt_cmpR op_eq (pv 5) pe_int (nomark _)) (pss_one (ps_ret (pe_revL (pv 2)))) pss_nil)
    (C8.pss_cut (ps_set (i := 3) nd rfl (Or.inl rfl) (pe_ix (r := rIxL K) ix_list (pv 2) (pv 6) (fun _ _ => rfl)))
    (pss_cons (ps_if (PW.pt (pw_or (pt_cmpR op_eq (pv 5) pe_int (nomark _)) (pw_or (pt_not (pt_val (pe_callB (r := rIsi K) call_isi (by rfl) m_isinstance (by decide +kernel) (pa_cons (pv 3) (pa_cons (pe_bltn (by rfl) m_tuple (by decide +kernel) (show L2.RelV (.ty "tuple") (.type "tuple") from rfl)) pa_nil))))) (pw_or1 (pt_cmpR op_ne (pe_callB (r := rLn K) call_len_seq (by rfl) m_len PySem.boot_len (pa_cons (pv 3) pa_nil)) pe_int (nomark _)))))) (pss_one (ps_ret (pe_op op_cat (pe_op op_cat (pe_slice (r := rSlL K) sl_list (pv 2) po_none (po_some (pv 6))) (pe_lst (pa_cons (C8.pe_c c_law_thing hr (by omega) (by rfl) (pa_cons (pv 0) (pa_cons (pv 1) (pa_cons (pv 3) pa_nil)))) pa_nil))) (pe_slice (r := rSlL K) sl_list (pv 2) (po_some (pe_op op_add (pv 6) pe_int)) po_none)))) pss_nil)
    (pss_cons (ps_set (i := 4) nd rfl (Or.inl rfl) (pe_ix (r := rIxL K) ix_list (pe_lst (pa_cons (pe_tup (pa_cons (C8.pe_c c_law_thing hr (by omega) (by rfl) (pa_cons (pv 0) (pa_cons (pv 1) (pa_cons (pe_ix (r := rIxT K) ix_tup (pv 3) pe_int (fun _ _ => rfl)) pa_nil)))) (pa_cons (pe_ix (r := rIxT K) ix_tup (pv 3) pe_int (fun _ _ => rfl)) pa_nil))) (pa_cons (pe_tup (pa_cons (pe_ix (r := rIxT K) ix_tup (pv 3) pe_int (fun _ _ => rfl)) (pa_cons (C8.pe_c c_law_thing hr (by omega) (by rfl) (pa_cons (pv 0) (pa_cons (pv 1) (pa_cons (pe_ix (r := rIxT K) ix_tup (pv 3) pe_int (fun _ _ => rfl)) pa_nil)))) pa_nil))) pa_nil))) (C8.pe_c c_law_take hr (by omega) (by rfl) (pa_cons (pv 0) (pa_cons pe_int pa_nil))) (fun _ _ => rfl)))
    (pss_one (ps_ret (pe_op op_cat (pe_op op_cat (pe_slice (r := rSlL K) sl_list (pv 2) po_none (po_some (pv 6))) (pe_lst (pa_cons (pv 4) pa_nil))) (pe_slice (r := rSlL K) sl_list (pv 2) (po_some (pe_op op_add (pv 6) pe_int)) po_none))))))))))), ?_⟩
  obtain ⟨r, dd, i1, i2, as, i3, iR⟩ := id hH
  have r1_ := hV.r1
  have r8 := hV.r8
  have tuB : ∀ {H' : Hp}, Ch b H H' → Tu H H' := fun c => Tu.of c hB
  have hdw : ∀ {H' : Hp}, Tu H H' → ∀ x ∈ xs, DV H' (l + 1) m (n + 1) x := fun t x hx' => ((hx x hx').tu t).wide (Nat.le_succ l) (Nat.le_refl m) (Nat.le_succ n)
  have m0 : rooms[0]? = some (rooms[0]'(by omega)) := List.getElem?_eq_getElem (by omega)
  generalize rooms[0]'(by omega) = rm0 at m0
  have hr0 : (rooms.map V.str)[0]? = some (.str rm0) := by rw [List.getElem?_map, m0]; rfl
  have rm8 : rm0.length ≤ l := Nat.le_trans (Nat.le_trans (hV.nm rm0 (List.mem_of_getElem? m0)).2.1 (by decide)) l8
  refine ⟨_, rfl, b, 5, rfl, hB, by decide, by decide, fun r0 H1 r00 r01 B1 c1 => ?_⟩
  have hp1 := c1 _ _ npb hp
  refine ⟨_, rfl, _, rfl, p, _, rfl, .inl (SqL.of hp1), _, _, rfl, b, _, rfl, B1, ?_, ?_, fun r1 H2 r10 r11 B2 c2 => ⟨_, _, rfl, ?_⟩⟩
  · split <;> omega
  · split <;> omega
  have c02 := c1.trans c2
  have hp2 := c02 _ _ npb hp
  refine ⟨_, rfl, rfl, _, rfl, ?_⟩
  by_cases f0 : r0 = 0
  · rw [decide_eq_true (show V.int r0 = V.int 0 by rw [f0])]
    refine iteT ?_
    refine iteT ?_
    have BG := B2
    have cG := c02
    have hpG := hp2
    refine ⟨_, rfl, _, rfl, b, 6, rfl, BG, by decide, by decide, fun r2 G1 r20 r21 B3 c3 => ?_⟩
    have c03 := cG.trans c3
    have hp3 := c3 _ _ npb hpG
    have tu3 := tuB c03
    refine ⟨_, _, rfl, rfl, _, rfl, _, rfl, (by decide +kernel), _, rfl, fun D hD => ?_⟩
    have tl6 : (Txt.slice ("abcdef" : Str) none (some (1 + r2))).length ≤ 6 := by
      have := sl_to_le ("abcdef" : Str) (show 0 ≤ 1 + r2 by omega)
      omega
    generalize Txt.slice ("abcdef" : Str) none (some (1 + r2)) = tx at tl6 ⊢
    refine lc_gen (n := tx.cps.size) (fun i Hx => Same G1 Hx ∧ ∃ ys : List V, Hx D = some (.lst ys) ∧ ys.length = i ∧ ∀ y ∈ ys, DV Hx (l + 1) m (n + 1) y) ⟨same_new hD _, [], upd_same, rfl, fun y hy => by cases hy⟩ (fun i Hx hi ⟨sx, ys, hDx, hyl, hys⟩ => ⟨hi, ?_⟩) (fun Hx ⟨sx, ys, hDx, hyl, hys⟩ => ⟨Nat.le_refl _, ?_⟩)
    · rintro _ Hx ⟨rfl, c, hc, rfl⟩
      refine ⟨rfl, lcY ?_⟩
      have tx6 : tx.cps.size ≤ 6 := tl6
      refine ⟨_, rfl, _, _, rfl, rfl, sz_two (by decide) (by show 1 ≤ 200; decide), _, rfl, h, _, _, _, rfl, rfl, SqT.of (sx _ _ (tu3 _ _ i1)), atI_nat (j := 0) rfl, r, _, _, _, rfl, rfl, SqT.of (sx _ _ (tu3 _ _ i2)), atI_nat (j := 0) hr0, (by show 2 ≤ sizeLine; decide), fun t ht => ?_⟩
      have st := same_new ht (.tup [.str (("w" : Str) ++ ⟨#[c]⟩), .str rm0])
      have nDt : D ≠ t := ne_of_none hDx ht
      have tm : Tu Hx (upd (upd Hx t (.tup [.str (("w" : Str) ++ ⟨#[c]⟩), .str rm0])) D (.lst (ys ++ [.ref t]))) := fun b xs hb => by
        have z := st _ _ hb
        rw [upd_ne (fun e => by rw [e, hDx] at hb; cases hb)]
        exact z
      refine ⟨_, st _ _ hDx, sz100 (by omega), same_mut (sx.trans st) hD _, ys ++ [.ref t], upd_same, by rw [List.length_append, hyl]; rfl, fun y hy => ?_⟩
      rcases List.mem_append.mp hy with hy | hy
      · exact (hys y hy).tu tm
      · rw [List.mem_singleton.mp hy]
        refine DV.mk (n := n) (by rw [upd_ne nDt.symm]; exact upd_same) (by show 2 ≤ m; omega) fun z hz => ?_
        obtain ⟨k, rfl⟩ : ∃ k, n = k + 1 := ⟨n - 1, by omega⟩
        rcases List.mem_cons.mp hz with rfl | hz
        · exact DV.str (by rw [str_len_app]; show 1 + 1 ≤ l + 1; omega)
        · rw [List.mem_singleton.mp hz]
          exact DV.str (by omega)
    have tx6 : tx.cps.size ≤ 6 := tl6
    refine catV (sx _ _ hp3) hDx (by omega) fun p5 G5 g5 s5 => ?_
    refine q p5 _ G5 g5 (fun y hy => ?_) (by rw [List.length_append]; omega) (bxs B3 (sx.trans s5)) (c03.trans (Ch.of (sx.trans s5)))
    rcases List.mem_append.mp hy with hy | hy
    · exact hdw ((tu3.trans (Tu.same sx)).trans (Tu.same s5)) y hy
    · exact (hys y hy).tu (Tu.same s5)
  rw [dint_f f0]
  refine iteF ?_
  refine ⟨_, rfl, (by show 0 ≤ sizeLine; decide), fun e0 he0 => ?_⟩
  have s3 := same_new he0 (.lst [])
  have hpG := s3 _ _ hp2
  have BG := bxs B2 s3
  have cG := c02.trans (Ch.of s3)
  refine ⟨p, e0, xs, rfl, rfl, SqL.of hpG, SqL.of upd_same, _, rfl, ?_⟩
  generalize upd H2 e0 (.lst []) = G0 at hpG BG cG s3 ⊢
  by_cases hxe : xs = []
  · rw [show xs.isEmpty = true by rw [hxe]; rfl]
    refine iteT ?_
    refine ⟨_, rfl, _, rfl, b, 6, rfl, BG, by decide, by decide, fun r2 G1 r20 r21 B3 c3 => ?_⟩
    have c03 := cG.trans c3
    have hp3 := c3 _ _ npb hpG
    have tu3 := tuB c03
    refine ⟨_, _, rfl, rfl, _, rfl, _, rfl, (by decide +kernel), _, rfl, fun D hD => ?_⟩
    have tl6 : (Txt.slice ("abcdef" : Str) none (some (1 + r2))).length ≤ 6 := by
      have := sl_to_le ("abcdef" : Str) (show 0 ≤ 1 + r2 by omega)
      omega
    generalize Txt.slice ("abcdef" : Str) none (some (1 + r2)) = tx at tl6 ⊢
    refine lc_gen (n := tx.cps.size) (fun i Hx => Same G1 Hx ∧ ∃ ys : List V, Hx D = some (.lst ys) ∧ ys.length = i ∧ ∀ y ∈ ys, DV Hx (l + 1) m (n + 1) y) ⟨same_new hD _, [], upd_same, rfl, fun y hy => by cases hy⟩ (fun i Hx hi ⟨sx, ys, hDx, hyl, hys⟩ => ⟨hi, ?_⟩) (fun Hx ⟨sx, ys, hDx, hyl, hys⟩ => ⟨Nat.le_refl _, ?_⟩)
    · rintro _ Hx ⟨rfl, c, hc, rfl⟩
      refine ⟨rfl, lcY ?_⟩
      have tx6 : tx.cps.size ≤ 6 := tl6
      refine ⟨_, rfl, _, _, rfl, rfl, sz_two (by decide) (by show 1 ≤ 200; decide), _, rfl, h, _, _, _, rfl, rfl, SqT.of (sx _ _ (tu3 _ _ i1)), atI_nat (j := 0) rfl, r, _, _, _, rfl, rfl, SqT.of (sx _ _ (tu3 _ _ i2)), atI_nat (j := 0) hr0, (by show 2 ≤ sizeLine; decide), fun t ht => ?_⟩
      have st := same_new ht (.tup [.str (("w" : Str) ++ ⟨#[c]⟩), .str rm0])
      have nDt : D ≠ t := ne_of_none hDx ht
      have tm : Tu Hx (upd (upd Hx t (.tup [.str (("w" : Str) ++ ⟨#[c]⟩), .str rm0])) D (.lst (ys ++ [.ref t]))) := fun b xs hb => by
        have z := st _ _ hb
        rw [upd_ne (fun e => by rw [e, hDx] at hb; cases hb)]
        exact z
      refine ⟨_, st _ _ hDx, sz100 (by omega), same_mut (sx.trans st) hD _, ys ++ [.ref t], upd_same, by rw [List.length_append, hyl]; rfl, fun y hy => ?_⟩
      rcases List.mem_append.mp hy with hy | hy
      · exact (hys y hy).tu tm
      · rw [List.mem_singleton.mp hy]
        refine DV.mk (n := n) (by rw [upd_ne nDt.symm]; exact upd_same) (by show 2 ≤ m; omega) fun z hz => ?_
        obtain ⟨k, rfl⟩ : ∃ k, n = k + 1 := ⟨n - 1, by omega⟩
        rcases List.mem_cons.mp hz with rfl | hz
        · exact DV.str (by rw [str_len_app]; show 1 + 1 ≤ l + 1; omega)
        · rw [List.mem_singleton.mp hz]
          exact DV.str (by omega)
    have tx6 : tx.cps.size ≤ 6 := tl6
    refine catV (sx _ _ hp3) hDx (by omega) fun p5 G5 g5 s5 => ?_
    refine q p5 _ G5 g5 (fun y hy => ?_) (by rw [List.length_append]; omega) (bxs B3 (sx.trans s5)) (c03.trans (Ch.of (sx.trans s5)))
    rcases List.mem_append.mp hy with hy | hy
    · exact hdw ((tu3.trans (Tu.same sx)).trans (Tu.same s5)) y hy
    · exact (hys y hy).tu (Tu.same s5)
  rw [show xs.isEmpty = false by cases xs with | nil => exact absurd rfl hxe | cons _ _ => rfl]
  refine iteF ?_
  have hpos : 0 < xs.length := List.length_pos_iff.mpr hxe
  have r1l : r1 < (xs.length : Int) := by
    have z := r11
    split at z <;> omega
  obtain ⟨j, rfl⟩ : ∃ j : Nat, r1 = (j : Int) := ⟨r1.toNat, by omega⟩
  have jl : j < xs.length := by omega
  have xj : xs[j]? = some xs[j] := List.getElem?_eq_getElem jl
  have memj : xs[j] ∈ xs := List.getElem_mem jl
  have hto : cutV xs none (some (j : Int)) = xs.take j := by rw [cut_to (Int.natCast_nonneg _), Int.toNat_natCast]
  have hfr : ∀ j : Nat, cutV xs (some (j : Int)) none = xs.drop j := fun j => cut_fr_ _
  have tuG := tuB cG
  clear B1 c1 hp1 B2 c2 c02 hp2 s3 he0 r11 r10
  -- a list of these and of one more
  have fin : ∀ (q' : Addr) (ys : List V) (G : Hp), Tu G0 G → Box G b → Ch b H G → G q' = some (.lst ys) → ys.length ≤ m + 6 → (∀ y ∈ ys, y ∈ xs ∨ DV G (l + 1) m (n + 1) y) → Q (.ref q') G := fun q' ys G t B c e hl hy => q q' ys G e (fun y hy' => (hy y hy').elim (fun z => hdw (tuG.trans t) y z) fun z => z) hl B c
  refine ⟨_, rfl, rfl, _, rfl, ?_⟩
  by_cases f1 : r0 = 1
  · rw [decide_eq_true (show V.int r0 = V.int 1 by rw [f1])]
    refine iteT ?_
    refine ⟨_, rfl, _, rfl, _, rfl, ?_⟩
    refine slV (SqL.of hpG) fun p1 G1 g1 t1 => ?_
    rw [hto] at g1
    refine ⟨_, rfl, _, rfl, p, _, _, _, rfl, rfl, SqL.of (t1 _ _ hpG), atI_nat xj, (by show 1 ≤ sizeLine; decide), fun l2 hl2 => ?_⟩
    have t2 := same_new hl2 (.lst [xs[j]])
    refine catV (t2 _ _ g1) upd_same (by rw [List.length_take]; show _ + 1 ≤ 1000; omega) fun p3 G3 g3 t3 => ?_
    have t03 := (t1.trans t2).trans t3
    refine ⟨_, rfl, _, rfl, _, rfl, ?_⟩
    refine slVN (SqL.of (t03 _ _ hpG)) fun p4 G4 g4 t4 => ?_
    rw [hfr] at g4
    refine catV (t4 _ _ g3) g4 (by rw [List.length_append, List.length_take, List.length_drop]; show _ + 1 + _ ≤ 1000; omega) fun p5 G5 g5 t5 => ?_
    have t05 := (t03.trans t4).trans t5
    refine fin p5 _ G5 (Tu.same t05) (bxs BG t05) (cG.trans (Ch.of t05)) g5 (by rw [List.length_append, List.length_append, List.length_take, List.length_drop]; show _ + 1 + _ ≤ _; omega) fun y hy => .inl ?_
    rcases List.mem_append.mp hy with hy | hy
    · rcases List.mem_append.mp hy with hy | hy
      · exact List.mem_of_mem_take hy
      · rw [List.mem_singleton.mp hy]; exact memj
    · exact List.mem_of_mem_drop hy
  rw [decide_eq_false (show ¬ V.int r0 = V.int 1 from fun z => f1 (by injection z))]
  refine iteF ?_
  refine ⟨_, rfl, rfl, _, rfl, ?_⟩
  by_cases f2 : r0 = 2
  · rw [decide_eq_true (show V.int r0 = V.int 2 by rw [f2])]
    refine iteT ?_
    refine ⟨_, rfl, p, _, rfl, SqL.of hpG, fun p1 hp1 => ?_⟩
    have t1 := same_new hp1 (.lst xs.reverse)
    exact fin p1 _ _ (Tu.same t1) (bxs BG t1) (cG.trans (Ch.of t1)) upd_same (by rw [List.length_reverse]; omega) fun y hy => .inl (List.mem_reverse.mp hy)
  rw [decide_eq_false (show ¬ V.int r0 = V.int 2 from fun z => f2 (by injection z))]
  refine iteF ?_
  refine ⟨fun σ' H' => H' = G0 ∧ σ' = [some (.ref b), some (.ref h), some (.ref p), some xs[j], none, some (.int r0), some (.int (j : Nat)), none], ?_, ?_⟩
  · exact ⟨_, rfl, _, rfl, p, _, _, _, rfl, rfl, SqL.of hpG, atI_nat xj, rfl, rfl⟩
  rintro σ' G' ⟨rfl, rfl⟩
  have hone := (hx _ memj).tu tuG
  obtain ⟨ty, hty, hc⟩ := hone.cases
  have ev : ∃ (tp : Bool) (ln : Bool), PySem.W.kitOne K (.type ty) (.type "tuple") = some tp ∧ (tp = true → ∃ (n' : Nat) (a : Addr) (us : List V), n = n' + 1 ∧ xs[j] = .ref a ∧ G' a = some (.tup us) ∧ us.length ≤ m ∧ (∀ y ∈ us, DV G' l m n' y) ∧ ln = !decide (V.int (us.length : Nat) = V.int 2)) := by
    rcases hc with ⟨s, e, hs, rfl⟩ | ⟨n', a, us, e1, e2, rfl, e3, e4, e5⟩ | hc
    · exact ⟨false, false, kits.2.2.1, fun z => by cases z⟩
    · exact ⟨true, _, kits.2.2.2.1, fun _ => ⟨n', a, us, e1, e2, e3, e4, e5, rfl⟩⟩
    · exact ⟨false, false, (kits.2.2.2.2 ty hc).2, fun z => by cases z⟩
  obtain ⟨tp, ln, hk, htp⟩ := ev
  have hval : DV G' l m n xs[j] := hone
  have memx : xs[j] ∈ xs := memj
  generalize xs[j] = one at hty hone htp hval memx memj xj ⊢
  refine if_ev (decide (r0 = 3) || (!tp || ln)) (fun Kc hK => ?_) (fun hT => ?_) (fun hF => ?_)
  · refine or_ev (decide (r0 = 3)) (!tp || ln) (fun K2 h2 => ?_) (fun _ K2 h2 => ?_) hK
    · refine ⟨_, rfl, rfl, _, rfl, ?_⟩
      rw [show decide (V.int r0 = V.int 3) = decide (r0 = 3) by
        by_cases z : r0 = 3
        · rw [decide_eq_true z, decide_eq_true (by rw [z])]
        · rw [decide_eq_false z, dint_f z]]
      exact h2
    · refine or_ev (!tp) ln (fun K3 h3 => ?_) (fun ht K3 h3 => ?_) h2
      · exact ⟨_, rfl, one, .ty "tuple", .type ty, .type "tuple", tp, rfl, .ty _, hty K, hk, _, rfl, h3⟩
      · have ht' : tp = true := by cases tp <;> first | rfl | cases ht
        obtain ⟨n', a, us, e1, e2, e3, e4, e5, e6⟩ := htp ht'
        refine ⟨_, rfl, a, us, by rw [e2], .inr (SqT.of e3), rfl, _, rfl, ?_⟩
        rw [← e6]
        exact h3
  · refine ⟨_, rfl, _, rfl, _, rfl, ?_⟩
    refine ⟨p, _, rfl, SqL.of hpG, fun p1 hp1 => ?_⟩
    have t1 := same_new hp1 (.lst (cutV xs none (some (j : Int))))
    have g1 : upd G' p1 (.lst (cutV xs none (some (j : Int)))) p1 = some (.lst (xs.take j)) := by rw [upd_same, hto]
    have n1b := BG.ne hp1
    generalize upd G' p1 (.lst (cutV xs none (some (j : Int)))) = G1 at t1 g1 ⊢
    have B1 := bxs BG t1
    have c1 := cG.trans (Ch.of t1)
    refine ⟨_, rfl, _, rfl, _, rfl, b, h, one, l, m, n, rooms, rows, rfl, B1, hH.tu (tuB c1), hV, hval.tu (Tu.same t1), l8, l90, m13, m800, by omega, fun z G2 hz B2 c2 => ⟨(by show 1 ≤ sizeLine; decide), fun l2 hl2 => ?_⟩⟩
    have t2 := same_new hl2 (.lst [z])
    have tG2 : Tu G' G2 := (Tu.same t1).trans (Tu.of c2 B1)
    refine catV (t2 _ _ (c2 _ _ n1b g1)) upd_same (by rw [List.length_take]; show _ + 1 ≤ 1000; omega) fun p3 G3 g3 t3 => ?_
    have t23 := t2.trans t3
    refine ⟨_, rfl, _, rfl, _, _, rfl, rfl, _, rfl, ?_⟩
    have hpG3 := t23 _ _ (c2 _ _ npb (t1 _ _ hpG))
    refine slVN (SqL.of hpG3) fun p4 G4 g4 t4 => ?_
    rw [show ((j : Int) + 1) = ((j + 1 : Nat) : Int) by omega, hfr] at g4
    refine catV (t4 _ _ g3) g4 (by rw [List.length_append, List.length_take, List.length_drop]; show _ + 1 + _ ≤ 1000; omega) fun p5 G5 g5 t5 => ?_
    have t25 := (t23.trans t4).trans t5
    refine fin p5 _ G5 (tG2.trans (Tu.same t25)) (bxs B2 t25) ((c1.trans c2).trans (Ch.of t25)) g5 (by rw [List.length_append, List.length_append, List.length_take, List.length_drop]; show _ + 1 + _ ≤ _; omega) fun y hy => ?_
    rcases List.mem_append.mp hy with hy | hy
    · rcases List.mem_append.mp hy with hy | hy
      · exact .inl (List.mem_of_mem_take hy)
      · rw [List.mem_singleton.mp hy]
        exact .inr (hz.tu (Tu.same t25))
    · exact .inl (List.mem_of_mem_drop hy)
  · have hF2 : tp = true ∧ ln = false := by
      rw [Bool.or_eq_false_iff, Bool.or_eq_false_iff] at hF
      exact ⟨by cases tp with
        | true => rfl
        | false => exact Bool.noConfusion hF.2.1, hF.2.2⟩
    obtain ⟨n', a1, us, e1, e2, e3, e4, e5, e6⟩ := htp hF2.1
    subst e2
    have u2 : us.length = 2 := by
      rw [hF2.2] at e6
      refine Classical.byContradiction fun z => ?_
      rw [decide_eq_false (show ¬ V.int (us.length : Nat) = V.int 2 from fun w => z (by injection w with w; omega))] at e6
      cases e6
    obtain ⟨y0, y1, rfl⟩ : ∃ y0 y1, us = [y0, y1] := by
      match us, u2 with
      | [y0, y1], _ => exact ⟨y0, y1, rfl⟩
    have hy0 := e5 y0 (List.mem_cons_self ..)
    have hy1 := e5 y1 (List.mem_cons_of_mem _ (List.mem_cons_self ..))
    subst e1
    have wide1 : ∀ {G : Hp} {y : V}, Tu G' G → DV G' l m n' y → DV G (l + 1) m (n' + 1) y := fun t hy => (hy.tu t).wide (Nat.le_succ l) (Nat.le_refl m) (Nat.le_succ n')
    refine ⟨_, rfl, _, rfl, _, rfl, a1, _, _, _, rfl, rfl, SqT.of e3, atI_nat (j := 0) rfl, b, h, y0, l, m, n', rooms, rows, rfl, BG, hH.tu tuG, hV, hy0, l8, l90, m13, m800, by omega, fun z0 G1 hz0 B1 c1 => ?_⟩
    have tu1 := Tu.of c1 BG
    refine ⟨_, rfl, a1, _, _, _, rfl, rfl, SqT.of (tu1 _ _ e3), atI_nat (j := 1) rfl, (by show 2 ≤ sizeLine; decide), fun t1 ht1 => ?_⟩
    have s2 := same_new ht1 (.tup [z0, y1])
    have k2 : upd G1 t1 (.tup [z0, y1]) t1 = some (.tup [z0, y1]) := upd_same
    generalize upd G1 t1 (.tup [z0, y1]) = G2 at s2 k2 ⊢
    have B2 := bxs B1 s2
    have tu2 := tu1.trans (Tu.same s2)
    have c02 := (cG.trans c1).trans (Ch.of s2)
    refine ⟨_, rfl, a1, _, _, _, rfl, rfl, SqT.of (tu2 _ _ e3), atI_nat (j := 0) rfl, _, rfl, _, rfl, _, rfl, a1, _, _, _, rfl, rfl, SqT.of (tu2 _ _ e3), atI_nat (j := 1) rfl, b, h, y1, l, m, n', rooms, rows, rfl, B2, hH.tu (tuB c02), hV, hy1.tu tu2, l8, l90, m13, m800, by omega, fun z1 G3 hz1 B3 c3 => ⟨(by show 2 ≤ sizeLine; decide), fun t2 ht2 => ?_⟩⟩
    have s4 := same_new ht2 (.tup [y0, z1])
    have k4 : upd G3 t2 (.tup [y0, z1]) t2 = some (.tup [y0, z1]) := upd_same
    generalize upd G3 t2 (.tup [y0, z1]) = G4 at s4 k4 ⊢
    have B4 := bxs B3 s4
    have t34 := Tu.of c3 B2
    have tu4 := (tu2.trans t34).trans (Tu.same s4)
    have d1 : DV G4 (l + 1) m (n' + 1 + 1) (.ref t1) := DV.mk (s4 _ _ (t34 _ _ k2)) (by show 2 ≤ m; omega) fun y hy => by
      rcases List.mem_cons.mp hy with rfl | hy
      · exact ((hz0.tu (Tu.same s2)).tu t34).tu (Tu.same s4)
      · rw [List.mem_singleton.mp hy]
        exact wide1 tu4 hy1
    have d2 : DV G4 (l + 1) m (n' + 1 + 1) (.ref t2) := DV.mk k4 (by show 2 ≤ m; omega) fun y hy => by
      rcases List.mem_cons.mp hy with rfl | hy
      · exact wide1 tu4 hy0
      · rw [List.mem_singleton.mp hy]
        exact hz1.tu (Tu.same s4)
    refine ⟨(by show 2 ≤ sizeLine; decide), fun lo hlo => ⟨_, rfl, b, 2, rfl, B4.new hlo _, by decide, by decide, fun r2 G5 r20 r21 B5 c5 => ?_⟩⟩
    obtain ⟨ot, hot, dot⟩ : ∃ ot : V, atI ([.ref t1, .ref t2] : List V) r2 = some ot ∧ DV G5 (l + 1) m (n' + 1 + 1) ot := by
      have t5 := (Tu.new hlo (.lst [.ref t1, .ref t2])).trans (Tu.of c5 (B4.new hlo _))
      have z : r2 = 0 ∨ r2 = 1 := by omega
      rcases z with rfl | rfl
      · exact ⟨_, atI_nat (j := 0) rfl, d1.tu t5⟩
      · exact ⟨_, atI_nat (j := 1) rfl, d2.tu t5⟩
    refine ⟨lo, _, _, _, rfl, rfl, SqL.of (c5 _ _ (B4.ne hlo) upd_same), hot, ?_⟩
    have c05 := (((c02.trans c3).trans (Ch.of s4)).new hlo (.lst [.ref t1, .ref t2])).trans c5
    have cG5 : Ch b G' G5 := ((((c1.trans (Ch.of s2)).trans c3).trans (Ch.of s4)).new hlo (.lst [.ref t1, .ref t2])).trans c5
    have hp5 := cG5 _ _ npb hpG
    have tu5 := Tu.of cG5 BG
    refine ⟨_, rfl, _, rfl, _, rfl, ?_⟩
    refine slV (SqL.of hp5) fun p6 G6 g6 t6 => ?_
    rw [hto] at g6
    refine ⟨_, rfl, (by show 1 ≤ sizeLine; decide), fun l7 hl7 => ?_⟩
    have t7 := same_new hl7 (.lst [ot])
    refine catV (t7 _ _ g6) upd_same (by rw [List.length_take]; show _ + 1 ≤ 1000; omega) fun p8 G8 g8 t8 => ?_
    have t58 := (t6.trans t7).trans t8
    refine ⟨_, rfl, _, rfl, _, _, rfl, rfl, _, rfl, ?_⟩
    refine slVN (SqL.of (t58 _ _ hp5)) fun p9 G9 g9 t9 => ?_
    rw [show ((j : Int) + 1) = ((j + 1 : Nat) : Int) by omega, hfr] at g9
    refine catV (t9 _ _ g8) g9 (by rw [List.length_append, List.length_take, List.length_drop]; show _ + 1 + _ ≤ 1000; omega) fun p10 G10 g10 t10 => ?_
    have t510 := (t58.trans t9).trans t10
    refine fin p10 _ G10 (tu5.trans (Tu.same t510)) (bxs B5 t510) (c05.trans (Ch.of t510)) g10 (by rw [List.length_append, List.length_append, List.length_take, List.length_drop]; show _ + 1 + _ ≤ _; omega) fun y hy => ?_
    rcases List.mem_append.mp hy with hy | hy
    · rcases List.mem_append.mp hy with hy | hy
      · exact .inl (List.mem_of_mem_take hy)
      · rw [List.mem_singleton.mp hy]
        exact .inr (dot.tu (Tu.same t510))
    · exact .inl (List.mem_of_mem_drop hy)
end
end Td
set_option maxHeartbeats 4000000
namespace Td
open PySem PySem.Spec PyProof.Rows L2
theorem sif_ev {c : TT} {t u B : TS} {D : Ends} {σ : L2.St} {H : Hp} (x : Bool) (hc : ∀ K : Bool → Hp → Prop, K x H → c σ H K) (ht : x = true → t { D with nx := B D } σ H) (hu : x = false → u { D with nx := B D } σ H) : tSeq (tIfS c t u) B D σ H := if_ev x hc ht hu
/-- whether it is a tuple, and then what lies in it -/
theorem dv_tp {H : Hp} {l m n : Nat} {x : V} (h : DV H l m n x) : ∃ (ty : String) (tp : Bool) (ln : Bool), (∀ K : PySem.W.Frag, TyX K H x (.type ty)) ∧ (∀ K : PySem.W.Frag, PySem.W.kitOne K (.type ty) (.type "tuple") = some tp) ∧
    (tp = true → ∃ (n' : Nat) (a : Addr) (us : List V), n = n' + 1 ∧ x = .ref a ∧ H a = some (.tup us) ∧ us.length ≤ m ∧ (∀ y ∈ us, DV H l m n' y) ∧ ln = !decide (V.int (us.length : Nat) = V.int 2)) := by
  obtain ⟨ty, hty, hc⟩ := h.cases
  rcases hc with ⟨s, e, hs, rfl⟩ | ⟨n', a, us, e1, e2, rfl, e3, e4, e5⟩ | hc
  · exact ⟨_, false, false, hty, fun K => kits.2.2.1, fun z => by cases z⟩
  · exact ⟨_, true, _, hty, fun K => kits.2.2.2.1, fun _ => ⟨n', a, us, e1, e2, e3, e4, e5, rfl⟩⟩
  · exact ⟨_, false, false, hty, fun K => (kits.2.2.2.2 ty hc).2, fun z => by cases z⟩
theorem two_us {us : List V} (h : (!decide (V.int (us.length : Nat) = V.int 2)) = false) : ∃ y0 y1, us = [y0, y1] := by
  have u2 : us.length = 2 := by
    refine Classical.byContradiction fun z => ?_
    rw [decide_eq_false (show ¬ V.int (us.length : Nat) = V.int 2 from fun w => z (by injection w with w; omega))] at h
    cases h
  match us, u2 with
  | [y0, y1], _ => exact ⟨y0, y1, rfl⟩
theorem dint_b {r k : Int} : decide (V.int r = V.int k) = decide (r = k) := by
  by_cases z : r = k
  · rw [decide_eq_true z, decide_eq_true (by rw [z])]
  · rw [decide_eq_false z, decide_eq_false fun w => z (by injection w)]
section
variable {P : Program} {w : World} {K : PySem.W.Frag} {mg : Str → Option Value} {base : Heap} {f : Addr} {fd : FuncData}
abbrev s_law_changed : Stmt := top 27
abbrev n_law_changed : List Str := ["box", "hall", "value", "form", "at", "faces", "places", "some"]
theorem sc_law_changed : FnScope n_law_changed ["box", "hall", "value"] (defScope s_law_changed) := ⟨rfl, rfl, rfl, by decide +kernel, rfl, by decide +kernel, by decide +kernel⟩
theorem ok_law_changed (F : FnP K "_law_changed" s_law_changed f fd) (hm : mg "_law_changed" = some (.ref f)) (c_law_other_places : Cal P w K mg base 4 "_law_other_places" spOthP) (c_law_take : Cal P w K mg base 1 "_law_take" spTake) (c_law_thing : Cal P w K mg base 3 "_law_thing" spThing) (m_isinstance : mg "isinstance" = none) (m_len : mg "len" = none) (m_list : mg "list" = none) (m_max : mg "max" = none) (m_tuple : mg "tuple" = none) :
    Cal P w K mg base 5 "_law_changed" spChgS := by
  refine cal_of (F.ok sc_law_changed (fun vs H Q E h => ?_) (fun cdv A outer s H vs Q E hr h => ?_)) hm F.kp (F.bindsN (ps := ["box", "hall", "value"]) fun _ _ _ _ _ _ us hl => match us, hl with | [_, _, _], _ => rfl)
  · obtain ⟨b, h, x, l, m, n, rooms, rows, rfl, hB, hH, hV, hd, l8, l90, m13, m800, n8, q⟩ := h
    rfl
  obtain ⟨b, h, x, l, m, n, rooms, rows, rfl, hB, hH, hV, hd, l8, l90, m13, m800, n8, q⟩ := h
  have nd := sc_law_changed.nd
  refine ⟨_, PSs.nox (pss_cons (ps_set (i := 3) nd rfl (Or.inl rfl) (C8.pe_c c_law_take hr (by omega) (by rfl) (pa_cons (pv 0) (pa_cons pe_int pa_nil))))
    (pss_cons (ps_if (PW.pt (pw_or (pt_cmpR op_eq (pv 3) pe_int (nomark _)) (pw_or (pt_not (pt_val (pe_callB (r := rIsi K) call_isi (by rfl) m_isinstance (by decide +kernel) (pa_cons (pv 2) (pa_cons (pe_bltn (by rfl) m_tuple (by decide +kernel) (show L2.RelV (.ty "tuple") (.type "tuple") from rfl)) pa_nil))))) (pw_or1 (pt_cmpR op_ne (pe_callB (r := rLn K) call_len_seq (by rfl) m_len PySem.boot_len (pa_cons (pv 2) pa_nil)) pe_int (nomark _)))))) (pss_one (ps_ret (C8.pe_c c_law_thing hr (by omega) (by rfl) (pa_cons (pv 0) (pa_cons (pv 1) (pa_cons (pv 2) pa_nil)))))) pss_nil)
    (pss_cons (ps_asg (pv 2) (pg_tup (by rfl) (pgs_cons (pg_name (i := 5) nd rfl (Or.inl rfl)) (pgs_cons (pg_name (i := 6) nd rfl (Or.inl rfl)) pgs_nil))))
    (pss_cons (ps_if (PW.pt (pw_or (pt_cmpR op_eq (pv 3) pe_int (nomark _)) (pw_or (pt_not (pt_val (pe_callB (r := rIsi K) call_isi (by rfl) m_isinstance (by decide +kernel) (pa_cons (pv 5) (pa_cons (pe_bltn (by rfl) m_tuple (by decide +kernel) (show L2.RelV (.ty "tuple") (.type "tuple") from rfl)) pa_nil))))) (pw_or1 (pt_not (pt_val (pe_callB (r := rIsi K) call_isi (by rfl) m_isinstance (by decide +kernel) (pa_cons (pv 6) (pa_cons (pe_bltn (by rfl) m_tuple (by decide +kernel) (show L2.RelV (.ty "tuple") (.type "tuple") from rfl)) pa_nil))))))))) (pss_cons (ps_set (i := 7) nd rfl (Or.inl rfl) (pe_lst (pa_cons (pe_tup (pa_cons (pv 5) pa_nil)) (pa_cons (pe_tup (pa_cons (pv 5) (pa_cons (pv 6) (pa_cons (pe_tup pa_nil) pa_nil)))) (pa_cons (pe_tup (pa_cons (pv 6) (pa_cons (pv 5) pa_nil))) (pa_cons (pe_tup (pa_cons (pe_ix (r := rIxL K) ix_list (pe_callTy (r := rLsOf K) call_list_of (by rfl) m_list (by decide +kernel) (pa_cons (pe_ix (r := rIxT K) ix_tup (pv 1) pe_int (fun _ _ => rfl)) pa_nil)) pe_int (fun _ _ => rfl)) (pa_cons (pv 6) pa_nil))) pa_nil))))))
    (pss_cons (ps_set (i := 7) nd rfl (Or.inl rfl) (pe_op op_cat (pv 7) (pe_lst (pa_cons (pe_tup (pa_cons (pv 5) (pa_cons (C8.pe_c c_law_thing hr (by omega) (by rfl) (pa_cons (pv 0) (pa_cons (pv 1) (pa_cons (pv 6) pa_nil)))) pa_nil))) (pa_cons (pe_tup (pa_cons (C8.pe_c c_law_thing hr (by omega) (by rfl) (pa_cons (pv 0) (pa_cons (pv 1) (pa_cons (pv 5) pa_nil)))) (pa_cons (pv 6) pa_nil))) pa_nil)))))
    (pss_one (ps_ret (pe_ix (r := rIxL K) ix_list (pv 7) (C8.pe_c c_law_take hr (by omega) (by rfl) (pa_cons (pv 0) (pa_cons pe_int pa_nil))) (fun _ _ => rfl)))))) pss_nil)
    (pss_cons (ps_if (pt_cmpR op_lt (pv 3) pe_int (nomark _)) (pss_one (ps_ret (pe_tup (pa_cons (pv 5) (pa_cons (pe_callTy (r := rTpOf K) call_tuple_of (by rfl) m_tuple (by decide +kernel) (pa_cons (C8.pe_c c_law_other_places hr (by omega) (by rfl) (pa_cons (pv 0) (pa_cons (pv 1) (pa_cons (pe_callTy (r := rLsOf K) call_list_of (by rfl) m_list (by decide +kernel) (pa_cons (pv 6) pa_nil)) pa_nil)))) pa_nil)) pa_nil))))) pss_nil)
    (pss_cons (ps_set (i := 4) nd rfl (Or.inl rfl) (C8.pe_c c_law_take hr (by omega) (by rfl) (pa_cons (pv 0) (pa_cons (pe_op op_add (pe_callB (r := rLn K) call_len_seq (by rfl) m_len PySem.boot_len (pa_cons (pv 5) pa_nil)) pe_int) pa_nil))))
    (pss_cons (ps_if (pt_cmpR op_eq (pv 3) pe_int (nomark _)) (pss_one (ps_ret (pe_tup (pa_cons (pe_op (r := rCatA K) op_catA (pe_slice (r := rSlA K) sl_tupA (pv 5) po_none (po_some (pv 4))) (pe_slice (r := rSlA K) sl_tupA (pv 5) (po_some (pe_op op_add (pv 4) pe_int)) po_none)) (pa_cons (pv 6) pa_nil))))) pss_nil)
    (pss_cons (ps_if (pt_cmpR op_eq (pv 3) pe_int (nomark _)) (pss_one (ps_ret (pe_tup (pa_cons (pe_op (r := rCatA K) op_catA (pe_op (r := rCatA K) op_catA (pe_slice (r := rSlA K) sl_tupA (pv 5) po_none (po_some (pv 4))) (pe_tup (pa_cons (C8.pe_c c_law_thing hr (by omega) (by rfl) (pa_cons (pv 0) (pa_cons (pv 1) (pa_cons pe_str pa_nil)))) pa_nil))) (pe_slice (r := rSlA K) sl_tupA (pv 5) (po_some (pv 4)) po_none)) (pa_cons (pv 6) pa_nil))))) pss_nil)
    (pss_one (ps_ret (pe_tup (pa_cons (pe_slice (r := rSlA K) sl_tupA (pe_op (r := rCatA K) op_catA (pe_op (r := rCatA K) op_catA (pe_slice (r := rSlA K) sl_tupA (pv 5) po_none (po_some (pv 4))) (pe_tup (pa_cons (C8.pe_c c_law_thing hr (by omega) (by rfl) (pa_cons (pv 0) (pa_cons (pv 1) (pa_cons pe_str pa_nil)))) pa_nil))) (pe_slice (r := rSlA K) sl_tupA (pv 5) (po_some (pe_op op_add (pv 4) pe_int)) po_none)) po_none (po_some (pe_callB (call_max2 rfl) (by rfl) m_max (by decide +kernel) (pa_cons pe_int (pa_cons (pe_callB (r := rLn K) call_len_seq (by rfl) m_len PySem.boot_len (pa_cons (pv 5) pa_nil)) pa_nil))))) (pa_cons (pv 6) pa_nil))))))))))))), ?_⟩
  obtain ⟨r, dd, i1, i2, as, i3, iR⟩ := id hH
  have r1_ := hV.r1
  have tuB : ∀ {H' : Hp}, Ch b H H' → Tu H H' := fun c => Tu.of c hB
  have q1 : ∀ y H', DV H' (l + 1) m (n + 1) y → Box H' b → Ch b H H' → Q y H' := fun y H' hy => q y H' (hy.wide (Nat.le_refl _) (by omega) (Nat.le_refl _))
  refine ⟨_, rfl, b, 7, rfl, hB, by decide, by decide, fun r0 H1 r00 r01 B1 c1 => ?_⟩
  have hd1 := hd.tu (tuB c1)
  have hH1 := hH.tu (tuB c1)
  obtain ⟨ty, tp, ln, hty, hk, htp⟩ := dv_tp hd1
  set_option simprocs false in dsimp only [gName, gNil, tNext]
  refine sif_ev (decide (r0 = 0) || (!tp || ln)) (fun Kc hK => ?_) (fun hT => ?_) (fun hF => ?_)
  · refine or_ev (decide (r0 = 0)) (!tp || ln) (fun K2 h2 => ?_) (fun _ K2 h2 => ?_) hK
    · refine ⟨_, rfl, rfl, _, rfl, ?_⟩
      rw [dint_b]
      exact h2
    · refine or_ev (!tp) ln (fun K3 h3 => ?_) (fun ht K3 h3 => ?_) h2
      · exact ⟨_, rfl, x, .ty "tuple", .type ty, .type "tuple", tp, rfl, .ty _, hty K, hk K, _, rfl, h3⟩
      · have ht' : tp = true := by cases tp <;> first | rfl | cases ht
        obtain ⟨n', a, us, e1, e2, e3, e4, e5, e6⟩ := htp ht'
        refine ⟨_, rfl, a, us, by rw [e2], .inr (SqT.of e3), rfl, _, rfl, ?_⟩
        rw [← e6]
        exact h3
  · refine ⟨_, rfl, _, rfl, _, rfl, b, h, x, l, m, n, rooms, rows, rfl, B1, hH1, hV, hd1, l8, l90, m13, m800, by omega, fun y H2 hy B2 c2 => ?_⟩
    exact q1 y H2 hy B2 (c1.trans c2)
  rw [Bool.or_eq_false_iff, Bool.or_eq_false_iff] at hF
  obtain ⟨n', a, us, rfl, rfl, e3, e4, e5, e6⟩ := htp (by cases tp with
    | true => rfl
    | false => exact Bool.noConfusion hF.2.1)
  obtain ⟨y0, y1, rfl⟩ := two_us (e6.symm.trans hF.2.2)
  have hy0 := e5 y0 (List.mem_cons_self ..)
  have hy1 := e5 y1 (List.mem_cons_of_mem _ (List.mem_cons_self ..))
  have f0 : r0 ≠ 0 := by
    intro z
    rw [decide_eq_true z] at hF
    exact Bool.noConfusion hF.1
  clear hF htp e6 hk hty e5 e4
  refine ⟨_, rfl, a, _, rfl, SqT.of e3, rfl, _, _, rfl, _, _, rfl, rfl, ?_⟩
  have wide0 : ∀ {G : Hp} {y : V}, Tu H1 G → DV H1 l m n' y → DV G (l + 1) m (n' + 1) y := fun t hy => (hy.tu t).wide (Nat.le_succ l) (Nat.le_refl m) (Nat.le_succ n')
  obtain ⟨ty0, tp0, ln0, hty0, hk0, htp0⟩ := dv_tp hy0
  obtain ⟨ty1, tp1, ln1, hty1, hk1, htp1⟩ := dv_tp hy1
  set_option simprocs false in dsimp only [gName, gNil, tNext]
  refine sif_ev (decide (r0 = 1) || (!tp0 || !tp1)) (fun Kc hK => ?_) (fun hT => ?_) (fun hF => ?_)
  · refine or_ev (decide (r0 = 1)) (!tp0 || !tp1) (fun K2 h2 => ?_) (fun _ K2 h2 => ?_) hK
    · refine ⟨_, rfl, rfl, _, rfl, ?_⟩
      rw [dint_b]
      exact h2
    · refine or_ev (!tp0) (!tp1) (fun K3 h3 => ?_) (fun ht K3 h3 => ?_) h2
      · exact ⟨_, rfl, y0, .ty "tuple", .type ty0, .type "tuple", tp0, rfl, .ty _, hty0 K, hk0 K, _, rfl, h3⟩
      · exact ⟨_, rfl, y1, .ty "tuple", .type ty1, .type "tuple", tp1, rfl, .ty _, hty1 K, hk1 K, _, rfl, h3⟩
  · clear htp0 htp1 hty0 hty1 hk0 hk1
    have m0 : rooms[0]? = some (rooms[0]'(by omega)) := List.getElem?_eq_getElem (by omega)
    generalize rooms[0]'(by omega) = rm0 at m0
    have hr0 : (rooms.map V.str)[0]? = some (.str rm0) := by rw [List.getElem?_map, m0]; rfl
    have rm8 : rm0.length ≤ l := Nat.le_trans (Nat.le_trans (hV.nm rm0 (List.mem_of_getElem? m0)).2.1 (by decide)) l8
    refine ⟨_, rfl, (by show 1 ≤ sizeLine; decide), fun t1 ht1 => ?_⟩
    have u1 : Tu H1 (upd H1 t1 (.tup [y0])) := Tu.new ht1 _
    have s1 := same_new ht1 (.tup [y0])
    have d1 : DV (upd H1 t1 (.tup [y0])) (l + 1) m (n' + 1 + 1) (.ref t1) := DV.mk upd_same (by show 1 ≤ m; omega) fun y hy => by
      rw [List.mem_singleton.mp hy]
      exact wide0 u1 hy0
    generalize upd H1 t1 (.tup [y0]) = G1 at u1 s1 d1 ⊢
    refine ⟨_, rfl, _, rfl, (by show 0 ≤ sizeLine; decide), fun t2 ht2 => ?_⟩
    have u2 := Tu.new ht2 (.tup [])
    have s2 := same_new ht2 (.tup [])
    have d2 : DV (upd G1 t2 (.tup [])) (l + 1) m (n' + 1) (.ref t2) := DV.mk upd_same (Nat.zero_le _) fun y hy => by cases hy
    generalize upd G1 t2 (.tup []) = G2 at u2 s2 d2 ⊢
    refine ⟨(by show 3 ≤ sizeLine; decide), fun t3 ht3 => ?_⟩
    have u3 := Tu.new ht3 (.tup [y0, y1, .ref t2])
    have s3 := same_new ht3 (.tup [y0, y1, .ref t2])
    have d3 : DV (upd G2 t3 (.tup [y0, y1, .ref t2])) (l + 1) m (n' + 1 + 1) (.ref t3) := DV.mk upd_same (by show 3 ≤ m; omega) fun y hy => by
      simp only [List.mem_cons, List.not_mem_nil, or_false] at hy
      rcases hy with rfl | rfl | rfl
      · exact wide0 ((u1.trans u2).trans u3) hy0
      · exact wide0 ((u1.trans u2).trans u3) hy1
      · exact d2.tu u3
    generalize upd G2 t3 (.tup [y0, y1, .ref t2]) = G3 at u3 s3 d3 ⊢
    refine ⟨_, rfl, _, rfl, (by show 2 ≤ sizeLine; decide), fun t4 ht4 => ?_⟩
    have u4 := Tu.new ht4 (.tup [y1, y0])
    have s4 := same_new ht4 (.tup [y1, y0])
    have u14 := ((u1.trans u2).trans u3).trans u4
    have d4 : DV (upd G3 t4 (.tup [y1, y0])) (l + 1) m (n' + 1 + 1) (.ref t4) := DV.mk upd_same (by show 2 ≤ m; omega) fun y hy => by
      simp only [List.mem_cons, List.not_mem_nil, or_false] at hy
      rcases hy with rfl | rfl
      · exact wide0 u14 hy1
      · exact wide0 u14 hy0
    generalize upd G3 t4 (.tup [y1, y0]) = G4 at u4 s4 d4 u14 ⊢
    have u04 := (tuB c1).trans u14
    refine ⟨_, rfl, h, _, _, _, rfl, rfl, SqT.of (u04 _ _ i1), atI_nat (j := 0) rfl, r, _, rfl, .inr (SqT.of (u04 _ _ i2)), fun l5 hl5 => ?_⟩
    have u5 := Tu.new hl5 (.lst (rooms.map V.str))
    have s5 := same_new hl5 (.lst (rooms.map V.str))
    have k5 : upd G4 l5 (.lst (rooms.map V.str)) l5 = some (.lst (rooms.map V.str)) := upd_same
    generalize upd G4 l5 (.lst (rooms.map V.str)) = G5 at u5 s5 k5 ⊢
    refine ⟨l5, _, _, _, rfl, rfl, SqL.of k5, atI_nat (j := 0) hr0, _, rfl, (by show 2 ≤ sizeLine; decide), fun t6 ht6 => ?_⟩
    have u6 := Tu.new ht6 (.tup [.str rm0, y1])
    have s6 := same_new ht6 (.tup [.str rm0, y1])
    have d6 : DV (upd G5 t6 (.tup [.str rm0, y1])) (l + 1) m (n' + 1 + 1) (.ref t6) := DV.mk upd_same (by show 2 ≤ m; omega) fun y hy => by
      simp only [List.mem_cons, List.not_mem_nil, or_false] at hy
      rcases hy with rfl | rfl
      · exact DV.str (by omega)
      · exact wide0 ((u14.trans u5).trans u6) hy1
    generalize upd G5 t6 (.tup [.str rm0, y1]) = G6 at u6 s6 d6 ⊢
    refine ⟨(by show 4 ≤ sizeLine; decide), fun l7 hl7 => ?_⟩
    have u7 := Tu.new hl7 (.lst [.ref t1, .ref t3, .ref t4, .ref t6])
    have s7 := same_new hl7 (.lst [.ref t1, .ref t3, .ref t4, .ref t6])
    have k7 : upd G6 l7 (.lst [.ref t1, .ref t3, .ref t4, .ref t6]) l7 = some (.lst [.ref t1, .ref t3, .ref t4, .ref t6]) := upd_same
    have u47 := (u5.trans u6).trans u7
    have all4 : ∀ v ∈ ([.ref t1, .ref t3, .ref t4, .ref t6] : List V), DV (upd G6 l7 (.lst [.ref t1, .ref t3, .ref t4, .ref t6])) (l + 1) m (n' + 1 + 1) v := fun v hv => by
      simp only [List.mem_cons, List.not_mem_nil, or_false] at hv
      rcases hv with rfl | rfl | rfl | rfl
      · exact d1.tu (((u2.trans u3).trans u4).trans u47)
      · exact d3.tu (u4.trans u47)
      · exact d4.tu u47
      · exact d6.tu u7
    have l4 : ([.ref t1, .ref t3, .ref t4, .ref t6] : List V).length = 4 := rfl
    have s17 : Same H1 (upd G6 l7 (.lst [.ref t1, .ref t3, .ref t4, .ref t6])) := (((((s1.trans s2).trans s3).trans s4).trans s5).trans s6).trans s7
    have nl7 : l7 ≠ b := (bxs B1 (((((s1.trans s2).trans s3).trans s4).trans s5).trans s6)).ne hl7
    generalize ([.ref t1, .ref t3, .ref t4, .ref t6] : List V) = xs at all4 l4 k7 s17 ⊢
    generalize upd G6 l7 (.lst xs) = G7 at k7 s17 all4 ⊢
    clear u1 s1 d1 u2 s2 d2 u3 s3 d3 u4 s4 d4 u14 u04 u5 s5 k5 u6 s6 d6 u7 s7 u47 ht1 ht2 ht3 ht4 hl5 ht6 hl7
    have B7 := bxs B1 s17
    have c7 := c1.trans (Ch.of s17)
    have t17 := Tu.same s17
    refine ⟨_, rfl, _, rfl, _, rfl, _, rfl, _, rfl, b, h, y1, l, m, n', rooms, rows, rfl, B7, hH1.tu t17, hV, hy1.tu t17, l8, l90, m13, m800, by omega, fun z1 G8 hz1 B8 c8 => ⟨(by show 2 ≤ sizeLine; decide), fun t9 ht9 => ?_⟩⟩
    have t18 := t17.trans (Tu.of c8 B7)
    have s9 := same_new ht9 (.tup [y0, z1])
    have d9 : DV (upd G8 t9 (.tup [y0, z1])) (l + 1) m (n' + 1 + 1) (.ref t9) := DV.mk upd_same (by show 2 ≤ m; omega) fun y hy => by
      simp only [List.mem_cons, List.not_mem_nil, or_false] at hy
      rcases hy with rfl | rfl
      · exact wide0 (t18.trans (Tu.same s9)) hy0
      · exact hz1.tu (Tu.same s9)
    have B9 := bxs B8 s9
    generalize upd G8 t9 (.tup [y0, z1]) = G9 at s9 d9 B9 ⊢
    have c79 := c8.trans (Ch.of s9)
    have t19 := t18.trans (Tu.same s9)
    refine ⟨_, rfl, _, rfl, _, rfl, b, h, y0, l, m, n', rooms, rows, rfl, B9, hH1.tu t19, hV, hy0.tu t19, l8, l90, m13, m800, by omega, fun z2 G10 hz2 B10 c10 => ⟨_, rfl, (by show 2 ≤ sizeLine; decide), fun t11 ht11 => ?_⟩⟩
    have t110 := t19.trans (Tu.of c10 B9)
    have s11 := same_new ht11 (.tup [z2, y1])
    have d11 : DV (upd G10 t11 (.tup [z2, y1])) (l + 1) m (n' + 1 + 1) (.ref t11) := DV.mk upd_same (by show 2 ≤ m; omega) fun y hy => by
      simp only [List.mem_cons, List.not_mem_nil, or_false] at hy
      rcases hy with rfl | rfl
      · exact hz2.tu (Tu.same s11)
      · exact wide0 (t110.trans (Tu.same s11)) hy1
    have B11 := bxs B10 s11
    have u911 := (Tu.of c10 B9).trans (Tu.same s11)
    have c711 := (c79.trans c10).trans (Ch.of s11)
    generalize upd G10 t11 (.tup [z2, y1]) = G11 at s11 d11 B11 u911 c711 ⊢
    refine ⟨(by show 2 ≤ sizeLine; decide), fun l12 hl12 => ?_⟩
    have s12 := same_new hl12 (.lst [.ref t9, .ref t11])
    refine catV (s12 _ _ (c711 _ _ nl7 k7)) upd_same (by rw [l4]; show 4 + 2 ≤ 1000; decide) fun p13 G13 g13 s13 => ?_
    have s1113 := s12.trans s13
    have B13 := bxs B11 s1113
    have c713 := c711.trans (Ch.of s1113)
    have n13 : p13 ≠ b := fun e => by
      obtain ⟨c, sd, n0, hb, _⟩ := B13
      rw [e, hb] at g13
      have z := congrArg List.length (HO.lst.inj (Option.some.inj g13))
      rw [List.length_append, l4] at z
      have z' : 3 = 6 := z
      omega
    refine ⟨_, rfl, _, rfl, b, 6, rfl, B13, by decide, by decide, fun r2 G14 r20 r21 B14 c14 => ?_⟩
    obtain ⟨jn, rfl⟩ : ∃ jn : Nat, r2 = (jn : Int) := ⟨r2.toNat, by omega⟩
    have l6 : (xs ++ [V.ref t9, V.ref t11]).length = 6 := by rw [List.length_append, l4]; rfl
    have jl : jn < (xs ++ [V.ref t9, V.ref t11]).length := by omega
    refine ⟨p13, _, _, _, rfl, rfl, SqL.of (c14 _ _ n13 g13), atI_nat (List.getElem?_eq_getElem jl), ?_⟩
    have hm := List.getElem_mem jl
    generalize (xs ++ [V.ref t9, V.ref t11])[jn] = ch at hm ⊢
    have c714 := c713.trans c14
    refine q1 ch G14 ?_ B14 (c7.trans c714)
    have tE := Tu.of c14 B13
    rcases List.mem_append.mp hm with hm | hm
    · exact (all4 _ hm).tu (Tu.of c714 B7)
    · rcases List.mem_cons.mp hm with rfl | hm
      · exact ((d9.tu u911).tu (Tu.same s1113)).tu tE
      · rw [List.mem_singleton.mp hm]
        exact (d11.tu (Tu.same s1113)).tu tE
  rw [Bool.or_eq_false_iff, Bool.or_eq_false_iff] at hF
  obtain ⟨n2, a0, us0, rfl, rfl, g3, g4, g5, _⟩ := htp0 (by cases tp0 with
    | true => rfl
    | false => exact Bool.noConfusion hF.2.1)
  obtain ⟨n3, a1, us1, en, rfl, k3, k4, k5, _⟩ := htp1 (by cases tp1 with
    | true => rfl
    | false => exact Bool.noConfusion hF.2.2)
  obtain rfl : n2 = n3 := by omega
  have f1 : r0 ≠ 1 := by
    intro z
    rw [decide_eq_true z] at hF
    exact Bool.noConfusion hF.1
  clear hF htp0 htp1 hty0 hty1 hk0 hk1 en
  have wide2 : ∀ {G : Hp} {y : V}, Tu H1 G → DV H1 l m n2 y → DV G (l + 1) (m + 6) (n2 + 1) y := fun t hy => (hy.tu t).wide (Nat.le_succ l) (by omega) (Nat.le_succ n2)
  have wide1 : ∀ {G : Hp} {y : V}, Tu H1 G → DV H1 l m (n2 + 1) y → DV G (l + 1) (m + 6) (n2 + 1 + 1) y := fun t hy => (hy.tu t).wide (Nat.le_succ l) (by omega) (Nat.le_succ _)
  set_option simprocs false in dsimp only [gName, gNil, tNext]
  refine sif_ev (decide (r0 < 4)) (fun Kc hK => ?_) (fun hT => ?_) (fun hF => ?_)
  · exact ⟨_, rfl, _, _, rfl, rfl, _, rfl, hK⟩
  · refine ⟨_, rfl, _, rfl, _, rfl, _, rfl, a1, _, rfl, .inr (SqT.of k3), fun lp hlp => ?_⟩
    have s2 := same_new hlp (.lst us1)
    have nlp := B1.ne hlp
    have k2 : upd H1 lp (.lst us1) lp = some (.lst us1) := upd_same
    generalize upd H1 lp (.lst us1) = G2 at s2 k2 ⊢
    have B2 := bxs B1 s2
    refine ⟨b, h, lp, us1, l, m, n2, rooms, rows, rfl, B2, nlp, hH1.tu (Tu.same s2), hV, k2, fun y hy => (k5 y hy).tu (Tu.same s2), k4, l8, l90, m13, m800, by omega, fun qa ys G3 hq hys hyl B3 c3 => ⟨_, _, rfl, .inl ⟨SqL.of hq, fun t ht => ?_⟩⟩⟩
    have t13 := (Tu.same s2).trans (Tu.of c3 B2)
    have s4 := same_new ht (.tup ys)
    refine ⟨(by show 2 ≤ sizeLine; decide), fun t5 ht5 => ?_⟩
    have s5 := same_new ht5 (.tup [.ref a0, .ref t])
    have s35 := s4.trans s5
    refine q _ _ (DV.mk upd_same (by show 2 ≤ m + 6; omega) fun y hy => ?_) (bxs B3 s35) (((c1.trans (Ch.of s2)).trans c3).trans (Ch.of s35))
    simp only [List.mem_cons, List.not_mem_nil, or_false] at hy
    rcases hy with rfl | rfl
    · exact wide1 (t13.trans (Tu.same s35)) hy0
    · refine DV.mk (s5 _ _ upd_same) hyl fun y hy => ?_
      exact ((hys y hy).wide (Nat.le_refl _) (by omega) (Nat.le_refl _)).tu (Tu.same s35)
  have f4 : 4 ≤ r0 := by
    refine Classical.byContradiction fun z => ?_
    rw [decide_eq_true (show r0 < 4 by omega)] at hF
    cases hF
  refine ⟨_, rfl, _, rfl, a0, _, rfl, .inr (SqT.of g3), _, _, rfl, rfl, b, _, rfl, B1, by omega, by omega, fun r2 G0 r20 r21 B2 c2 => ?_⟩
  obtain ⟨j, rfl⟩ : ∃ j : Nat, r2 = (j : Int) := ⟨r2.toNat, by omega⟩
  have t12 := Tu.of c2 B1
  have c02 := c1.trans c2
  have g6 := t12 _ _ g3
  have hto : cutV us0 none (some (j : Int)) = us0.take j := by rw [cut_to (Int.natCast_nonneg _), Int.toNat_natCast]
  have hfr : ∀ j : Nat, cutV us0 (some (j : Int)) none = us0.drop j := fun j => cut_fr_ _
  have hj1 : ((j : Int) + 1) = ((j + 1 : Nat) : Int) := by omega
  have fin : ∀ (p : Addr) (ys : List V) (G : Hp), Tu G0 G → Box G b → Ch b H G → G p = some (.tup ys) → ys.length ≤ m + 6 → (∀ y ∈ ys, y ∈ us0 ∨ DV G (l + 1) m (n2 + 1) y) → ∀ t, G t = none → Q (.ref t) (upd G t (.tup [.ref p, .ref a1])) := fun p ys G tG BG cG hp hl hys t ht => by
    have s := same_new ht (.tup [.ref p, .ref a1])
    refine q _ _ (DV.mk upd_same (by show 2 ≤ m + 6; omega) fun y hy => ?_) (bxs BG s) (cG.trans (Ch.of s))
    simp only [List.mem_cons, List.not_mem_nil, or_false] at hy
    rcases hy with rfl | rfl
    · refine DV.mk (s _ _ hp) hl fun y hy => ?_
      rcases hys y hy with hy | hy
      · exact wide2 ((t12.trans tG).trans (Tu.same s)) (g5 y hy)
      · exact (hy.wide (Nat.le_refl _) (by omega) (Nat.le_refl _)).tu (Tu.same s)
    · exact wide1 ((t12.trans tG).trans (Tu.same s)) hy1
  have thing : ∀ {G : Hp}, DV G l m n2 (.str "a") := fun {G} => by
    obtain ⟨k, rfl⟩ : ∃ k, n2 = k + 1 := ⟨n2 - 1, by omega⟩
    exact DV.str (by show 1 ≤ l; omega)
  set_option simprocs false in dsimp only [gName, gNil, tNext]
  refine sif_ev (decide (r0 = 4)) (fun Kc hK => ?_) (fun hT => ?_) (fun hF => ?_)
  · refine ⟨_, rfl, rfl, _, rfl, ?_⟩
    rw [dint_b]
    exact hK
  · refine ⟨_, rfl, _, rfl, _, rfl, ?_⟩
    refine slT g6 hto fun p1 G1 s1 k1 => ?_
    refine ⟨_, rfl, _, rfl, _, _, rfl, rfl, _, rfl, ?_⟩
    refine slTN (s1 _ _ g6) (show cutV us0 (some ((j : Int) + 1)) none = us0.drop (j + 1) by rw [hj1]; exact hfr _) fun p2 G2 s2 k2 => ?_
    refine catT (s2 _ _ k1) k2 (by rw [List.length_take, List.length_drop]; omega) fun p3 G3 s3 k3' => ?_
    have s03 := (s1.trans s2).trans s3
    refine ⟨_, rfl, (by show 2 ≤ sizeLine; decide), fun t ht => ?_⟩
    refine fin p3 _ G3 (Tu.same s03) (bxs B2 s03) (c02.trans (Ch.of s03)) k3' (by rw [List.length_append, List.length_take, List.length_drop]; omega) (fun y hy => .inl ?_) t ht
    rcases List.mem_append.mp hy with hy | hy
    · exact List.mem_of_mem_take hy
    · exact List.mem_of_mem_drop hy
  set_option simprocs false in dsimp only [gName, gNil, tNext]
  refine sif_ev (decide (r0 = 5)) (fun Kc hK => ?_) (fun hT => ?_) (fun hF2 => ?_)
  · refine ⟨_, rfl, rfl, _, rfl, ?_⟩
    rw [dint_b]
    exact hK
  · refine ⟨_, rfl, _, rfl, _, rfl, ?_⟩
    refine slT g6 hto fun p1 G1 s1 k1 => ?_
    refine ⟨_, rfl, _, rfl, b, h, .str "a", l, m, n2, rooms, rows, rfl, bxs B2 s1, (hH1.tu t12).tu (Tu.same s1), hV, thing, l8, l90, m13, m800, by omega, fun z G2 hz B3 c3 => ⟨(by show 1 ≤ sizeLine; decide), fun t4 ht4 => ?_⟩⟩
    have n1b : Tu G1 G2 := Tu.of c3 (bxs B2 s1)
    have s4 := same_new ht4 (.tup [z])
    have t04 : Tu G0 (upd G2 t4 (.tup [z])) := ((Tu.same s1).trans n1b).trans (Tu.same s4)
    refine catT (s4 _ _ (n1b _ _ k1)) upd_same (by rw [List.length_take]; show _ + 1 ≤ 1000; omega) fun p5 G5 s5 k5' => ?_
    refine ⟨_, rfl, _, rfl, _, rfl, ?_⟩
    refine slTN ((t04.trans (Tu.same s5)) _ _ g6) (hfr _) fun p6 G6 s6 k6 => ?_
    refine catT (s6 _ _ k5') k6 (by rw [List.length_append, List.length_take, List.length_drop]; show _ + 1 + _ ≤ 1000; omega) fun p7 G7 s7 k7 => ?_
    have s27 := ((s4.trans s5).trans s6).trans s7
    refine ⟨_, rfl, (by show 2 ≤ sizeLine; decide), fun t ht => ?_⟩
    refine fin p7 _ G7 (((Tu.same s1).trans n1b).trans (Tu.same s27)) (bxs B3 s27) (((c02.trans (Ch.of s1)).trans c3).trans (Ch.of s27)) k7 (by rw [List.length_append, List.length_append, List.length_take, List.length_drop]; show _ + 1 + _ ≤ _; omega) (fun y hy => ?_) t ht
    rcases List.mem_append.mp hy with hy | hy
    · rcases List.mem_append.mp hy with hy | hy
      · exact .inl (List.mem_of_mem_take hy)
      · rw [List.mem_singleton.mp hy]
        exact .inr (hz.tu (Tu.same s27))
    · exact .inl (List.mem_of_mem_drop hy)
  refine ⟨_, rfl, _, rfl, _, rfl, ?_⟩
  refine slT g6 hto fun p1 G1 s1 k1 => ?_
  refine ⟨_, rfl, _, rfl, b, h, .str "a", l, m, n2, rooms, rows, rfl, bxs B2 s1, (hH1.tu t12).tu (Tu.same s1), hV, thing, l8, l90, m13, m800, by omega, fun z G2 hz B3 c3 => ⟨(by show 1 ≤ sizeLine; decide), fun t4 ht4 => ?_⟩⟩
  have n1b : Tu G1 G2 := Tu.of c3 (bxs B2 s1)
  have s4 := same_new ht4 (.tup [z])
  have t04 : Tu G0 (upd G2 t4 (.tup [z])) := ((Tu.same s1).trans n1b).trans (Tu.same s4)
  refine catT (s4 _ _ (n1b _ _ k1)) upd_same (by rw [List.length_take]; show _ + 1 ≤ 1000; omega) fun p5 G5 s5 k5' => ?_
  refine ⟨_, rfl, _, rfl, _, _, rfl, rfl, _, rfl, ?_⟩
  refine slTN ((t04.trans (Tu.same s5)) _ _ g6) (show cutV us0 (some ((j : Int) + 1)) none = us0.drop (j + 1) by rw [hj1]; exact hfr _) fun p6 G6 s6 k6 => ?_
  refine catT (s6 _ _ k5') k6 (by rw [List.length_append, List.length_take, List.length_drop]; show _ + 1 + _ ≤ 1000; omega) fun p7 G7 s7 k7 => ?_
  have s27 := ((s4.trans s5).trans s6).trans s7
  have t07 : Tu G0 G7 := ((Tu.same s1).trans n1b).trans (Tu.same s27)
  refine ⟨_, rfl, a0, _, rfl, .inr (SqT.of (t07 _ _ g6)), _, _, rfl, _, rfl, ?_⟩
  refine slT k7 (cut_to (by split <;> omega)) fun p8 G8 s8 k8 => ?_
  refine ⟨_, rfl, (by show 2 ≤ sizeLine; decide), fun t ht => ?_⟩
  have s28 := s27.trans s8
  refine fin p8 _ G8 (t07.trans (Tu.same s8)) (bxs B3 s28) (((c02.trans (Ch.of s1)).trans c3).trans (Ch.of s28)) k8 (by rw [List.length_take]; refine Nat.le_trans (Nat.min_le_right _ _) ?_; rw [List.length_append, List.length_append, List.length_take, List.length_drop]; show _ + 1 + _ ≤ _; omega) (fun y hy => ?_) t ht
  rcases List.mem_append.mp (List.mem_of_mem_take hy) with hy | hy
  · rcases List.mem_append.mp hy with hy | hy
    · exact .inl (List.mem_of_mem_take hy)
    · rw [List.mem_singleton.mp hy]
      exact .inr (hz.tu (Tu.same s28))
  · exact .inl (List.mem_of_mem_drop hy)
end
end Td
set_option maxHeartbeats 4000000
namespace Td
open PySem PySem.Spec PyProof.Rows L2
/-! ### a row, as repr shows it -/
def rowD (l : List Deed) : PyData := .list ((l.map pr).map sD)
theorem RowL.dp {K : PySem.W.Frag} {H : Hp} {p : Addr} {l : List Deed} (h : RowL H p l) : Dp K H (.ref p) (rowD l) := by
  obtain ⟨as, h1, h2⟩ := h
  exact .lst (SqL.of h1) (dp_rows h2)
theorem NmD.shows {l : List Deed} (h : NmD l) (h64 : l.length ≤ 64) : Shows (rowD l) := by
  have hn : ∀ r ∈ l.map pr, (∀ x ∈ r, Nm x) ∧ r.length = 2 := fun r hr => by
    obtain ⟨p, hp, rfl⟩ := List.mem_map.mp hr
    refine ⟨fun x hx => ?_, rfl⟩
    rcases List.mem_cons.mp hx with rfl | hx
    · exact (h p hp).1
    · rw [List.mem_singleton.mp hx]
      exact (h p hp).2
  have hl : (l.map pr).length ≤ 64 := by rw [List.length_map]; exact h64
  unfold rowD
  generalize l.map pr = rows at hn hl
  have d2 := depth_map sD 3 depth_sD rows
  have w2 := weightAll_map sD 14 rows fun r hr => Nat.le_trans (weight_sD (hn r hr).1) (by have := (hn r hr).2; omega)
  have s1 : ∀ ss : List Str, (sD ss).showable = true := fun ss => by unfold sD; rw [PyData.showable]; exact showAll_map _ ss fun a _ => by rw [PyData.showable]
  have n1 : ∀ ss : List Str, (sD ss).hasDict = false := fun ss => by unfold sD; rw [PyData.hasDict]; exact noDictAll_map _ ss fun a _ => by rw [PyData.hasDict]
  refine ⟨?_, ?_, ?_, PyData.shown_fits (B := 8) (by decide) (by decide) ?_ ?_⟩
  · simp only [PyData.showable, showAll_map sD rows fun r _ => s1 r]
  · simp only [PyData.hasDict, noDictAll_map sD rows fun r _ => n1 r]
  · simp only [PyData.depth]
    omega
  · simp only [PyData.leavesShort, shortAll_map sD rows fun r hr => short_sD (hn r hr).1]
  · simp only [PyData.weight]
    omega
theorem rowL_eqv {H : Hp} {a : Addr} {xs : List V} {l : List Deed} (h : RowL H a l) : True := trivial
end Td
set_option maxHeartbeats 4000000
namespace Td
open PySem PySem.Spec PyProof.Rows L2
/-! ### a state of the hall is one -/
theorem fstB_no {α β : Type} {bad : List α → α → Option β} : ∀ (l pre : List α), (∀ (i : Nat) (x : α), l[i]? = some x → bad (pre ++ l.take i) x = none) → fstB bad pre l = none
  | [], pre, h => rfl
  | x :: r, pre, h => by
    have h0 := h 0 x rfl
    rw [List.take_zero, List.append_nil] at h0
    show (match bad pre x with | some b => some b | none => fstB bad (pre ++ [x]) r) = none
    rw [h0]
    exact fstB_no r (pre ++ [x]) fun i y hy => by
      have z := h (i + 1) y hy
      rw [List.take_succ_cons] at z
      rw [List.append_assoc]
      exact z
theorem up_at : ∀ (l : List Str) (p : Str) (i : Nat) (x : Str), Up p l → l[i]? = some x → ((l.take i).getLastD p).cps.toList < x.cps.toList
  | [], p, i, x, h, e => by cases e
  | y :: r, p, 0, x, h, e => by
    cases e
    exact h.1
  | y :: r, p, i + 1, x, h, e => by
    rw [List.take_succ_cons, List.getLastD_cons]
    exact up_at r y i x h.2 e
theorem stv_ok {rooms : List Str} {rows : List (List Str)} {faces : List Str} {places : List (List Str)} (h : StV rooms rows faces places) : vS rooms rows (hsD faces places) = none := by
  rw [vS_hs fun r hr => by
    obtain ⟨w, rm, rfl, _⟩ := h.pl r hr
    rfl]
  unfold sM
  rw [if_pos h.fl, if_pos h.p5]
  have e1 : fstB (bFace rows) [] faces = none := fstB_no faces [] fun i x hx => by
    have hil : i < faces.length := (List.getElem?_eq_some_iff.mp hx).1
    have hri : rows[i]? = some (rows[i]'(by have := h.fl; omega)) := List.getElem?_eq_getElem _
    obtain ⟨n, a, b, er, hab⟩ := h.fc i x _ hx hri
    rw [er] at hri
    have tl : (([] : List Str) ++ faces.take i).length = i := by rw [List.nil_append, List.length_take]; omega
    unfold bFace
    rw [tl, List.getD_eq_getElem?_getD, hri]
    refine if_pos ?_
    show x ∈ [a, b]
    rcases hab with rfl | rfl
    · exact List.mem_cons_self ..
    · exact List.mem_cons_of_mem _ (List.mem_cons_self ..)
  have e2 : fstB (bPlace rooms) [] places = none := fstB_no places [] fun i p hp => by
    obtain ⟨w, rm, rfl, hw, hr⟩ := h.pl p (List.mem_of_getElem? hp)
    have hu := up_at _ "" i w h.up (by rw [List.getElem?_map, hp]; rfl)
    unfold bPlace
    refine (if_pos ⟨hw, ?_⟩).trans (if_pos hr)
    rw [List.nil_append]
    unfold lastW
    rw [List.map_take]
    exact hu
  rw [e1, e2]
section
variable {P : Program} {w : World} {K : PySem.W.Frag} {mg : Str → Option Value} {base : Heap} {f : Addr} {fd : FuncData}
abbrev s_law : Stmt := top 28
abbrev n_law : List Str := ["script", "k", "box", "hall", "state", "turn", "value"]
theorem sc_law : FnScope n_law ["script"] (defScope s_law) := ⟨rfl, rfl, rfl, by decide +kernel, rfl, by decide +kernel, by decide +kernel⟩
theorem ok_law (F : FnP K "law" s_law f fd) (c_law_box : Cal P w K mg base 1 "_law_box" (spBox K)) (c_law_changed : Cal P w K mg base 5 "_law_changed" spChgS) (c_law_due : Cal P w K mg base 2 "_law_due" spWAt) (c_law_hall : Cal P w K mg base 3 "_law_hall" spHall) (c_law_met : Cal P w K mg base 5 "_law_met" spWAt) (c_law_state : Cal P w K mg base 3 "_law_state" spState) (c_law_take : Cal P w K mg base 1 "_law_take" spTake) (m_len : mg "len" = none) (m_max : mg "max" = none) (m_min : mg "min" = none) (m_range : mg "range" = none) :
    FnG P w K mg base C8.CX0 7 f fd ["script"] (spLaw K) := by
  refine okG F sc_law (fun vs H Q E h => ?_) (fun cdv A outer s H vs Q E gd hr h => ?_)
  · obtain ⟨a, ns, rfl, hS, h63, q⟩ := h
    rfl
  obtain ⟨a, ns, rfl, hS, h63, q⟩ := h
  have nd := sc_law.nd
  refine ⟨_, PSs.nox (pss_cons (ps_for PassesOwn.never rfl (pi_range1 (by rfl) m_range (pa_cons (pe_callB (call_max2 rfl) (by rfl) m_max (by decide +kernel) (pa_cons pe_int (pa_cons (pe_callB (call_min2 rfl) (by rfl) m_min (by decide +kernel) (pa_cons pe_int (pa_cons (pe_callB (r := rLn K) call_len_seq (by rfl) m_len PySem.boot_len (pa_cons (pv 0) pa_nil)) pa_nil))) pa_nil))) pa_nil)) (pg_name (i := 1) nd rfl (Or.inl rfl)) (pss_cons (ps_set (i := 2) nd rfl (Or.inl rfl) (C8.pe_c c_law_box hr (by omega) (by rfl) (pa_cons (pv 0) (pa_cons (pv 1) pa_nil))))
    (pss_cons (ps_set (i := 3) nd rfl (Or.inl rfl) (C8.pe_c c_law_hall hr (by omega) (by rfl) (pa_cons (pv 2) (pa_cons pe_int (pa_cons pe_int pa_nil)))))
    (pss_cons (ps_set (i := 4) nd rfl (Or.inl rfl) (C8.pe_c c_law_state hr (by omega) (by rfl) (pa_cons (pv 2) (pa_cons (pv 3) (pa_cons pe_int pa_nil)))))
    (pss_one (ps_for PassesOwn.never rfl (pi_range1 (by rfl) m_range (pa_cons pe_int pa_nil)) (pg_name (i := 5) nd rfl (Or.inl rfl)) (pss_cons (ps_set (i := 6) nd rfl (Or.inl rfl) (C8.pe_c c_law_changed hr (by omega) (by rfl) (pa_cons (pv 2) (pa_cons (pv 3) (pa_cons (pv 4) pa_nil)))))
    (C8.pss_cut (ps_if (pt_cmpR op_eq (C8.pe_c c_law_take hr (by omega) (by rfl) (pa_cons (pv 2) (pa_cons pe_int pa_nil))) pe_int (nomark _)) (pss_one (ps_set (i := 6) nd rfl (Or.inl rfl) (C8.pe_c c_law_changed hr (by omega) (by rfl) (pa_cons (pv 2) (pa_cons (pv 3) (pa_cons (pv 6) pa_nil)))))) pss_nil)
    (pss_one (ps_if (PW.pt (pw_or (pt_cmpR (r := rNeD K) (op_neD hr.units) (C8.pe_c c_law_met hr (by omega) (by rfl) (pa_cons (pv 3) (pa_cons (pv 6) pa_nil))) (C8.pe_c c_law_due hr (by omega) (by rfl) (pa_cons (pv 3) (pa_cons (pv 6) pa_nil))) (nomark _)) (pw_or1 (pt_cmpR op_notN (C8.pe_c c_law_met hr (by omega) (by rfl) (pa_cons (pv 3) (pa_cons (pv 4) pa_nil))) pe_non (nomark _))))) (pss_one (ps_ret pe_bl)) pss_nil))))))))))
    (pss_one (ps_ret pe_bl))), ?_⟩
  have hlen : (ns.map V.int).length = ns.length := List.length_map _
  refine ⟨_, rfl, a, _, rfl, .inl hS, _, _, rfl, _, _, rfl, _, rfl, ?_, ?_, ?_⟩
  · rw [hlen]
    split <;> split <;> omega
  · rw [hlen]
    split <;> split <;> omega
  refine for_range (lo := 0) (fun i σ' H' => SqL K H' a (ns.map V.int) ∧ ∃ v1 v2 v3 v4 v5 v6 : Option V, σ' = [some (.ref a), v1, v2, v3, v4, v5, v6]) ⟨hS, _, _, _, _, _, _, rfl⟩ (fun i σ' H0 hi ⟨hS0, v1, v2, v3, v4, v5, v6, e⟩ => ?_) (fun σ' H' ⟨hS0, v1, v2, v3, v4, v5, v6, e⟩ => ?_)
  case refine_2 =>
    subst e
    exact q H'
  subst e
  refine ⟨_, rfl, _, rfl, a, ns, _, rfl, hS0, h63, by omega, fun bp H1 s1 hbn B1 => ?_⟩
  have c01 : Ch bp H0 H1 := Ch.of s1
  refine ⟨_, rfl, bp, 8, 12, rfl, B1, by decide, by decide, by decide, by decide, fun hp rooms rows H2 hs hv _ _ B2 c2 => ?_⟩
  refine ⟨_, rfl, _, rfl, bp, hp, 5, rooms, rows, rfl, B2, hs, hv, by decide, by decide, fun st faces places H3 hst sv _ B3 c3 => ?_⟩
  have c03 : Ch bp H0 H3 := (c01.trans c2).trans c3
  have hs3 := hs.tu (Tu.of c3 B2)
  have d12 := hv.d12
  have fl := sv.fl
  have p5 := sv.p5
  have nm8 : ∀ s : Str, Nm s → s.length ≤ 8 := fun s h => Nat.le_trans h.2.1 (by decide)
  have f8 : ∀ s ∈ faces, s.length ≤ 8 := fun s hs => by
    obtain ⟨i, hi⟩ := List.getElem?_of_mem hs
    have hil : i < faces.length := (List.getElem?_eq_some_iff.mp hi).1
    have hri : rows[i]? = some (rows[i]'(by omega)) := List.getElem?_eq_getElem _
    obtain ⟨n, e1, e2, er, hab⟩ := sv.fc i s _ hi hri
    obtain ⟨n', x, y, er2, _, hx, hy, _⟩ := hv.row _ (List.mem_of_getElem? hri)
    rw [er] at er2
    cases er2
    rcases hab with rfl | rfl
    · exact nm8 _ (hv.nm _ hx)
    · exact nm8 _ (hv.nm _ hy)
  have p2 : ∀ p ∈ places, p.length = 2 ∧ ∀ s ∈ p, s.length ≤ 8 := fun p hp => by
    obtain ⟨wk, rm, rfl, hw, hr⟩ := sv.pl p hp
    refine ⟨rfl, fun s hs => ?_⟩
    simp only [List.mem_cons, List.not_mem_nil, or_false] at hs
    rcases hs with rfl | rfl
    · exact nm8 _ hw
    · exact nm8 _ (hv.nm _ hr)
  have dst : DV H3 8 13 8 (.ref st) := (dv_of_hs hst (by decide) (by omega) (by omega) (fun r hr => by rw [(p2 r hr).1]; decide) f8 fun r hr => (p2 r hr).2).wide (Nat.le_refl _) (Nat.le_refl _) (by decide)
  have dm : DM H3 13 4 (.ref st) (hsD faces places) := dm_of_hs hst (by decide) (by omega) (by omega) (fun r hr => by rw [(p2 r hr).1]; decide) (fun s hs => Nat.le_trans (f8 s hs) (by decide)) fun r hr s hs => Nat.le_trans ((p2 r hr).2 s hs) (by decide)
  have ok := stv_ok sv
  refine ⟨_, rfl, by decide, by decide, ?_⟩
  refine for_range (lo := 0) (n := (8 : Int).toNat) (fun k σ' H' => Box H' bp ∧ Ch bp H3 H' ∧ ∃ u5 u6 : Option V, σ' = [some (.ref a), some (.int (0 + (i : Nat))), some (.ref bp), some (.ref hp), some (.ref st), u5, u6]) ⟨B3, Ch.refl _ _, _, _, rfl⟩ (fun k σ' G0 hk ⟨Bg, cg, u5, u6, e⟩ => ?_) (fun σ' G0 ⟨Bg, cg, u5, u6, e⟩ => ?_)
  case refine_2 =>
    subst e
    exact ⟨seq_ch hS0 hbn (c03.trans cg), _, _, _, _, _, _, rfl⟩
  subst e
  have tu : ∀ {G : Hp}, Ch bp H3 G → Tu H3 G := fun c => Tu.of c B3
  refine ⟨_, rfl, _, rfl, _, rfl, bp, hp, .ref st, 8, 13, 8, rooms, rows, rfl, Bg, hs3.tu (tu cg), hv, dst.tu (tu cg), by decide, by decide, by decide, by decide, by decide, fun y G1 hy B4 c4 => ?_⟩
  have c34 := cg.trans c4
  refine ⟨fun σ' G => Box G bp ∧ Ch bp H3 G ∧ ∃ y : V, DV G 10 25 10 y ∧ σ' = [some (.ref a), some (.int (0 + (i : Nat))), some (.ref bp), some (.ref hp), some (.ref st), some (.int (0 + (k : Nat))), some y], ?_, ?_⟩
  · refine ⟨_, rfl, bp, 3, rfl, B4, by decide, by decide, fun r G2 r0 r1 B5 c5 => ⟨rfl, _, rfl, ?_⟩⟩
    have c35 := c34.trans c5
    have hy2 := hy.tu (Tu.of c5 B4)
    by_cases z : r = 0
    case neg =>
      rw [dint_f z]
      exact iteF ⟨B5, c35, y, hy2.wide (by decide) (by decide) (by decide), rfl⟩
    rw [decide_eq_true (show V.int r = V.int 0 by rw [z])]
    refine iteT ?_
    refine ⟨_, rfl, _, rfl, _, rfl, bp, hp, y, 9, 19, 9, rooms, rows, rfl, B5, hs3.tu (tu c35), hv, hy2, by decide, by decide, by decide, by decide, by decide, fun y2 G3 hy3 B6 c6 => ?_⟩
    exact ⟨B6, c35.trans c6, y2, hy3, rfl⟩
  rintro σ' G ⟨BG, cG, y3, hy3, rfl⟩
  obtain ⟨d, hd⟩ := hy3
  have hdm := hd.dm (by decide)
  refine ⟨_, rfl, _, rfl, hp, y3, d, 25, 10, rooms, rows, rfl, hs3.tu (tu cG), hv, hdm, by decide, fun w1 I1 i1 hw1 => ?_⟩
  have c1 := cG.trans (Ch.of i1)
  refine ⟨_, rfl, _, rfl, hp, y3, d, 25, 10, rooms, rows, rfl, hs3.tu (tu c1), hv, hdm.tu (Tu.same i1), by decide, fun w2 I2 i2 hw2 => ?_⟩
  have c2' := c1.trans (Ch.of i2)
  refine ⟨wD (vS rooms rows d), wD (vS rooms rows d), (hw1.tu (Tu.same i2)).dp, hw2.dp, wD_shaped fun b hb => vS_ok hb, wD_shaped fun b hb => vS_ok hb, _, rfl, ?_⟩
  rw [wD_eqv]
  refine iteF ?_
  refine ⟨_, rfl, _, rfl, hp, .ref st, hsD faces places, 13, 4, rooms, rows, rfl, hs3.tu (tu c2'), hv, dm.tu (tu c2'), by decide, fun w3 I3 i3 hw3 => ?_⟩
  rw [ok] at hw3
  cases hw3
  refine ⟨rfl, _, rfl, ?_⟩
  refine iteF ?_
  exact ⟨bxs BG ((i1.trans i2).trans i3), c2'.trans (Ch.of i3), _, _, rfl⟩
end
end Td
set_option maxHeartbeats 0
namespace Td
open PySem PySem.Spec PyProof.Rows L2
def dd (x : Str) (i : Nat) : He.DefD := ⟨(x, none), x, x, defArgs (top i), defBody (top i), defScope (top i), [], []⟩
def di (x q : Str) (i : Nat) : He.DefD := ⟨(x, some "__init__"), "__init__", q, defArgs (mth i), defBody (mth i), defScope (mth i), [], []⟩
def fn : List He.DefD := [dd "is_name" 5, dd "is_strings" 6, dd "is_groups" 7, dd "has_shape" 8, dd "check_faces" 12, dd "_check_places" 13, dd "_law_box" 15, dd "_law_take" 16, dd "_law_names" 17, dd "_law_hall" 18, dd "_law_state" 19, dd "_law_is_name" 20, dd "_law_pairs_good" 21, dd "_law_due" 22, dd "_law_sign" 24, dd "_law_thing" 25, dd "_law_other_places" 26, dd "_law_changed" 27, dd "validate_state" 11, dd "_law_met" 23, dd "law" 28, di "InvalidState" "InvalidState.__init__" 2]
def fa : List He.Fa := [.glo "is_name", .glo "is_strings", .glo "is_groups", .glo "has_shape", .glo "check_faces", .glo "_check_places", .glo "_law_box", .glo "_law_take", .glo "_law_names", .glo "_law_hall", .glo "_law_state", .glo "_law_is_name", .glo "_law_pairs_good", .glo "_law_due", .glo "_law_sign", .glo "_law_thing", .glo "_law_other_places", .glo "_law_changed", .glo "validate_state", .glo "_law_met", .glo "law", .free "all", .free "enumerate", .free "int", .free "isinstance", .free "len", .free "list", .free "max", .free "min", .free "range", .free "sorted", .free "str", .free "tuple", .int "WALKERS" 5, .int "_LETTERS" 6, .glo "InvalidState"]
def ex (K : PySem.W.Frag) : Bool := errV2B K "InvalidState" "reason" "index"
theorem ex_ok {K : PySem.W.Frag} (h : ex K = true) : ErrV2 K "InvalidState" "reason" "index" := errV2B_ok h
abbrev R : PySem.W.OpenRow := PySem.W.OpenLaw.row PySem.Challenge.rw_turndoors_k06_validated_states
abbrev hk : PySem.W.Hook := He.hookX 4 fa fn [] [] ex
def ob (s : PySem.W.SharedT) : He.AlX := He.obsX 4 fa fn [] [] ex (HandSHeadRun.getT s)
theorem ob_eq (s : PySem.W.SharedT) : ob s = hk.obs s.abs := He.obsX_eq (HandSHeadRun.getT_eq s)
def names : List PySem.Str := [("HallError" : PySem.Str), ("InvalidState" : PySem.Str), ("_LETTERS" : PySem.Str), ("is_name" : PySem.Str), ("is_strings" : PySem.Str), ("is_groups" : PySem.Str), ("has_shape" : PySem.Str), ("WALKERS" : PySem.Str), ("validate_state" : PySem.Str), ("check_faces" : PySem.Str), ("_check_places" : PySem.Str), ("_law_box" : PySem.Str), ("_law_take" : PySem.Str), ("_law_names" : PySem.Str), ("_law_hall" : PySem.Str), ("_law_state" : PySem.Str), ("_law_is_name" : PySem.Str), ("_law_pairs_good" : PySem.Str), ("_law_due" : PySem.Str), ("_law_met" : PySem.Str), ("_law_sign" : PySem.Str), ("_law_thing" : PySem.Str), ("_law_other_places" : PySem.Str), ("_law_changed" : PySem.Str)]
theorem run (w : World) : HandSHeadRun.RunEq R (PySem.W.view R.prog [28]) hk ob 3000 names w := by
  intro os
  kernel_rfl
theorem sc_InvalidState : FnScope ["self", "reason", "index"] ["self", "reason", "index"] (defScope (mth 2)) := ⟨rfl, rfl, rfl, by decide +kernel, rfl, by decide +kernel, by decide +kernel⟩
theorem facts {P : Program} {w : World} {K : PySem.W.Frag} {h : Heap} {mg : Str → Option Value} {f : Addr} (X : K.In h) (G : h.Ns mainGlobals mg) (hfa : mg ("law" : Str) = some (.ref f)) (c0 : He.SaysX fa fn [] [] ex w h K) :
    ∃ fd : FuncData, (∀ (s : Shared) (v : Value), BindsTo s fd ⟨[v], []⟩ [("script", v)]) ∧ ∀ base : Heap, K.In base → base.Ns mainGlobals mg → FnG P w K mg base C8.CX0 7 f fd ["script"] (spLaw K) := by
  have c : He.SaysD fa fn K := c0.t.d
  have T_InvalidState := ex_ok c0.more
  obtain ⟨fd_is_name, F_is_name⟩ := c.def_ 0 (d := dd "is_name" 5) rfl
  have g_is_name := He.glo_ok X G (c.fact 0 (f := .glo "is_name") rfl)
  obtain ⟨fd_is_strings, F_is_strings⟩ := c.def_ 1 (d := dd "is_strings" 6) rfl
  have g_is_strings := He.glo_ok X G (c.fact 1 (f := .glo "is_strings") rfl)
  obtain ⟨fd_is_groups, F_is_groups⟩ := c.def_ 2 (d := dd "is_groups" 7) rfl
  have g_is_groups := He.glo_ok X G (c.fact 2 (f := .glo "is_groups") rfl)
  obtain ⟨fd_has_shape, F_has_shape⟩ := c.def_ 3 (d := dd "has_shape" 8) rfl
  have g_has_shape := He.glo_ok X G (c.fact 3 (f := .glo "has_shape") rfl)
  obtain ⟨fd_check_faces, F_check_faces⟩ := c.def_ 4 (d := dd "check_faces" 12) rfl
  have g_check_faces := He.glo_ok X G (c.fact 4 (f := .glo "check_faces") rfl)
  obtain ⟨fd_check_places, F_check_places⟩ := c.def_ 5 (d := dd "_check_places" 13) rfl
  have g_check_places := He.glo_ok X G (c.fact 5 (f := .glo "_check_places") rfl)
  obtain ⟨fd_law_box, F_law_box⟩ := c.def_ 6 (d := dd "_law_box" 15) rfl
  have g_law_box := He.glo_ok X G (c.fact 6 (f := .glo "_law_box") rfl)
  obtain ⟨fd_law_take, F_law_take⟩ := c.def_ 7 (d := dd "_law_take" 16) rfl
  have g_law_take := He.glo_ok X G (c.fact 7 (f := .glo "_law_take") rfl)
  obtain ⟨fd_law_names, F_law_names⟩ := c.def_ 8 (d := dd "_law_names" 17) rfl
  have g_law_names := He.glo_ok X G (c.fact 8 (f := .glo "_law_names") rfl)
  obtain ⟨fd_law_hall, F_law_hall⟩ := c.def_ 9 (d := dd "_law_hall" 18) rfl
  have g_law_hall := He.glo_ok X G (c.fact 9 (f := .glo "_law_hall") rfl)
  obtain ⟨fd_law_state, F_law_state⟩ := c.def_ 10 (d := dd "_law_state" 19) rfl
  have g_law_state := He.glo_ok X G (c.fact 10 (f := .glo "_law_state") rfl)
  obtain ⟨fd_law_is_name, F_law_is_name⟩ := c.def_ 11 (d := dd "_law_is_name" 20) rfl
  have g_law_is_name := He.glo_ok X G (c.fact 11 (f := .glo "_law_is_name") rfl)
  obtain ⟨fd_law_pairs_good, F_law_pairs_good⟩ := c.def_ 12 (d := dd "_law_pairs_good" 21) rfl
  have g_law_pairs_good := He.glo_ok X G (c.fact 12 (f := .glo "_law_pairs_good") rfl)
  obtain ⟨fd_law_due, F_law_due⟩ := c.def_ 13 (d := dd "_law_due" 22) rfl
  have g_law_due := He.glo_ok X G (c.fact 13 (f := .glo "_law_due") rfl)
  obtain ⟨fd_law_sign, F_law_sign⟩ := c.def_ 14 (d := dd "_law_sign" 24) rfl
  have g_law_sign := He.glo_ok X G (c.fact 14 (f := .glo "_law_sign") rfl)
  obtain ⟨fd_law_thing, F_law_thing⟩ := c.def_ 15 (d := dd "_law_thing" 25) rfl
  have g_law_thing := He.glo_ok X G (c.fact 15 (f := .glo "_law_thing") rfl)
  obtain ⟨fd_law_other_places, F_law_other_places⟩ := c.def_ 16 (d := dd "_law_other_places" 26) rfl
  have g_law_other_places := He.glo_ok X G (c.fact 16 (f := .glo "_law_other_places") rfl)
  obtain ⟨fd_law_changed, F_law_changed⟩ := c.def_ 17 (d := dd "_law_changed" 27) rfl
  have g_law_changed := He.glo_ok X G (c.fact 17 (f := .glo "_law_changed") rfl)
  obtain ⟨fd_validate_state, F_validate_state⟩ := c.def_ 18 (d := dd "validate_state" 11) rfl
  have g_validate_state := He.glo_ok X G (c.fact 18 (f := .glo "validate_state") rfl)
  obtain ⟨fd_law_met, F_law_met⟩ := c.def_ 19 (d := dd "_law_met" 23) rfl
  have g_law_met := He.glo_ok X G (c.fact 19 (f := .glo "_law_met") rfl)
  obtain ⟨fd_law, F_law⟩ := c.def_ 20 (d := dd "law" 28) rfl
  have g_law := He.glo_ok X G (c.fact 20 (f := .glo "law") rfl)
  obtain ⟨fd_InvalidState, F_InvalidState⟩ := c.def_ 21 (d := di "InvalidState" "InvalidState.__init__" 2) rfl
  have m_all := He.free_ok X G (c.fact 21 (f := .free "all") rfl)
  have m_enumerate := He.free_ok X G (c.fact 22 (f := .free "enumerate") rfl)
  have m_int := He.free_ok X G (c.fact 23 (f := .free "int") rfl)
  have m_isinstance := He.free_ok X G (c.fact 24 (f := .free "isinstance") rfl)
  have m_len := He.free_ok X G (c.fact 25 (f := .free "len") rfl)
  have m_list := He.free_ok X G (c.fact 26 (f := .free "list") rfl)
  have m_max := He.free_ok X G (c.fact 27 (f := .free "max") rfl)
  have m_min := He.free_ok X G (c.fact 28 (f := .free "min") rfl)
  have m_range := He.free_ok X G (c.fact 29 (f := .free "range") rfl)
  have m_sorted := He.free_ok X G (c.fact 30 (f := .free "sorted") rfl)
  have m_str := He.free_ok X G (c.fact 31 (f := .free "str") rfl)
  have m_tuple := He.free_ok X G (c.fact 32 (f := .free "tuple") rfl)
  have k_WALKERS := He.int_ok X G (c.fact 33 (f := .int "WALKERS" 5) rfl)
  have k_LETTERS := He.int_ok X G (c.fact 34 (f := .int "_LETTERS" 6) rfl)
  have gc_InvalidState := He.glo_ok X G (c.fact 35 (f := .glo "InvalidState") rfl)
  have e := hfa.symm.trans g_law
  cases e
  have b := FunD.bindsA (ps := ["script"]) F_law fun _ _ _ _ _ _ us hl => match us, hl with | [_], _ => rfl
  refine ⟨fd_law, fun s v => b s [v] rfl, fun base _ _ => ?_⟩
  have M_InvalidState : ErrMV2 P w K mg base "InvalidState" "reason" "index" := ⟨T_InvalidState, gc_InvalidState, fd_InvalidState, ["self", "reason", "index"], ok_ev2 T_InvalidState sc_InvalidState (fun cdv A outer s H E => PSs.nox (pss_cons (ps_ost (pv 0) (pv 1)) (pss_one (ps_ost (pv 0) (pv 2))))) F_InvalidState, F_InvalidState.bindsN (ps := ["self", "reason", "index"]) fun _ _ _ _ _ _ us hl => match us, hl with | [_, _, _], _ => rfl⟩
  have c_is_name : Cal P w K mg base 1 "is_name" spIsNm := ok_is_name F_is_name g_is_name m_all m_isinstance m_len m_str k_LETTERS
  have c_is_strings : Cal P w K mg base 1 "is_strings" spStrsD := ok_is_strings F_is_strings g_is_strings m_all m_isinstance m_str m_tuple
  have c_is_groups : Cal P w K mg base 2 "is_groups" spGrpsD := ok_is_groups F_is_groups g_is_groups c_is_strings m_all m_isinstance m_len m_tuple
  have c_has_shape : Cal P w K mg base 3 "has_shape" spShpD := ok_has_shape F_has_shape g_has_shape c_is_groups c_is_strings m_isinstance m_len m_tuple
  have c_check_faces : CalX P w K mg base 3 "check_faces" (spCkF K) := ok_check_faces F_check_faces g_check_faces M_InvalidState m_enumerate
  have c_check_places : CalX P w K mg base 3 "_check_places" (spCkP K) := ok_check_places F_check_places g_check_places M_InvalidState c_is_name m_enumerate
  have c_law_box : Cal P w K mg base 1 "_law_box" (spBox K) := ok_law_box F_law_box g_law_box m_int m_len
  have c_law_take : Cal P w K mg base 1 "_law_take" spTake := ok_law_take F_law_take g_law_take 
  have c_law_names : Cal P w K mg base 2 "_law_names" spNames := ok_law_names F_law_names g_law_names c_law_take m_int m_len m_range
  have c_law_hall : Cal P w K mg base 3 "_law_hall" spHall := ok_law_hall F_law_hall g_law_hall c_law_names c_law_take m_int m_len m_max m_range m_tuple
  have c_law_state : Cal P w K mg base 3 "_law_state" spState := ok_law_state F_law_state g_law_state c_law_names c_law_take m_len m_list m_max m_sorted m_tuple
  have c_law_is_name : Cal P w K mg base 1 "_law_is_name" spIsName := ok_law_is_name F_law_is_name g_law_is_name m_len
  have c_law_pairs_good : Cal P w K mg base 1 "_law_pairs_good" spPairs := ok_law_pairs_good F_law_pairs_good g_law_pairs_good m_isinstance m_len m_str m_tuple
  have c_law_due : Cal P w K mg base 2 "_law_due" spWAt := ok_law_due F_law_due g_law_due c_law_is_name c_law_pairs_good m_enumerate m_isinstance m_len m_str m_tuple
  have c_law_sign : Cal P w K mg base 2 "_law_sign" spSgn := ok_law_sign F_law_sign g_law_sign c_law_take m_len
  have c_law_thing : Cal P w K mg base 3 "_law_thing" spThing := ok_law_thing F_law_thing g_law_thing c_law_sign c_law_take m_isinstance m_len m_str
  have c_law_other_places : Cal P w K mg base 4 "_law_other_places" spOthP := ok_law_other_places F_law_other_places g_law_other_places c_law_take c_law_thing m_isinstance m_len m_max m_tuple
  have c_law_changed : Cal P w K mg base 5 "_law_changed" spChgS := ok_law_changed F_law_changed g_law_changed c_law_other_places c_law_take c_law_thing m_isinstance m_len m_list m_max m_tuple
  have c_validate_state : CalX P w K mg base 4 "validate_state" (spValS K) := ok_validate_state F_validate_state g_validate_state M_InvalidState c_check_places c_check_faces c_has_shape m_len k_WALKERS
  have c_law_met : Cal P w K mg base 5 "_law_met" spWAt := ok_law_met F_law_met g_law_met c_validate_state m_int M_InvalidState
  exact ok_law F_law  c_law_box c_law_changed c_law_due c_law_hall c_law_met c_law_state c_law_take m_len m_max m_min m_range
end Td
open PySem PySem.W PySem.Calls PyProof.Rows
set_option maxRecDepth 100000 in
set_option maxHeartbeats 0 in
theorem PySem.Challenge.cw_turndoors_k06_validated_states_holds : PySem.Challenge.rw_turndoors_k06_validated_states.Holds := by
  w_on; o_law
  refine HandSHeadRun.head_any (r := OpenLaw.row PySem.Challenge.rw_turndoors_k06_validated_states) (q := view (OpenLaw.row PySem.Challenge.rw_turndoors_k06_validated_states).prog [28]) (H := Td.hk) (ob := Td.ob) (M := 3000) (loose := Td.names) (d := HandSHeadRun.topDef (OpenLaw.row PySem.Challenge.rw_turndoors_k06_validated_states).prog 28) (kwd := []) Td.ob_eq
    (by kernel_rfl) (fun s => by kernel_rfl) Td.run (by kernel_rfl) (by kernel_rfl) (by kernel_rfl) (by rfl) (by first | assumption | decide +kernel) (by decide +kernel) ⟨rfl, rfl, rfl, rfl, rfl, by decide +kernel⟩ ?hw ?hc
  case hw => w_witness2
  case hc =>
    refine Td.walk_ofG (l := PySem.Challenge.rw_turndoors_k06_validated_states) (n := 63) (k := 7) (x := "script") (CX := C8.CX0) rfl (by decide) (by kernel_rfl) ⟨rfl, by decide, by decide⟩ ?F (fun _ _ _ _ z => z)
    intro w mg fa h Y G hmg0
    obtain ⟨K, KX, c⟩ := Y
    have hmg : mg ("law" : PySem.Str) = some (.ref fa) := by
      have e : (HandSHeadRun.topDef (OpenLaw.row PySem.Challenge.rw_turndoors_k06_validated_states).prog 28).name = ("law" : PySem.Str) := by kernel_rfl
      rw [← e]
      exact hmg0
    obtain ⟨fd, hb, hF⟩ := Td.facts (P := (PySem.Challenge.rw_turndoors_k06_validated_states).prog) (w := w) KX G hmg c
    exact ⟨K, fd, Td.spLaw K, KX, hb, fun H a ns hl _ hS => ⟨a, ns, rfl, hS, hl, fun _ => rfl⟩, hF⟩
