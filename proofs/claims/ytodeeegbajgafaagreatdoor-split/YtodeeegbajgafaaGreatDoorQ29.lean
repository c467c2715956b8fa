/- How lists of numbers are shown. The table, where it lies below. -/
import Derived.Test.YtodeeegbajgafaaGreatDoorQ27
import Derived.Test.YtodeeegbajgafaaGreatDoorQ28
import Derived.Test.YtodeeegbajgafaaGreatDoorQ26
import Derived.Test.YtodeeegbajgafaaGreatDoorQ11
namespace Go.Proofs.YtodeeegbajgafaaGreatDoor
open Go.RowKit
open Mc

theorem shown147 (n : Int) (w : World) : Sem.run Tryz.prog (method 400 147 (.int .i64 n) "AppendShown") w = .ok (209, .int .i64 n) w := by kernel_rfl
theorem shown115 (s : ByteArray) (w : World) : Sem.run Tryz.prog (method 400 115 (.string s) "AppendShown") w = .ok (206, .string s) w := by kernel_rfl
theorem shown146 (w : World) : Sem.run Tryz.prog (method 400 146 (.agg #[]) "AppendShown") w = .ok (208, .agg #[]) w := by kernel_rfl
theorem shown124 (b : Nat) (w : World) : Sem.run Tryz.prog (method 400 124 (.pointer (some ⟨b, 0, none⟩)) "AppendShown") w = .ok (207, .pointer (some ⟨b, 0, none⟩)) w := by kernel_rfl

def numV (n : Int) : V := .atom (.num n)
theorem listV_nums (n : Int) (ns : List Int) : listV ((n :: ns).map numV) = .pair (numV n) (listV (ns.map numV)) := rfl
abbrev Tab (B : Nat) (w : World) : Prop := Lib.TabBelow Tryz.prog B w "internal/strconv.uint64pow10" .u64 Lib.pow10Tab
theorem Tab.on {B : Nat} {w w' : World} (h : Tab B w) (hb : Below B w w') : Tab B w' := fun _ h' => h _ (hb.trans h')
theorem below_keeps {B : Nat} {w w' : World} (h : Below B w w') : ∀ k, k < w.heap.size → k < B → k < B ∧ w'.heap[k]? = w.heap[k]? := fun k _ hk => ⟨hk, h.block k hk⟩

/-- A byte is appended. -/
theorem own_byte (B n : Nat) (sv : Value) (xs : List Value) (w : World) (c : UInt8) (ho : w.ownsRow B 5 1 sv n xs) (hB : B ≤ w.heap.size) : (w.alloc (.cells #[.int .u8 c.toNat] 5)).ownsRow B 5 1 sv n xs ∧ B ≤ (w.alloc (.cells #[.int .u8 c.toNat] 5)).heap.size ∧ Below B w (w.alloc (.cells #[.int .u8 c.toNat] 5)) := ⟨ho.alloc _, by simp; omega, (Below.refl B w).alloc hB _⟩

/-- Where the loop of a pair's AppendShown stands. -/
structure Showing (B mb n : Nat) (xs : List Value) (txt : List UInt8) (ns : List Int) (w : World) (k : Nat) (v1 v5 v6 v7 : Value) (wr : World) (done todo : List Int) : Prop where
  parts : ns = done ++ todo
  count : k = todo.length
  rep : RepM mb (· < B) wr v5 (.val (listV (todo.map numV)))
  own : wr.ownsRow B 5 1 v1 (n + (txt ++ Rd.numsT done).length) (xs ++ Lib.byteCells (txt ++ Rd.numsT done))
  below : Below B w wr
  more : (todo = [] ∧ v6 = .pointer none ∧ v7 = .bool false) ∨ ∃ b, v5 = .iface 124 (ptrV b) ∧ v6 = ptrV b ∧ v7 = .bool true ∧ todo ≠ []

theorem itoa_le (i : Int) (h0 : -100 < i) (h1 : i < 1000) : (Lib.itoa i).length ≤ 4 := (Rd.numW_itoa h0 h1).short

theorem tail_assert {mb : Nat} {ok : Nat → Prop} {w : World} {t : TypeId} {x : Value} {ns : List Int} (h : RepM mb ok w (.iface t x) (.val (listV (ns.map numV)))) :
    ∃ P M, (∀ w, (Instr.typeAssert (.iface t x) 60 124 true).run Tryz.prog w = .ok (.tuple #[P, .bool M]) w) ∧ ((ns = [] ∧ P = .pointer none ∧ M = false) ∨ ∃ b, Value.iface t x = .iface 124 (ptrV b) ∧ P = ptrV b ∧ M = true ∧ ns ≠ []) := by
  cases ns with
  | nil =>
    have e := h.atom_inv
    cases e
    exact ⟨_, _, fun w => ta_miss124 146 (.agg #[]) w (by decide), Or.inl ⟨rfl, rfl, rfl⟩⟩
  | cons m ns =>
    rw [listV_nums] at h
    obtain ⟨b, y, z, T, e, _⟩ := h.pair_inv
    cases e
    exact ⟨_, _, fun w => ta_hit124 (ptrV b) w, Or.inr ⟨b, rfl, rfl, rfl, by simp⟩⟩
theorem nums_len : ∀ (ns : List Int), (∀ m ∈ ns, -100 < m ∧ m < 1000) → (Rd.numsT ns).length ≤ 5 * ns.length := fun ns h => (Rd.numsT_dt ns h).2.2
theorem nums_snoc (ns : List Int) (m : Int) : Rd.numsT (ns ++ [m]) = Rd.numsT ns ++ 32 :: Lib.itoa m := by simp [Rd.numsT]

set_option maxHeartbeats 8000000 in
set_option maxRecDepth 20000 in
theorem app_pair (B mb n b : Nat) (m0 : Int) (ns : List Int) (hns : ∀ m ∈ m0 :: ns, -100 < m ∧ m < 1000) (hlen : ns.length ≤ 1000) (sv : Value) (xs : List Value) (w : World) (ho : w.ownsRow B 5 1 sv n xs) (hB : B ≤ w.heap.size) (hl : n ≤ 10000) (htab : Tab B w)
    (hx : RepM mb (· < B) w (.iface 124 (ptrV b)) (.val (listV ((m0 :: ns).map numV)))) :
    Calls Tryz.prog 207 #[ptrV b, sv] w (AppR B n xs (40 :: (Lib.itoa m0 ++ (Rd.numsT ns ++ [41]))) w) := by
  obtain ⟨i0, hi, hz0, hz1, hz2⟩ := info_parts Tryz.info5
  rw [listV_nums] at hx
  obtain ⟨bb, y, z, T, hbb, hbB, hh, h1, h2⟩ := hx.pair_inv
  cases hbb
  obtain rfl := h1.atom_inv
  obtain ⟨tz, xz, rfl⟩ := h2.iface
  obtain ⟨q0, q1, _, _⟩ := cells2 hh
  obtain ⟨oA, hBA, hbA⟩ := own_byte B n sv xs w 40 ho hB
  have HO := (show Hid _ from oA)
  have hm0 := hns m0 (List.mem_cons_self ..)
  have hil := itoa_le m0 hm0.1 hm0.2
  have sh := fun w => shown147 m0 w
  obtain ⟨a, k, c, rfl⟩ := owns_slice ho
  have HN : Hid (∀ W sv', W.ownsRow B 5 1 sv' (n + 1) (xs ++ Lib.byteCells [40]) → Below B w W → Calls Tryz.prog 209 #[.int .i64 m0, sv'] W (AppR B (n + 1) (xs ++ Lib.byteCells [40]) (Lib.itoa m0) W)) := fun W sv' h hb => app_num B (n + 1) m0 (by omega) (by omega) sv' _ W h (Nat.le_trans hB hb.size) (by omega) (htab.on hb)
  have HG := (show Hid _ from fun (w' : World) hg => hbA.trans (own_grown (w' := w') oA hBA hg))
  have HK : Hid (∀ W, Below B w W → W.cell? ⟨b, 0, none⟩ = some (aV (.num m0)) ∧ W.cell? ⟨b, 1, none⟩ = some (.iface tz xz) ∧ RepM mb (· < B) W (.iface tz xz) (.val (listV (ns.map numV)))) := fun W hb => by
    have hat : W.heap[b]? = some (.cells #[aV (.num m0), .iface tz xz] T (0, 0)) := (hb.block b hbB).trans hh
    exact ⟨cell_of_at hat 0, cell_of_at hat 1, h2.mono (below_keeps hb)⟩
  obtain ⟨P, M, hta, hPM⟩ := tail_assert h2
  have HPM := (show Hid _ from hPM)
  clear ho oA hx hh h1 h2 hbA hPM
  unfold ptrV
  simp only [aV] at HK q0
  go_enter Tryz.func207, Tryz.ntmps207
  go_wp2_with (at_builtin; refine wpList_append_own_at _ rfl _ _ 58 rfl B 5 i0 (.int .u8 0) 1 1 Tryz.underlying58 hi hz0 hz1 hz2 rfl (by decide) (.slice a k c) n xs rfl ?h1 ⟨w.heap.size, 0, none⟩ 1 1 [.int .u8 40] rfl rfl ?h2 ?h3 ?h4 ?h5 ?h6 ?_)
  case h1 => exact HO.out
  case h2 => exact cell_one_new _ _ _
  case h3 => intro u hu; simp at hu; subst hu; rfl
  case h4 => unfold maxLen; omega
  case h5 => omega
  case h6 => exact hBA
  intro v1 w1 ho1 hg1 _ _
  have hb1 := HG.out _ hg1
  have HO1 : Hid (w1.ownsRow B 5 1 v1 (n + 1) (xs ++ Lib.byteCells [40])) := ho1
  obtain ⟨a1, k1, c1, rfl⟩ := owns_slice ho1
  obtain ⟨e0, e1, _⟩ := HK.out _ hb1
  clear ho1 hg1
  go_wp2_with (first | (go_at_call 209; refine (HN.out _ _ HO1.out hb1).mono ?_; rintro e2 w2 ⟨v2, rfl, ho2, hb2⟩; have HO2 := (show Hid _ from ho2); obtain ⟨a2, k2, c2, rfl⟩ := owns_slice ho2; clear ho2; have hb02 := hb1.trans hb2; obtain ⟨f0, f1, f2⟩ := HK.out _ hb02; have HF2 := (show Hid _ from f2); clear f2))
  have HO2' : Hid (w2.ownsRow B 5 1 (.slice a2 k2 c2) (n + (40 :: Lib.itoa m0 ++ Rd.numsT []).length) (xs ++ Lib.byteCells (40 :: Lib.itoa m0 ++ Rd.numsT []))) := by
    have := HO2.out
    rw [List.append_assoc, ← Lib.byteCells_append, Nat.add_assoc] at this
    show w2.ownsRow B 5 1 (.slice a2 k2 c2) (n + (40 :: Lib.itoa m0 ++ Rd.numsT []).length) (xs ++ Lib.byteCells (40 :: Lib.itoa m0 ++ Rd.numsT []))
    rw [show Rd.numsT [] = [] from rfl, List.append_nil, List.length_cons, Nat.add_comm (Lib.itoa m0).length 1]
    exact this
  go_loopg [1, 5, 6, 7] ns.length (fun k v1 v5 v6 v7 wr => ∃ done todo, Showing B mb n xs (40 :: Lib.itoa m0) ns w k v1 v5 v6 v7 wr done todo)
  case atStart =>
    refine ⟨[], ns, rfl, rfl, HF2.out, HO2'.out, hb02, ?_⟩
    rcases HPM.out with ⟨h1, h2, h3⟩ | ⟨b, h1, h2, h3, h4⟩
    · exact Or.inl ⟨h1, h2, by rw [h3]⟩
    · exact Or.inr ⟨b, h1, h2, by rw [h3], h4⟩
  case round =>
    obtain ⟨done, todo, hS⟩ := hrel
    have HS := (show Hid _ from hS)
    clear HF2 HO2 HO2' HPM HN HK HG HO HO1
    rcases hS.more with ⟨rfl, rfl, rfl⟩ | ⟨b, rfl, rfl, rfl, hne⟩
    · obtain ⟨hp, hk, hrep, hown, hbel, _⟩ := hS
      rw [List.append_nil] at hp
      subst hp
      obtain rfl : u5 = aV .empty := hrep.atom_inv
      have hit := fun w => ta_hit146 (.agg #[]) w
      have hL := nums_len ns (fun m hm => hns m (List.mem_cons_of_mem _ hm))
      generalize hX : 40 :: Lib.itoa m0 ++ Rd.numsT ns = X at hown
      have hXL : X.length ≤ 5 + 5 * ns.length := by rw [← hX]; simp; omega
      have hBr : B ≤ wr.heap.size := Nat.le_trans hB hbel.size
      have hA0 : Below B wr (wr.alloc (.cells #[] 146)) := (Below.refl B wr).alloc hBr _
      obtain ⟨oA, hBA2, hbA⟩ := own_byte B (n + X.length) u1 (xs ++ Lib.byteCells X) (wr.alloc (.cells #[] 146)) 41 (hown.alloc _) (by simp; omega)
      have HG2 : Hid (∀ w' v', ((wr.alloc (.cells #[] 146)).alloc (.cells #[.int .u8 41] 5)).grownBy w' u1.ownBlock → w'.ownsRow B 5 1 v' (n + X.length + 1) (xs ++ Lib.byteCells X ++ [.int .u8 41]) → AppR B n xs (40 :: (Lib.itoa m0 ++ (Rd.numsT ns ++ [41]))) w (.returned v') w') := fun w' v' hg ho' => by
        refine ⟨v', rfl, ?_, hbel.trans (hA0.trans (hbA.trans (own_grown (w' := w') oA hBA2 hg)))⟩
        have e1 : 40 :: (Lib.itoa m0 ++ (Rd.numsT ns ++ [41])) = X ++ [41] := by rw [← hX]; simp
        rw [e1, Lib.byteCells_append, List.length_append, ← List.append_assoc, ← Nat.add_assoc]
        exact ho'
      have HOA := (show Hid _ from oA)
      obtain ⟨a3, k3, c3, rfl⟩ := owns_slice hown
      clear hrep hown hX HS oA hbA hA0
      simp only [aV]
      go_wp2_with (at_builtin; refine wpList_append_own_at _ rfl _ _ 58 rfl B 5 i0 (.int .u8 0) 1 1 Tryz.underlying58 hi hz0 hz1 hz2 rfl (by decide) (.slice a3 k3 c3) (n + X.length) (xs ++ Lib.byteCells X) rfl ?ia1 ⟨wr.heap.size + 1, 0, none⟩ 1 1 [.int .u8 41] rfl rfl ?ia2 ?ia3 ?ia4 ?ia5 ?ia6 ?_)
      case ia1 => exact HOA.out
      case ia3 => rfl
      case ia4 => unfold maxLen; omega
      case ia5 => omega
      case ia6 => first | omega | (simp; omega)
      intro v9 w9 ho9 hg9 _ _
      rw [← List.append_assoc] at ho9
      have HF := (show Hid _ from HG2.out _ _ hg9 ho9)
      obtain ⟨a9, k9, c9, rfl⟩ := owns_slice ho9
      clear ho9 hg9
      go_wp2
      go_ret
      exact HF.out
    · obtain ⟨m, todo, rfl⟩ : ∃ m t, todo = m :: t := by
        cases todo with
        | nil => exact absurd rfl hne
        | cons m t => exact ⟨m, t, rfl⟩
      obtain ⟨hp, hk, hrep, hown, hbel, _⟩ := hS
      rw [listV_nums] at hrep
      obtain ⟨bb, y, z, T2, e, hbB2, hh, h1, h2⟩ := hrep.pair_inv
      cases e
      obtain rfl := h1.atom_inv
      obtain ⟨tz2, xz2, rfl⟩ := h2.iface
      have hm : m ∈ ns := by rw [hp]; simp
      have hmb := hns m (List.mem_cons_of_mem _ hm)
      have hdl : (Rd.numsT done).length ≤ 5 * done.length := nums_len done (fun x hx => hns x (List.mem_cons_of_mem _ (by rw [hp]; simp [hx])))
      have hdn : done.length ≤ ns.length := by rw [hp]; simp
      generalize hX : 40 :: Lib.itoa m0 ++ Rd.numsT done = X at hown
      have hXL : X.length ≤ 5 + 5 * done.length := by rw [← hX]; simp; omega
      have hml := itoa_le m hmb.1 hmb.2
      have hBr : B ≤ wr.heap.size := Nat.le_trans hB hbel.size
      obtain ⟨oA, hBA2, hbA⟩ := own_byte B (n + X.length) u1 (xs ++ Lib.byteCells X) wr 32 hown hBr
      have HOA := (show Hid _ from oA)
      have HG2 := (show Hid _ from fun (w' : World) hg => hbA.trans (own_grown (w' := w') oA hBA2 hg))
      have HK2 : Hid (∀ W, Below B wr W → W.cell? ⟨b, 0, none⟩ = some (aV (.num m)) ∧ W.cell? ⟨b, 1, none⟩ = some (.iface tz2 xz2) ∧ RepM mb (· < B) W (.iface tz2 xz2) (.val (listV (todo.map numV)))) := fun W hb => by
        have hat : W.heap[b]? = some (.cells #[aV (.num m), .iface tz2 xz2] T2 (0, 0)) := (hb.block b hbB2).trans hh
        exact ⟨cell_of_at hat 0, cell_of_at hat 1, h2.mono (below_keeps hb)⟩
      have HN2 : Hid (∀ W sv', W.ownsRow B 5 1 sv' (n + X.length + 1) (xs ++ Lib.byteCells X ++ [.int .u8 32]) → Below B wr W → Calls Tryz.prog 209 #[.int .i64 m, sv'] W (AppR B (n + X.length + 1) (xs ++ Lib.byteCells X ++ [.int .u8 32]) (Lib.itoa m) W)) := fun W sv' h hb => app_num B (n + X.length + 1) m (by omega) (by omega) sv' _ W h (Nat.le_trans hBr hb.size) (by omega) ((htab.on hbel).on hb)
      obtain ⟨P2, M2, hta2, hPM2⟩ := tail_assert h2
      have HPM2 := (show Hid _ from hPM2)
      have HR : Hid (∀ W v, Below B wr W → W.ownsRow B 5 1 v (n + X.length + 1 + (Lib.itoa m).length) (xs ++ Lib.byteCells X ++ [.int .u8 32] ++ Lib.byteCells (Lib.itoa m)) → ∃ d t, Showing B mb n xs (40 :: Lib.itoa m0) ns w todo.length v (.iface tz2 xz2) P2 (.bool M2) W d t) := fun W v hb ho' => by
        refine ⟨done ++ [m], todo, by rw [hp]; simp, rfl, (HK2.out W hb).2.2, ?_, hbel.trans hb, ?_⟩
        · have e1 : 40 :: Lib.itoa m0 ++ Rd.numsT (done ++ [m]) = X ++ ([32] ++ Lib.itoa m) := by rw [nums_snoc, ← hX]; simp
          rw [e1, Lib.byteCells_append, Lib.byteCells_append, List.length_append, List.length_append, ← List.append_assoc, ← List.append_assoc, ← Nat.add_assoc, ← Nat.add_assoc]
          exact ho'
        · rcases HPM2.out with ⟨e1, e2, e3⟩ | ⟨b, e1, e2, e3, e4⟩
          · exact Or.inl ⟨e1, e2, by rw [e3]⟩
          · exact Or.inr ⟨b, e1, e2, by rw [e3], e4⟩
      have sh2 := fun w => shown147 m w
      obtain ⟨a3, k3, c3, rfl⟩ := owns_slice hown
      have hkk : todo.length < gk := by rw [hk]; simp
      clear hrep hown hX HS oA hbA hPM2 h1 h2 hh hne hp hk
      simp only [aV] at HK2
      unfold ptrV
      go_wp2_with (at_builtin; refine wpList_append_own_at _ rfl _ _ 58 rfl B 5 i0 (.int .u8 0) 1 1 Tryz.underlying58 hi hz0 hz1 hz2 rfl (by decide) (.slice a3 k3 c3) (n + X.length) (xs ++ Lib.byteCells X) rfl ?ja1 ⟨wr.heap.size, 0, none⟩ 1 1 [.int .u8 32] rfl rfl ?ja2 ?ja3 ?ja4 ?ja5 ?ja6 ?_)
      case ja1 => exact HOA.out
      case ja3 => rfl
      case ja4 => unfold maxLen; omega
      case ja5 => omega
      case ja6 => first | omega | (simp; omega)
      intro v9 w9 ho9 hg9 _ _
      rw [← List.append_assoc] at ho9
      have hb9 := HG2.out _ hg9
      have HO9 := (show Hid _ from ho9)
      obtain ⟨a9, k9, c9, rfl⟩ := owns_slice ho9
      obtain ⟨d0, d1, _⟩ := HK2.out _ hb9
      clear ho9 hg9
      go_wp2_with (first | (go_at_call 209; refine (HN2.out _ _ HO9.out hb9).mono ?_; rintro e8 w8 ⟨v8, rfl, ho8, hb8⟩; have hb98 := hb9.trans hb8; have HR8 := (show Hid _ from HR.out _ _ hb98 ho8); obtain ⟨a8, k8, c8, rfl⟩ := owns_slice ho8; clear ho8; obtain ⟨f0', f1', _⟩ := HK2.out _ hb98))
      go_roundg todo.length
      case measure => exact hkk
      case rel => exact HR8.out
end Go.Proofs.YtodeeegbajgafaaGreatDoor

namespace Go.Proofs.YtodeeegbajgafaaGreatDoor
open Go.RowKit
theorem TabOk.tab {w : World} (h : TabOk w) {B : Nat} (hB : tabBlock < B) : Tab B w := fun _ hb => h.on (hb.block _ hB)
end Go.Proofs.YtodeeegbajgafaaGreatDoor
