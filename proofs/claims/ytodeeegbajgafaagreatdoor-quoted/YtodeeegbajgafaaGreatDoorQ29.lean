/- How lists of numbers are shown. The table, where it lies below. How any datum is shown: the text, and atoms. Values of data in memory; a frame that reaches above the text that is built. The value of any datum, as it lies in memory. How atoms are shown, with the frame above the text. How any datum is shown: pairs. How any datum is shown, with the frame above the text. -/
import Derived.Test.YtodeeegbajgafaaGreatDoorQ27
import Derived.Test.YtodeeegbajgafaaGreatDoorQ28
import Derived.Test.YtodeeegbajgafaaGreatDoorQ26
import Derived.Test.YtodeeegbajgafaaGreatDoorQ11
namespace Go.Proofs.YtodeeegbajgafaaGreatDoor
open Go.RowKit
open Mc

theorem shown147 (n : Int) (w : World) : Sem.run Tryz.prog (method 400 147 (.int .i64 n) "AppendShown") w = .ok (209, .int .i64 n) w := by kernel_rfl
theorem shown115 (s : ByteArray) (w : World) : Sem.run Tryz.prog (method 400 115 (.string s) "AppendShown") w = .ok (206, .string s) w := by kernel_rfl
theorem shown146 (w : World) : Sem.run Tryz.prog (method 400 146 (.agg #[]) "AppendShown") w = .ok (208, .agg #[]) w := by kernel_rfl
theorem shown124 (b : Nat) (w : World) : Sem.run Tryz.prog (method 400 124 (.pointer (some ⟨b, 0, none⟩)) "AppendShown") w = .ok (207, .pointer (some ⟨b, 0, none⟩)) w := by kernel_rfl

def numV (n : Int) : V := .atom (.num n)
theorem listV_nums (n : Int) (ns : List Int) : listV ((n :: ns).map numV) = .pair (numV n) (listV (ns.map numV)) := rfl
abbrev Tab (B : Nat) (w : World) : Prop := Lib.TabBelow Tryz.prog B w "internal/strconv.uint64pow10" .u64 Lib.pow10Tab
theorem Tab.on {B : Nat} {w w' : World} (h : Tab B w) (hb : Below B w w') : Tab B w' := fun _ h' => h _ (hb.trans h')
theorem below_keeps {B : Nat} {w w' : World} (h : Below B w w') : ∀ k, k < w.heap.size → k < B → k < B ∧ w'.heap[k]? = w.heap[k]? := fun k _ hk => ⟨hk, h.block k hk⟩

/-- A byte is appended. -/
theorem own_byte (B n : Nat) (sv : Value) (xs : List Value) (w : World) (c : UInt8) (ho : w.ownsRow B 5 1 sv n xs) (hB : B ≤ w.heap.size) : (w.alloc (.cells #[.int .u8 c.toNat] 5)).ownsRow B 5 1 sv n xs ∧ B ≤ (w.alloc (.cells #[.int .u8 c.toNat] 5)).heap.size ∧ Below B w (w.alloc (.cells #[.int .u8 c.toNat] 5)) := ⟨ho.alloc _, by simp; omega, (Below.refl B w).alloc hB _⟩

/-- Where the loop of a pair's AppendShown stands. -/
structure Showing (B mb n : Nat) (xs : List Value) (txt : List UInt8) (ns : List Int) (w : World) (k : Nat) (v1 v5 v6 v7 : Value) (wr : World) (done todo : List Int) : Prop where
  parts : ns = done ++ todo
  count : k = todo.length
  rep : RepM mb (· < B) wr v5 (.val (listV (todo.map numV)))
  own : wr.ownsRow B 5 1 v1 (n + (txt ++ Rd.numsT done).length) (xs ++ Lib.byteCells (txt ++ Rd.numsT done))
  below : Below B w wr
  more : (todo = [] ∧ v6 = .pointer none ∧ v7 = .bool false) ∨ ∃ b, v5 = .iface 124 (ptrV b) ∧ v6 = ptrV b ∧ v7 = .bool true ∧ todo ≠ []

theorem itoa_le (i : Int) (h0 : -100 < i) (h1 : i < 1000) : (Lib.itoa i).length ≤ 4 := (Rd.numW_itoa h0 h1).short

theorem tail_assert {mb : Nat} {ok : Nat → Prop} {w : World} {t : TypeId} {x : Value} {ns : List Int} (h : RepM mb ok w (.iface t x) (.val (listV (ns.map numV)))) :
    ∃ P M, (∀ w, (Instr.typeAssert (.iface t x) 60 124 true).run Tryz.prog w = .ok (.tuple #[P, .bool M]) w) ∧ ((ns = [] ∧ P = .pointer none ∧ M = false) ∨ ∃ b, Value.iface t x = .iface 124 (ptrV b) ∧ P = ptrV b ∧ M = true ∧ ns ≠ []) := by
  cases ns with
  | nil =>
    have e := h.atom_inv
    cases e
    exact ⟨_, _, fun w => ta_miss124 146 (.agg #[]) w (by decide), Or.inl ⟨rfl, rfl, rfl⟩⟩
  | cons m ns =>
    rw [listV_nums] at h
    obtain ⟨b, y, z, T, e, _⟩ := h.pair_inv
    cases e
    exact ⟨_, _, fun w => ta_hit124 (ptrV b) w, Or.inr ⟨b, rfl, rfl, rfl, by simp⟩⟩
theorem nums_len : ∀ (ns : List Int), (∀ m ∈ ns, -100 < m ∧ m < 1000) → (Rd.numsT ns).length ≤ 5 * ns.length := fun ns h => (Rd.numsT_dt ns h).2.2
theorem nums_snoc (ns : List Int) (m : Int) : Rd.numsT (ns ++ [m]) = Rd.numsT ns ++ 32 :: Lib.itoa m := by simp [Rd.numsT]

set_option maxHeartbeats 8000000 in
set_option maxRecDepth 20000 in
theorem app_pair (B mb n b : Nat) (m0 : Int) (ns : List Int) (hns : ∀ m ∈ m0 :: ns, -100 < m ∧ m < 1000) (hlen : ns.length ≤ 1000) (sv : Value) (xs : List Value) (w : World) (ho : w.ownsRow B 5 1 sv n xs) (hB : B ≤ w.heap.size) (hl : n ≤ 10000) (htab : Tab B w)
    (hx : RepM mb (· < B) w (.iface 124 (ptrV b)) (.val (listV ((m0 :: ns).map numV)))) :
    Calls Tryz.prog 207 #[ptrV b, sv] w (AppR B n xs (40 :: (Lib.itoa m0 ++ (Rd.numsT ns ++ [41]))) w) := by
  obtain ⟨i0, hi, hz0, hz1, hz2⟩ := info_parts Tryz.info5
  rw [listV_nums] at hx
  obtain ⟨bb, y, z, T, hbb, hbB, hh, h1, h2⟩ := hx.pair_inv
  cases hbb
  obtain rfl := h1.atom_inv
  obtain ⟨tz, xz, rfl⟩ := h2.iface
  obtain ⟨q0, q1, _, _⟩ := cells2 hh
  obtain ⟨oA, hBA, hbA⟩ := own_byte B n sv xs w 40 ho hB
  have HO := (show Hid _ from oA)
  have hm0 := hns m0 (List.mem_cons_self ..)
  have hil := itoa_le m0 hm0.1 hm0.2
  have sh := fun w => shown147 m0 w
  obtain ⟨a, k, c, rfl⟩ := owns_slice ho
  have HN : Hid (∀ W sv', W.ownsRow B 5 1 sv' (n + 1) (xs ++ Lib.byteCells [40]) → Below B w W → Calls Tryz.prog 209 #[.int .i64 m0, sv'] W (AppR B (n + 1) (xs ++ Lib.byteCells [40]) (Lib.itoa m0) W)) := fun W sv' h hb => app_num B (n + 1) m0 (by omega) (by omega) sv' _ W h (Nat.le_trans hB hb.size) (by omega) (htab.on hb)
  have HG := (show Hid _ from fun (w' : World) hg => hbA.trans (own_grown (w' := w') oA hBA hg))
  have HK : Hid (∀ W, Below B w W → W.cell? ⟨b, 0, none⟩ = some (aV (.num m0)) ∧ W.cell? ⟨b, 1, none⟩ = some (.iface tz xz) ∧ RepM mb (· < B) W (.iface tz xz) (.val (listV (ns.map numV)))) := fun W hb => by
    have hat : W.heap[b]? = some (.cells #[aV (.num m0), .iface tz xz] T (0, 0)) := (hb.block b hbB).trans hh
    exact ⟨cell_of_at hat 0, cell_of_at hat 1, h2.mono (below_keeps hb)⟩
  obtain ⟨P, M, hta, hPM⟩ := tail_assert h2
  have HPM := (show Hid _ from hPM)
  clear ho oA hx hh h1 h2 hbA hPM
  unfold ptrV
  simp only [aV] at HK q0
  go_enter Tryz.func207, Tryz.ntmps207
  go_wp2_with (at_builtin; refine wpList_append_own_at _ rfl _ _ 58 rfl B 5 i0 (.int .u8 0) 1 1 Tryz.underlying58 hi hz0 hz1 hz2 rfl (by decide) (.slice a k c) n xs rfl ?h1 ⟨w.heap.size, 0, none⟩ 1 1 [.int .u8 40] rfl rfl ?h2 ?h3 ?h4 ?h5 ?h6 ?_)
  case h1 => exact HO.out
  case h2 => exact cell_one_new _ _ _
  case h3 => intro u hu; simp at hu; subst hu; rfl
  case h4 => unfold maxLen; omega
  case h5 => omega
  case h6 => exact hBA
  intro v1 w1 ho1 hg1 _ _
  have hb1 := HG.out _ hg1
  have HO1 : Hid (w1.ownsRow B 5 1 v1 (n + 1) (xs ++ Lib.byteCells [40])) := ho1
  obtain ⟨a1, k1, c1, rfl⟩ := owns_slice ho1
  obtain ⟨e0, e1, _⟩ := HK.out _ hb1
  clear ho1 hg1
  go_wp2_with (first | (go_at_call 209; refine (HN.out _ _ HO1.out hb1).mono ?_; rintro e2 w2 ⟨v2, rfl, ho2, hb2⟩; have HO2 := (show Hid _ from ho2); obtain ⟨a2, k2, c2, rfl⟩ := owns_slice ho2; clear ho2; have hb02 := hb1.trans hb2; obtain ⟨f0, f1, f2⟩ := HK.out _ hb02; have HF2 := (show Hid _ from f2); clear f2))
  have HO2' : Hid (w2.ownsRow B 5 1 (.slice a2 k2 c2) (n + (40 :: Lib.itoa m0 ++ Rd.numsT []).length) (xs ++ Lib.byteCells (40 :: Lib.itoa m0 ++ Rd.numsT []))) := by
    have := HO2.out
    rw [List.append_assoc, ← Lib.byteCells_append, Nat.add_assoc] at this
    show w2.ownsRow B 5 1 (.slice a2 k2 c2) (n + (40 :: Lib.itoa m0 ++ Rd.numsT []).length) (xs ++ Lib.byteCells (40 :: Lib.itoa m0 ++ Rd.numsT []))
    rw [show Rd.numsT [] = [] from rfl, List.append_nil, List.length_cons, Nat.add_comm (Lib.itoa m0).length 1]
    exact this
  go_loopg [1, 5, 6, 7] ns.length (fun k v1 v5 v6 v7 wr => ∃ done todo, Showing B mb n xs (40 :: Lib.itoa m0) ns w k v1 v5 v6 v7 wr done todo)
  case atStart =>
    refine ⟨[], ns, rfl, rfl, HF2.out, HO2'.out, hb02, ?_⟩
    rcases HPM.out with ⟨h1, h2, h3⟩ | ⟨b, h1, h2, h3, h4⟩
    · exact Or.inl ⟨h1, h2, by rw [h3]⟩
    · exact Or.inr ⟨b, h1, h2, by rw [h3], h4⟩
  case round =>
    obtain ⟨done, todo, hS⟩ := hrel
    have HS := (show Hid _ from hS)
    clear HF2 HO2 HO2' HPM HN HK HG HO HO1
    rcases hS.more with ⟨rfl, rfl, rfl⟩ | ⟨b, rfl, rfl, rfl, hne⟩
    · obtain ⟨hp, hk, hrep, hown, hbel, _⟩ := hS
      rw [List.append_nil] at hp
      subst hp
      obtain rfl : u5 = aV .empty := hrep.atom_inv
      have hit := fun w => ta_hit146 (.agg #[]) w
      have hL := nums_len ns (fun m hm => hns m (List.mem_cons_of_mem _ hm))
      generalize hX : 40 :: Lib.itoa m0 ++ Rd.numsT ns = X at hown
      have hXL : X.length ≤ 5 + 5 * ns.length := by rw [← hX]; simp; omega
      have hBr : B ≤ wr.heap.size := Nat.le_trans hB hbel.size
      have hA0 : Below B wr (wr.alloc (.cells #[] 146)) := (Below.refl B wr).alloc hBr _
      obtain ⟨oA, hBA2, hbA⟩ := own_byte B (n + X.length) u1 (xs ++ Lib.byteCells X) (wr.alloc (.cells #[] 146)) 41 (hown.alloc _) (by simp; omega)
      have HG2 : Hid (∀ w' v', ((wr.alloc (.cells #[] 146)).alloc (.cells #[.int .u8 41] 5)).grownBy w' u1.ownBlock → w'.ownsRow B 5 1 v' (n + X.length + 1) (xs ++ Lib.byteCells X ++ [.int .u8 41]) → AppR B n xs (40 :: (Lib.itoa m0 ++ (Rd.numsT ns ++ [41]))) w (.returned v') w') := fun w' v' hg ho' => by
        refine ⟨v', rfl, ?_, hbel.trans (hA0.trans (hbA.trans (own_grown (w' := w') oA hBA2 hg)))⟩
        have e1 : 40 :: (Lib.itoa m0 ++ (Rd.numsT ns ++ [41])) = X ++ [41] := by rw [← hX]; simp
        rw [e1, Lib.byteCells_append, List.length_append, ← List.append_assoc, ← Nat.add_assoc]
        exact ho'
      have HOA := (show Hid _ from oA)
      obtain ⟨a3, k3, c3, rfl⟩ := owns_slice hown
      clear hrep hown hX HS oA hbA hA0
      simp only [aV]
      go_wp2_with (at_builtin; refine wpList_append_own_at _ rfl _ _ 58 rfl B 5 i0 (.int .u8 0) 1 1 Tryz.underlying58 hi hz0 hz1 hz2 rfl (by decide) (.slice a3 k3 c3) (n + X.length) (xs ++ Lib.byteCells X) rfl ?ia1 ⟨wr.heap.size + 1, 0, none⟩ 1 1 [.int .u8 41] rfl rfl ?ia2 ?ia3 ?ia4 ?ia5 ?ia6 ?_)
      case ia1 => exact HOA.out
      case ia3 => rfl
      case ia4 => unfold maxLen; omega
      case ia5 => omega
      case ia6 => first | omega | (simp; omega)
      intro v9 w9 ho9 hg9 _ _
      rw [← List.append_assoc] at ho9
      have HF := (show Hid _ from HG2.out _ _ hg9 ho9)
      obtain ⟨a9, k9, c9, rfl⟩ := owns_slice ho9
      clear ho9 hg9
      go_wp2
      go_ret
      exact HF.out
    · obtain ⟨m, todo, rfl⟩ : ∃ m t, todo = m :: t := by
        cases todo with
        | nil => exact absurd rfl hne
        | cons m t => exact ⟨m, t, rfl⟩
      obtain ⟨hp, hk, hrep, hown, hbel, _⟩ := hS
      rw [listV_nums] at hrep
      obtain ⟨bb, y, z, T2, e, hbB2, hh, h1, h2⟩ := hrep.pair_inv
      cases e
      obtain rfl := h1.atom_inv
      obtain ⟨tz2, xz2, rfl⟩ := h2.iface
      have hm : m ∈ ns := by rw [hp]; simp
      have hmb := hns m (List.mem_cons_of_mem _ hm)
      have hdl : (Rd.numsT done).length ≤ 5 * done.length := nums_len done (fun x hx => hns x (List.mem_cons_of_mem _ (by rw [hp]; simp [hx])))
      have hdn : done.length ≤ ns.length := by rw [hp]; simp
      generalize hX : 40 :: Lib.itoa m0 ++ Rd.numsT done = X at hown
      have hXL : X.length ≤ 5 + 5 * done.length := by rw [← hX]; simp; omega
      have hml := itoa_le m hmb.1 hmb.2
      have hBr : B ≤ wr.heap.size := Nat.le_trans hB hbel.size
      obtain ⟨oA, hBA2, hbA⟩ := own_byte B (n + X.length) u1 (xs ++ Lib.byteCells X) wr 32 hown hBr
      have HOA := (show Hid _ from oA)
      have HG2 := (show Hid _ from fun (w' : World) hg => hbA.trans (own_grown (w' := w') oA hBA2 hg))
      have HK2 : Hid (∀ W, Below B wr W → W.cell? ⟨b, 0, none⟩ = some (aV (.num m)) ∧ W.cell? ⟨b, 1, none⟩ = some (.iface tz2 xz2) ∧ RepM mb (· < B) W (.iface tz2 xz2) (.val (listV (todo.map numV)))) := fun W hb => by
        have hat : W.heap[b]? = some (.cells #[aV (.num m), .iface tz2 xz2] T2 (0, 0)) := (hb.block b hbB2).trans hh
        exact ⟨cell_of_at hat 0, cell_of_at hat 1, h2.mono (below_keeps hb)⟩
      have HN2 : Hid (∀ W sv', W.ownsRow B 5 1 sv' (n + X.length + 1) (xs ++ Lib.byteCells X ++ [.int .u8 32]) → Below B wr W → Calls Tryz.prog 209 #[.int .i64 m, sv'] W (AppR B (n + X.length + 1) (xs ++ Lib.byteCells X ++ [.int .u8 32]) (Lib.itoa m) W)) := fun W sv' h hb => app_num B (n + X.length + 1) m (by omega) (by omega) sv' _ W h (Nat.le_trans hBr hb.size) (by omega) ((htab.on hbel).on hb)
      obtain ⟨P2, M2, hta2, hPM2⟩ := tail_assert h2
      have HPM2 := (show Hid _ from hPM2)
      have HR : Hid (∀ W v, Below B wr W → W.ownsRow B 5 1 v (n + X.length + 1 + (Lib.itoa m).length) (xs ++ Lib.byteCells X ++ [.int .u8 32] ++ Lib.byteCells (Lib.itoa m)) → ∃ d t, Showing B mb n xs (40 :: Lib.itoa m0) ns w todo.length v (.iface tz2 xz2) P2 (.bool M2) W d t) := fun W v hb ho' => by
        refine ⟨done ++ [m], todo, by rw [hp]; simp, rfl, (HK2.out W hb).2.2, ?_, hbel.trans hb, ?_⟩
        · have e1 : 40 :: Lib.itoa m0 ++ Rd.numsT (done ++ [m]) = X ++ ([32] ++ Lib.itoa m) := by rw [nums_snoc, ← hX]; simp
          rw [e1, Lib.byteCells_append, Lib.byteCells_append, List.length_append, List.length_append, ← List.append_assoc, ← List.append_assoc, ← Nat.add_assoc, ← Nat.add_assoc]
          exact ho'
        · rcases HPM2.out with ⟨e1, e2, e3⟩ | ⟨b, e1, e2, e3, e4⟩
          · exact Or.inl ⟨e1, e2, by rw [e3]⟩
          · exact Or.inr ⟨b, e1, e2, by rw [e3], e4⟩
      have sh2 := fun w => shown147 m w
      obtain ⟨a3, k3, c3, rfl⟩ := owns_slice hown
      have hkk : todo.length < gk := by rw [hk]; simp
      clear hrep hown hX HS oA hbA hPM2 h1 h2 hh hne hp hk
      simp only [aV] at HK2
      unfold ptrV
      go_wp2_with (at_builtin; refine wpList_append_own_at _ rfl _ _ 58 rfl B 5 i0 (.int .u8 0) 1 1 Tryz.underlying58 hi hz0 hz1 hz2 rfl (by decide) (.slice a3 k3 c3) (n + X.length) (xs ++ Lib.byteCells X) rfl ?ja1 ⟨wr.heap.size, 0, none⟩ 1 1 [.int .u8 32] rfl rfl ?ja2 ?ja3 ?ja4 ?ja5 ?ja6 ?_)
      case ja1 => exact HOA.out
      case ja3 => rfl
      case ja4 => unfold maxLen; omega
      case ja5 => omega
      case ja6 => first | omega | (simp; omega)
      intro v9 w9 ho9 hg9 _ _
      rw [← List.append_assoc] at ho9
      have hb9 := HG2.out _ hg9
      have HO9 := (show Hid _ from ho9)
      obtain ⟨a9, k9, c9, rfl⟩ := owns_slice ho9
      obtain ⟨d0, d1, _⟩ := HK2.out _ hb9
      clear ho9 hg9
      go_wp2_with (first | (go_at_call 209; refine (HN2.out _ _ HO9.out hb9).mono ?_; rintro e8 w8 ⟨v8, rfl, ho8, hb8⟩; have hb98 := hb9.trans hb8; have HR8 := (show Hid _ from HR.out _ _ hb98 ho8); obtain ⟨a8, k8, c8, rfl⟩ := owns_slice ho8; clear ho8; obtain ⟨f0', f1', _⟩ := HK2.out _ hb98))
      go_roundg todo.length
      case measure => exact hkk
      case rel => exact HR8.out
end Go.Proofs.YtodeeegbajgafaaGreatDoor

namespace Go.Proofs.YtodeeegbajgafaaGreatDoor
open Go.RowKit
theorem TabOk.tab {w : World} (h : TabOk w) {B : Nat} (hB : tabBlock < B) : Tab B w := fun _ hb => h.on (hb.block _ hB)
end Go.Proofs.YtodeeegbajgafaaGreatDoor

namespace Go.Proofs.YtodeeegbajgafaaGreatDoor
open Go.RowKit
open Mc

def shA : Rd.A → List UInt8
  | .num n => Lib.itoa n
  | .truth true => [35, 116]
  | .truth false => [35, 102]
  | .sym l => l
  | .empty => [40, 41]
/-- What stands behind the last part. -/
def shE : Rd.A → List UInt8
  | .empty => [41]
  | a => [32, 46, 32] ++ (shA a ++ [41])
mutual
def shD : Rd.D → List UInt8
  | .mk _ ds en => shP ds en
def shP : List Rd.D → Rd.A → List UInt8
  | [], en => shA en
  | d :: ds, en => 40 :: (shD d ++ (shL ds ++ shE en))
def shL : List Rd.D → List UInt8
  | [] => []
  | d :: ds => 32 :: (shD d ++ shL ds)
end
def okA : Rd.A → Prop
  | .num n => -9223372036854775808 ≤ n ∧ n ≤ 9223372036854775807
  | _ => True
mutual
def okD : Rd.D → Prop
  | .mk _ ds en => okA en ∧ okL ds
def okL : List Rd.D → Prop
  | [] => True
  | d :: ds => okD d ∧ okL ds
end
theorem shL_snoc : ∀ (ds : List Rd.D) (d : Rd.D), shL (ds ++ [d]) = shL ds ++ 32 :: shD d
  | [], d => by simp [shL]
  | e :: ds, d => by
    rw [List.cons_append, shL, shL_snoc ds d, shL]
    simp
theorem okL_mem : ∀ (ds : List Rd.D), okL ds → ∀ d ∈ ds, okD d
  | [], _, d, h => by cases h
  | e :: ds, h, d, hd => by
    rw [okL] at h
    rcases List.mem_cons.1 hd with rfl | hd
    · exact h.1
    · exact okL_mem ds h.2 d hd
theorem szL_mem : ∀ (ds : List Rd.D), ∀ d ∈ ds, szD d ≤ szL ds
  | [], d, h => by cases h
  | e :: ds, d, hd => by
    rw [szL]
    rcases List.mem_cons.1 hd with rfl | hd
    · omega
    · have := szL_mem ds d hd; omega

theorem shown150 (b : Bool) (w : World) : Sem.run Tryz.prog (method 400 150 (.bool b) "AppendShown") w = .ok (213, .bool b) w := by kernel_rfl
set_option maxHeartbeats 2000000 in
theorem app_truth (B n : Nat) (b : Bool) (sv : Value) (xs : List Value) (w : World) (ho : w.ownsRow B 5 1 sv n xs) (hB : B ≤ w.heap.size) (hl : n + 2 ≤ 1000000) :
    Calls Tryz.prog 213 #[.bool b, sv] w (AppR B n xs (shA (.truth b)) w) := by
  obtain ⟨i0, hi, hz0, hz1, hz2⟩ := info_parts Tryz.info5
  have HO := (show Hid _ from ho)
  obtain ⟨a, k, c, rfl⟩ := owns_slice ho
  have HG := (show Hid _ from fun w' hg => own_grown (w' := w') ho hB hg)
  clear ho
  cases b
  · go_enter Tryz.func213, Tryz.ntmps213
    go_wp2_with (at_builtin; refine Lib.wpList_append_own_string _ rfl _ _ 58 9 rfl B 5 i0 Tryz.underlying58 Tryz.underlying9 hi hz0 hz1 hz2 _ _ _ rfl HO.out ⟨#[35, 102]⟩ rfl ?c3 ?c4 ?c5 ?_)
    case c3 => unfold maxLen; show n + 2 ≤ _; omega
    case c4 => show n + 2 ≤ _; omega
    case c5 => exact hB
    intro v' w2 hown' hgrow _
    have HO2 : Hid (w2.ownsRow B 5 1 v' (n + 2) (xs ++ Lib.byteCells [35, 102])) := hown'
    obtain ⟨a', k', c', rfl⟩ := owns_slice hown'
    have HB := (show Hid _ from HG.out _ hgrow)
    clear hown' hgrow
    go_wp2
    go_ret
    exact ⟨_, rfl, HO2.out, HB.out⟩
  · go_enter Tryz.func213, Tryz.ntmps213
    go_wp2_with (at_builtin; refine Lib.wpList_append_own_string _ rfl _ _ 58 9 rfl B 5 i0 Tryz.underlying58 Tryz.underlying9 hi hz0 hz1 hz2 _ _ _ rfl HO.out ⟨#[35, 116]⟩ rfl ?c3 ?c4 ?c5 ?_)
    case c3 => unfold maxLen; show n + 2 ≤ _; omega
    case c4 => show n + 2 ≤ _; omega
    case c5 => exact hB
    intro v' w2 hown' hgrow _
    have HO2 : Hid (w2.ownsRow B 5 1 v' (n + 2) (xs ++ Lib.byteCells [35, 116])) := hown'
    obtain ⟨a', k', c', rfl⟩ := owns_slice hown'
    have HB := (show Hid _ from HG.out _ hgrow)
    clear hown' hgrow
    go_wp2
    go_ret
    exact ⟨_, rfl, HO2.out, HB.out⟩

theorem enter206 (args : Array Value) (w : World) : Sem.run Tryz.prog (callFunc 206 args) w = .ok (.enter 206 args) w := by kernel_rfl
theorem enter207 (args : Array Value) (w : World) : Sem.run Tryz.prog (callFunc 207 args) w = .ok (.enter 207 args) w := by kernel_rfl
theorem enter208 (args : Array Value) (w : World) : Sem.run Tryz.prog (callFunc 208 args) w = .ok (.enter 208 args) w := by kernel_rfl
theorem enter209 (args : Array Value) (w : World) : Sem.run Tryz.prog (callFunc 209 args) w = .ok (.enter 209 args) w := by kernel_rfl
theorem enter213 (args : Array Value) (w : World) : Sem.run Tryz.prog (callFunc 213 args) w = .ok (.enter 213 args) w := by kernel_rfl
/-- A value that shows itself as this text, from the world w on. -/
def ShowsZ (B : Nat) (w : World) (t : TypeId) (x : Value) (txt : List UInt8) : Prop := ∃ (fn : Nat) (r : Value), (∀ w, Sem.run Tryz.prog (method 400 t x "AppendShown") w = .ok (fn, r) w) ∧ (∀ args w, Sem.run Tryz.prog (callFunc fn args) w = .ok (.enter fn args) w) ∧
  ∀ (W : World) (n : Nat) (sv : Value) (xs : List Value), Below B w W → W.ownsRow B 5 1 sv n xs → B ≤ W.heap.size → Tab B W → n + txt.length + 21 ≤ 1000000 → Calls Tryz.prog fn #[r, sv] W (AppR B n xs txt W)
theorem shows_atom (B : Nat) (w : World) (a : Rd.A) (ha : okA a) (t : TypeId) (x : Value) (h : aV a = .iface t x) : ShowsZ B w t x (shA a) := by
  cases a with
  | num i =>
    cases h
    exact ⟨209, _, fun w => shown147 i w, enter209, fun W n sv xs _ ho hB ht hl => app_num B n i ha.1 ha.2 sv xs W ho hB (by omega) ht⟩
  | truth b =>
    cases h
    refine ⟨213, _, fun w => shown150 b w, enter213, fun W n sv xs _ ho hB ht hl => app_truth B n b sv xs W ho hB (by omega)⟩
  | sym l =>
    cases h
    exact ⟨206, _, fun w => shown115 _ w, enter206, fun W n sv xs _ ho hB ht hl => app_sym B n l sv xs W ho hB (by simp only [shA] at hl; omega)⟩
  | empty =>
    cases h
    exact ⟨208, _, fun w => shown146 w, enter208, fun W n sv xs _ ho hB ht hl => app_empty B n sv xs W ho hB (by omega)⟩
theorem ShowsZ.on {B : Nat} {w w' : World} {t : TypeId} {x : Value} {txt : List UInt8} (h : ShowsZ B w t x txt) (hb : Below B w w') : ShowsZ B w' t x txt := by
  obtain ⟨fn, r, h1, h3, h2⟩ := h
  exact ⟨fn, r, h1, h3, fun W n sv xs hW => h2 W n sv xs (hb.trans hW)⟩
end Go.Proofs.YtodeeegbajgafaaGreatDoor

namespace Go.Proofs.YtodeeegbajgafaaGreatDoor
open Go.RowKit
open Mc

/-- Below B nothing has changed, and above it rows of bytes alone. -/
structure Fr (B : Nat) (w w' : World) : Prop where
  below : Below B w w'
  others : Lib.OthersKept 5 none w w'
theorem Fr.refl (B : Nat) (w : World) : Fr B w w := ⟨Below.refl B w, Lib.OthersKept.refl _ _ _⟩
theorem Fr.trans {B : Nat} {a b c : World} (h : Fr B a b) (k : Fr B b c) : Fr B a c := ⟨h.below.trans k.below, h.others.trans k.others⟩
theorem Fr.size {B : Nat} {a b : World} (h : Fr B a b) : a.heap.size ≤ b.heap.size := h.below.size
theorem Fr.alloc {B : Nat} {a b : World} (h : Fr B a b) (hB : B ≤ b.heap.size) (o : Obj) : Fr B a (b.alloc o) := ⟨h.below.alloc hB o, h.others.alloc o⟩
/-- A value of data, as it lies in memory. -/
inductive RepV (w : World) : Value → V → Prop
  | atom (a : Rd.A) : RepV w (aV a) (.atom a)
  | pair (b : Nat) (x y : Value) (h t : V) (hh : w.heap[b]? = some (.cells #[x, y] 126 (0, 0))) (h1 : RepV w x h) (h2 : RepV w y t) : RepV w (.iface 124 (ptrV b)) (.pair h t)
theorem RepV.fr {B : Nat} {w w' : World} {x : Value} {v : V} (h : RepV w x v) (hf : Fr B w w') : RepV w' x v := by
  induction h with
  | atom a => exact .atom a
  | pair b x y h t hh _ _ i1 i2 => exact .pair b x y h t (hf.others b _ hh (by simp) (fun c fz e => by cases e)) i1 i2
theorem RepV.iface {w : World} {x : Value} {v : V} (h : RepV w x v) : ∃ t y, x = .iface t y := by
  cases h with
  | atom a => exact aV_iface a
  | pair => exact ⟨_, _, rfl⟩
theorem RepV.atom_inv {w : World} {x : Value} {a : Rd.A} (h : RepV w x (.atom a)) : x = aV a := by
  cases h; rfl
theorem RepV.pair_inv {w : World} {x : Value} {h t : V} (hv : RepV w x (.pair h t)) : ∃ b y z, x = .iface 124 (ptrV b) ∧ w.heap[b]? = some (.cells #[y, z] 126 (0, 0)) ∧ RepV w y h ∧ RepV w z t := by
  cases hv with
  | pair b x y _ _ hh h1 h2 => exact ⟨b, x, y, rfl, hh, h1, h2⟩
theorem own_grownF {w w' : World} {B n : Nat} {v : Value} {xs : List Value} (h : w.ownsRow B 5 1 v n xs) (hB : B ≤ w.heap.size) (hg : w.grownBy w' v.ownBlock) : Fr B w w' := by
  refine ⟨own_grown h hB hg, Lib.OthersKept.grown (Lib.OthersKept.refl _ _ _) hg ?_⟩
  intro g e
  obtain ⟨_, ⟨rfl, _⟩ | ⟨g', cap, cur, rfl, _, hh, _⟩⟩ := h
  · cases e
  · cases e
    exact ⟨_, _, hh⟩
def AppO (B n : Nat) (xs : List Value) (txt : List UInt8) (w : World) : Ending → World → Prop := fun e w' => ∃ v', e = .returned v' ∧ w'.ownsRow B 5 1 v' (n + txt.length) (xs ++ Lib.byteCells txt) ∧ Fr B w w'
theorem own_byteF (B n : Nat) (sv : Value) (xs : List Value) (w : World) (c : UInt8) (ho : w.ownsRow B 5 1 sv n xs) (hB : B ≤ w.heap.size) : (w.alloc (.cells #[.int .u8 c.toNat] 5)).ownsRow B 5 1 sv n xs ∧ B ≤ (w.alloc (.cells #[.int .u8 c.toNat] 5)).heap.size ∧ Fr B w (w.alloc (.cells #[.int .u8 c.toNat] 5)) := ⟨ho.alloc _, by simp; omega, (Fr.refl B w).alloc hB _⟩
end Go.Proofs.YtodeeegbajgafaaGreatDoor

namespace Go.Proofs.YtodeeegbajgafaaGreatDoor
open Go.RowKit
open Mc

theorem RepV.keep {w w' : World} {x : Value} {v : V} (h : RepV w x v) (hk : ∀ k, k < w.heap.size → w'.heap[k]? = w.heap[k]?) : RepV w' x v := by
  induction h with
  | atom a => exact .atom a
  | pair b x y h t hh _ _ i1 i2 => exact .pair b x y h t ((hk b (lt_of_at hh)).trans hh) i1 i2
theorem RepV.on {w w' : World} {x : Value} {v : V} (h : RepV w x v) (hb : Below w.heap.size w w') : RepV w' x v := h.keep fun k hk => hb.block k hk
theorem RepV.set60 {w : World} {x : Value} {v : V} (h : RepV w x v) {g : Nat} {c : Array Value} {fz : Nat × Nat} (hg : w.heap[g]? = some (.cells c 60 fz)) (j : Nat) (u : Value) : RepV (w.setCell ⟨g, j, none⟩ u) x v := by
  induction h with
  | atom a => exact .atom a
  | pair b x y h t hh _ _ i1 i2 =>
    have hne : b ≠ g := fun e => by
      subst e
      rw [hh] at hg
      cases hg
    exact .pair b x y h t ((Below.heap_setCell _ _ _ _ hne).trans hh) i1 i2
def RepVs (w : World) (x : Value) (vs : List V) : Prop := ∃ a cap, x = .slice a vs.length cap ∧ vs.length ≤ cap ∧ cap ≤ maxLen ∧ ∀ i (hi : i < vs.length), ∃ g o y, a = some ⟨g, o, none⟩ ∧ w.cell? ⟨g, o + i, none⟩ = some y ∧ g < w.heap.size ∧ RepV w y vs[i]

/-- Where the loop of data.List stands: k values are still to be laid ahead. -/
def ListingV (w : World) (ev : V) (vs : List V) (k : Nat) (p q : Value) (wr : World) : Prop :=
  k ≤ vs.length ∧ q = .int .i64 ((k : Int) - 1) ∧ RepV wr p ((listE ev (vs.drop k))) ∧ Below w.heap.size w wr

set_option maxHeartbeats 4000000 in
theorem list33v (w : World) (x : Value) (vs : List V) (hx : RepVs w x vs) (te : TypeId) (ze : Value) (ev : V) (he : RepV w (.iface te ze) (ev)) :
    Calls Tryz.prog 33 #[x, .iface te ze] w fun e w' => ∃ y, e = .returned y ∧ RepV w' y (listE ev vs) ∧ Below w.heap.size w w' := by
  obtain ⟨a, cap, rfl, hn, hcap, hat⟩ := hx
  have HA := (show Hid _ from hat)
  clear hat
  have hm : cap ≤ 9223372036854775807 := by unfold maxLen at hcap; omega
  have i0 : -9223372036854775808 ≤ (vs.length : Int) - 1 := by omega
  have i0' : (vs.length : Int) - 1 ≤ 9223372036854775807 := by omega
  have HE : Hid (RepV w (.iface te ze) (ev)) := he
  clear he
  go_enter Tryz.func33, Tryz.ntmps33
  go_wp2
  go_loopg [5, 6] vs.length (fun k p q wr => ListingV w ev vs k p q wr)
  case atStart => exact ⟨Nat.le_refl _, rfl, by rw [List.drop_length]; exact HE.out, Below.refl _ _⟩
  case round =>
    obtain ⟨hk, rfl, hp, hb⟩ := hrel
    cases gk with
    | zero =>
      have HP : Hid (RepV wr u5 (listE ev (vs.drop 0))) := hp
      obtain ⟨tp, zp, rfl⟩ := hp.iface
      clear hp hk
      go_wp2
      go_ret
      exact ⟨_, rfl, HP.out, hb⟩
    | succ k =>
      obtain ⟨g, o, y, rfl, hc, hlt, hy⟩ := HA.out k (by omega)
      have hc' := (Kept.of_below hb (fun _ => False)).cell id hc
      have i1 : ((k + 1 : Nat) : Int) - 1 = (k : Int) := by omega
      rw [i1]
      have hB : Below w.heap.size w (wr.alloc (.cells #[y, u5] 126)) := hb.alloc hb.size _
      have hst : Below wr.heap.size wr (wr.alloc (.cells #[y, u5] 126)) := (Below.refl _ wr).alloc (Nat.le_refl _) _
      have hR : RepV (wr.alloc (.cells #[y, u5] 126)) (.iface 124 (.pointer (some ⟨wr.heap.size, 0, none⟩))) ((listE ev (vs.drop k))) := by
        rw [List.drop_eq_getElem_cons (show k < vs.length by omega)]
        exact .pair wr.heap.size y u5 _ _ (at_new wr _) ((hy.on hb).on hst) (hp.on hst)
      have HR : Hid (ListingV w ev vs k (.iface 124 (.pointer (some ⟨wr.heap.size, 0, none⟩))) (.int .i64 ((k : Int) - 1)) (wr.alloc (.cells #[y, u5] 126))) := ⟨by omega, rfl, hR, hB⟩
      obtain ⟨tp, zp, rfl⟩ := hp.iface
      obtain ⟨ty, zy, rfl⟩ := hy.iface
      have i2 : (0 : Int) ≤ (k : Int) := by omega
      have i3 : (k : Int) < (vs.length : Int) := by omega
      have i4 : k < vs.length := by omega
      have i5 : -9223372036854775808 ≤ (k : Int) - 1 := by omega
      have i6 : (k : Int) - 1 ≤ 9223372036854775807 := by omega
      clear hp hy hR hst hB hc HA
      go_wp2
      go_roundg k
      case measure => omega
      case rel => exact HR.out
structure ValuingV (w : World) (g n : Nat) (ds : List Rd.D) (bx : Obj) (j : Nat) (wr : World) : Prop where
  kept : Below w.heap.size w wr
  row : ∃ (c : Array Value) (vf : Nat → Value), wr.heap[g]? = some (.cells c 60 (0, 0)) ∧ c.size = n ∧ (∀ i, i < j → c[i]? = some (vf i)) ∧ ∀ i (hi : i < ds.length), i < j → RepV wr (vf i) (valD ds[i])
  box : wr.heap[w.heap.size]? = some bx

/-- One value more. -/
theorem ValuingV.push {w : World} {g n : Nat} {ds : List Rd.D} {bx : Obj} {j : Nat} {wr w1 : World} (hF : ValuingV w g n ds bx j wr) (hg : w.heap.size < g) (hj : j < n) (hx : ds.length = n)
    {o : Obj} {v : Value} (hrep : RepV w1 v (valD ds[j])) (hk1 : Below (wr.alloc o).heap.size (wr.alloc o) w1) :
    ValuingV w g n ds bx (j + 1) (w1.setCell ⟨g, j, none⟩ v) := by
  obtain ⟨hkept, ⟨c, vf, hrow, hcs, hci, hels⟩, hbox⟩ := hF
  have hgl := lt_of_at hrow
  have hsz : (wr.alloc o).heap.size = wr.heap.size + 1 := by simp
  have hkb : ∀ k, k < wr.heap.size → w1.heap[k]? = wr.heap[k]? := fun k hk => (hk1.block k (by omega)).trans (Below.heap_alloc _ _ _ hk)
  have hrow1 : w1.heap[g]? = some (.cells c 60 (0, 0)) := (hkb g hgl).trans hrow
  have hne : ∀ k, k ≠ g → (w1.setCell ⟨g, j, none⟩ v).heap[k]? = w1.heap[k]? := fun k hk => Below.heap_setCell _ _ _ _ hk
  have hs1 := hk1.size
  have hsk := hkept.size
  refine ⟨?_, ⟨c.setIfInBounds j v, fun i => if i = j then v else vf i, ?_, by simpa using hcs, ?_, ?_⟩, ?_⟩
  · have h1 : Below w.heap.size w w1 := (hkept.alloc hsk o).trans (hk1.mono (by omega))
    exact h1.setCell (by show w.heap.size ≤ g; omega) v
  · rw [at_setCell hrow1 j v]
  · intro i hi
    by_cases e : i = j
    · subst e
      simp [hcs, hj]
    · rw [Array.getElem?_setIfInBounds_ne (by omega)]
      simp only [e, if_false]
      exact hci i (by omega)
  · intro i hi hij
    by_cases e : i = j
    · subst e
      simp only [if_true]
      exact hrep.set60 hrow1 _ v
    · simp only [e, if_false]
      exact ((hels i hi (by omega)).keep (fun k hk => hkb k hk)).set60 hrow1 j v
  · exact (hne _ (by omega)).trans ((hkb _ (by omega)).trans hbox)

def ValTV (k : Nat) : Prop := ∀ (d : Rd.D) (ok : Nat → Prop) (v : Value) (w : World), szD d ≤ k → k ≤ 4000 → RepD ok w v d →
  Calls Tryz.prog 25 #[v] w fun e w' => ∃ y, e = .returned y ∧ RepV w' y (valD d) ∧ Below w.heap.size w w'

set_option maxHeartbeats 2000000 in
set_option maxRecDepth 10000 in
theorem value_stepV (k : Nat) (H : ∀ j, j < k → ValTV j) : ValTV k := by
  intro d ok v w hk hk4 hd
  obtain ⟨p, ds, en⟩ := d
  rw [szD] at hk
  rw [valD, valL_map]
  obtain ⟨sl, rfl, hsl⟩ := hd.inv
  clear hd
  have hlen := szL_len ds
  have HSZ : Hid (∀ i (hi : i < ds.length), szD ds[i] < k) := fun i hi => by have := szL_get ds i hi; omega
  obtain ⟨bb, cap, rfl, hcap⟩ : ∃ b cap, sl = .slice b ds.length cap ∧ ds.length ≤ cap := by
    rcases hsl with ⟨rfl, rfl⟩ | ⟨g, o, cap, c, T, va, vb, vc, rfl, _, _, hn, _⟩
    · exact ⟨none, 0, rfl, Nat.le_refl _⟩
    · exact ⟨_, cap, rfl, hn⟩
  obtain ⟨ti0, xv0, hav⟩ := aV_iface en
  have HEN : Hid (∀ W, RepV W (.iface ti0 xv0) (.atom en)) := fun W => by rw [← hav]; exact .atom en
  rw [hav]
  clear hav
  have hmk := fun w => run_make_row' (P := Tryz.prog) 85 60 .nilIface 16 Tryz.underlying85 Tryz.info60 rfl .i64 .i64 ds.length (by omega) (by omega) w
  have hF0 : ValuingV w (w.heap.size + 1) ds.length ds (.cells #[.int .i64 p, .slice bb ds.length cap, .iface ti0 xv0] 62 (0, 0)) 0 ((w.alloc (.cells #[.int .i64 p, .slice bb ds.length cap, .iface ti0 xv0] 62)).alloc (.cells (madeCells #[.nilIface] ds.length) 60)) :=
    ⟨((Below.refl _ w).alloc (Nat.le_refl _) _).alloc (by simp) _, ⟨madeCells #[.nilIface] ds.length, fun _ => undef, by have := at_new (w.alloc (.cells #[.int .i64 p, .slice bb ds.length cap, .iface ti0 xv0] 62)) (.cells (madeCells #[.nilIface] ds.length) 60); simpa using this, by simp [madeCells], fun i hi => absurd hi (Nat.not_lt_zero _), fun i _ hi => absurd hi (Nat.not_lt_zero _)⟩, at_alloc (at_new w _) _⟩
  have HF0 : Hid (ValuingV w (w.heap.size + 1) ds.length ds (.cells #[.int .i64 p, .slice bb ds.length cap, .iface ti0 xv0] 62 (0, 0)) 0 _) := hF0
  have HSL : Hid (RepS ok w (.slice bb ds.length cap) ds) := hsl
  have HH : Hid (∀ j, j < k → ValTV j) := H
  clear hF0 hsl H
  go_enter Tryz.func25, Tryz.ntmps25
  go_wp2
  have HW : Hid (w.heap.size + 1 = w.heap.size + 1) := rfl
  generalize hG : w.heap.size + 1 = g at *
  have HG : Hid (w.heap.size + 1 = g) := hG
  clear hG HW
  go_loopg [13] ds.length (fun q i wr => ∃ j : Nat, i = .int .i64 j ∧ j ≤ ds.length ∧ q = ds.length - j ∧ ValuingV w g ds.length ds (.cells #[.int .i64 p, .slice bb ds.length cap, .iface ti0 xv0] 62 (0, 0)) j wr)
  case atStart => exact ⟨0, rfl, Nat.zero_le _, by omega, HF0.out⟩
  case round =>
    obtain ⟨j, rfl, hj, rfl, hF⟩ := hrel
    have HF : Hid (ValuingV w g ds.length ds (.cells #[.int .i64 p, .slice bb ds.length cap, .iface ti0 xv0] 62 (0, 0)) j wr) := hF
    obtain ⟨hkept, ⟨c, vf, hrow, hcs, hci, hels⟩, hbox⟩ := hF
    by_cases hlt : j < ds.length
    · obtain ⟨gd, od, cap', pp, po, pn, pc, ti, xv, heq, hgd, _, d0, d1, d2, hrepd⟩ := (HSL.out.mono (below_rep hkept)).cells j hlt
      cases heq
      have HRD : Hid (RepD ok (wr.alloc (.cells #[.int .i64 pp, .slice po pn pc, .iface ti xv] 62)) (.agg #[.int .i64 pp, .slice po pn pc, .iface ti xv]) ds[j]) := hrepd.mono (fun k hk h => ⟨h, Below.heap_alloc _ _ _ hk⟩)
      have HROW : Hid ((wr.alloc (.cells #[.int .i64 pp, .slice po pn pc, .iface ti xv] 62)).heap[g]? = some (.cells c 60 (0, 0))) := at_alloc hrow _
      have HGL : Hid (g < wr.heap.size) := lt_of_at hrow
      clear hkept hrow hci hels hbox hrepd
      rw [Nat.mul_comm 3 j] at d0 d1 d2
      go_wp2_with (go_at_call 25; refine (HH.out (szD ds[j]) (HSZ.out j hlt) ds[j] ok _ _ (Nat.le_refl _) (by have := HSZ.out j hlt; omega) HRD.out).mono ?_; rintro e w1 ⟨fv, rfl, hrepf, hk1⟩; obtain ⟨tf, xf, rfl⟩ := hrepf.iface; have hrow3 : w1.heap[g]? = some (.cells c 60 (0, 0)) := (hk1.block g (by have := HGL.out; simp; omega)).trans HROW.out; have c3 : w1.cell? ⟨g, j, none⟩ = some (c[j]'(by omega)) := (by rw [cell_of_at hrow3 j, Array.getElem?_eq_getElem]); have f3 := free_of_at hrow3 j)
      go_roundg (ds.length - (j + 1))
      case measure => omega
      case rel => exact ⟨j + 1, by go_num, by omega, rfl, HF.out.push (by have := HG.out; omega) hlt rfl hrepf hk1⟩
    · have : j = ds.length := by omega
      subst this
      obtain ⟨c20, c21, c22, _, _, _⟩ := cells3 hbox
      have HV : Hid (RepVs wr (.slice (some ⟨g, 0, none⟩) ds.length ds.length) (ds.map valD)) := by
        have hl : (ds.map valD).length = ds.length := by simp
        refine ⟨some ⟨g, 0, none⟩, ds.length, by rw [hl], by omega, by unfold maxLen; omega, fun i hi => ?_⟩
        have hi' : i < ds.length := by omega
        refine ⟨g, 0, vf i, rfl, ?_, lt_of_at hrow, ?_⟩
        · rw [cell_of_at hrow, Nat.zero_add]; exact hci i hi'
        · rw [List.getElem_map]; exact hels i hi' hi'
      have HB : Hid (Below w.heap.size w wr) := hkept
      have hsk := hkept.size
      clear hrow hci hels hbox hkept HSL HF0
      go_wp2_with (go_at_call 33; refine (list33v wr _ _ HV.out ti0 xv0 (.atom en) (HEN.out _)).mono ?_; rintro e w1 ⟨y, rfl, hrepf, hk1⟩; obtain ⟨tf, xf, rfl⟩ := hrepf.iface)
      go_ret
      exact ⟨_, rfl, hrepf, HB.out.trans (hk1.mono hsk)⟩
theorem value_tV : ∀ k, ValTV k := by
  intro k
  induction k using Nat.strongRecOn with
  | _ k ih => exact value_stepV k ih
end Go.Proofs.YtodeeegbajgafaaGreatDoor

namespace Go.Proofs.YtodeeegbajgafaaGreatDoor
open Go.RowKit
open Mc

set_option maxHeartbeats 2000000 in
theorem app_symF (B n : Nat) (s : List UInt8) (sv : Value) (xs : List Value) (w : World) (ho : w.ownsRow B 5 1 sv n xs) (hB : B ≤ w.heap.size) (hl : n + s.length ≤ 1000000) :
    Calls Tryz.prog 206 #[.string ⟨s.toArray⟩, sv] w (AppO B n xs s w) := by
  obtain ⟨i0, hi, hz0, hz1, hz2⟩ := info_parts Tryz.info5
  have HO := (show Hid _ from ho)
  obtain ⟨a, k, c, rfl⟩ := owns_slice ho
  have hsz : (⟨s.toArray⟩ : ByteArray).size = s.length := by show s.toArray.size = _; simp
  have HG := (show Hid _ from fun w' hg => own_grownF (w' := w') ho hB hg)
  clear ho
  go_enter Tryz.func206, Tryz.ntmps206
  go_wp2_with (at_builtin; refine Lib.wpList_append_own_string _ rfl _ _ 58 115 rfl B 5 i0 Tryz.underlying58 Tryz.underlying115 hi hz0 hz1 hz2 _ _ _ rfl HO.out ⟨s.toArray⟩ rfl ?c3 ?c4 ?c5 ?_)
  case c3 => rw [hsz]; unfold maxLen; omega
  case c4 => rw [hsz]; omega
  case c5 => exact hB
  intro v' w2 hown' hgrow _
  have HO2 := (show Hid _ from hown')
  obtain ⟨a', k', c', rfl⟩ := owns_slice hown'
  have HB := (show Hid _ from HG.out _ hgrow)
  clear hown' hgrow
  go_wp2
  go_ret
  exact ⟨_, rfl, HO2.out, HB.out⟩

set_option maxHeartbeats 2000000 in
theorem app_emptyF (B n : Nat) (sv : Value) (xs : List Value) (w : World) (ho : w.ownsRow B 5 1 sv n xs) (hB : B ≤ w.heap.size) (hl : n + 2 ≤ 1000000) :
    Calls Tryz.prog 208 #[.agg #[], sv] w (AppO B n xs [40, 41] w) := by
  obtain ⟨i0, hi, hz0, hz1, hz2⟩ := info_parts Tryz.info5
  have hA : Fr B w (w.alloc (.cells #[] 146)) := (Fr.refl B w).alloc hB _
  have hO : (w.alloc (.cells #[] 146)).ownsRow B 5 1 sv n xs := ho.alloc _
  have HO := (show Hid _ from hO)
  obtain ⟨a, k, c, rfl⟩ := owns_slice ho
  have HG := (show Hid _ from fun w' hg => hA.trans (own_grownF (w' := w') hO (by simp; omega) hg))
  clear ho hO
  go_enter Tryz.func208, Tryz.ntmps208
  go_wp2_with (at_builtin; refine Lib.wpList_append_own_string _ rfl _ _ 58 9 rfl B 5 i0 Tryz.underlying58 Tryz.underlying9 hi hz0 hz1 hz2 _ _ _ rfl HO.out ⟨#[40, 41]⟩ rfl ?c3 ?c4 ?c5 ?_)
  case c3 => unfold maxLen; show n + 2 ≤ _; omega
  case c4 => show n + 2 ≤ _; omega
  case c5 => simp; omega
  intro v' w2 hown' hgrow _
  have HO2 : Hid (w2.ownsRow B 5 1 v' (n + 2) (xs ++ Lib.byteCells [40, 41])) := hown'
  obtain ⟨a', k', c', rfl⟩ := owns_slice hown'
  have HB := (show Hid _ from HG.out _ hgrow)
  clear hown' hgrow
  go_wp2
  go_ret
  exact ⟨_, rfl, HO2.out, HB.out⟩

set_option maxHeartbeats 2000000 in
theorem app_numF (B n : Nat) (i : Int) (h0 : -9223372036854775808 ≤ i) (h1 : i ≤ 9223372036854775807) (sv : Value) (xs : List Value) (w : World) (ho : w.ownsRow B 5 1 sv n xs) (hB : B ≤ w.heap.size) (hl : n + 21 ≤ 1000000) (htab : Lib.TabBelow Tryz.prog B w "internal/strconv.uint64pow10" .u64 Lib.pow10Tab) :
    Calls Tryz.prog 209 #[.int .i64 i, sv] w (AppO B n xs (Lib.itoa i) w) := by
  have HC := Tryz.strconv_AppendInt_10 B n i h0 h1 sv xs w ho hB (by omega) htab
  obtain ⟨a, k, c, rfl⟩ := owns_slice ho
  clear ho htab
  go_enter Tryz.func209, Tryz.ntmps209
  go_wp2_with (first | (go_at_call 210; refine HC.mono ?_; rintro e2 w2 ⟨v', rfl, ho2, hb2, hoth⟩; have HO2 := (show Hid _ from ho2); obtain ⟨a', k', c', rfl⟩ := owns_slice ho2; clear ho2))
  go_ret
  exact ⟨_, rfl, HO2.out, hb2, hoth⟩
set_option maxHeartbeats 2000000 in
theorem app_truthF (B n : Nat) (b : Bool) (sv : Value) (xs : List Value) (w : World) (ho : w.ownsRow B 5 1 sv n xs) (hB : B ≤ w.heap.size) (hl : n + 2 ≤ 1000000) :
    Calls Tryz.prog 213 #[.bool b, sv] w (AppO B n xs (shA (.truth b)) w) := by
  obtain ⟨i0, hi, hz0, hz1, hz2⟩ := info_parts Tryz.info5
  have HO := (show Hid _ from ho)
  obtain ⟨a, k, c, rfl⟩ := owns_slice ho
  have HG := (show Hid _ from fun w' hg => own_grownF (w' := w') ho hB hg)
  clear ho
  cases b
  · go_enter Tryz.func213, Tryz.ntmps213
    go_wp2_with (at_builtin; refine Lib.wpList_append_own_string _ rfl _ _ 58 9 rfl B 5 i0 Tryz.underlying58 Tryz.underlying9 hi hz0 hz1 hz2 _ _ _ rfl HO.out ⟨#[35, 102]⟩ rfl ?c3 ?c4 ?c5 ?_)
    case c3 => unfold maxLen; show n + 2 ≤ _; omega
    case c4 => show n + 2 ≤ _; omega
    case c5 => exact hB
    intro v' w2 hown' hgrow _
    have HO2 : Hid (w2.ownsRow B 5 1 v' (n + 2) (xs ++ Lib.byteCells [35, 102])) := hown'
    obtain ⟨a', k', c', rfl⟩ := owns_slice hown'
    have HB := (show Hid _ from HG.out _ hgrow)
    clear hown' hgrow
    go_wp2
    go_ret
    exact ⟨_, rfl, HO2.out, HB.out⟩
  · go_enter Tryz.func213, Tryz.ntmps213
    go_wp2_with (at_builtin; refine Lib.wpList_append_own_string _ rfl _ _ 58 9 rfl B 5 i0 Tryz.underlying58 Tryz.underlying9 hi hz0 hz1 hz2 _ _ _ rfl HO.out ⟨#[35, 116]⟩ rfl ?c3 ?c4 ?c5 ?_)
    case c3 => unfold maxLen; show n + 2 ≤ _; omega
    case c4 => show n + 2 ≤ _; omega
    case c5 => exact hB
    intro v' w2 hown' hgrow _
    have HO2 : Hid (w2.ownsRow B 5 1 v' (n + 2) (xs ++ Lib.byteCells [35, 116])) := hown'
    obtain ⟨a', k', c', rfl⟩ := owns_slice hown'
    have HB := (show Hid _ from HG.out _ hgrow)
    clear hown' hgrow
    go_wp2
    go_ret
    exact ⟨_, rfl, HO2.out, HB.out⟩

/-- A value that shows itself as this text, from the world w on. -/
def ShowsF (B : Nat) (w : World) (t : TypeId) (x : Value) (txt : List UInt8) : Prop := ∃ (fn : Nat) (r : Value), (∀ w, Sem.run Tryz.prog (method 400 t x "AppendShown") w = .ok (fn, r) w) ∧ (∀ args w, Sem.run Tryz.prog (callFunc fn args) w = .ok (.enter fn args) w) ∧
  ∀ (W : World) (n : Nat) (sv : Value) (xs : List Value), Fr B w W → W.ownsRow B 5 1 sv n xs → B ≤ W.heap.size → Tab B W → n + txt.length + 21 ≤ 1000000 → Calls Tryz.prog fn #[r, sv] W (AppO B n xs txt W)
theorem shows_atomF (B : Nat) (w : World) (a : Rd.A) (ha : okA a) (t : TypeId) (x : Value) (h : aV a = .iface t x) : ShowsF B w t x (shA a) := by
  cases a with
  | num i =>
    cases h
    exact ⟨209, _, fun w => shown147 i w, enter209, fun W n sv xs _ ho hB ht hl => app_numF B n i ha.1 ha.2 sv xs W ho hB (by omega) ht⟩
  | truth b =>
    cases h
    refine ⟨213, _, fun w => shown150 b w, enter213, fun W n sv xs _ ho hB ht hl => app_truthF B n b sv xs W ho hB (by omega)⟩
  | sym l =>
    cases h
    exact ⟨206, _, fun w => shown115 _ w, enter206, fun W n sv xs _ ho hB ht hl => app_symF B n l sv xs W ho hB (by simp only [shA] at hl; omega)⟩
  | empty =>
    cases h
    exact ⟨208, _, fun w => shown146 w, enter208, fun W n sv xs _ ho hB ht hl => app_emptyF B n sv xs W ho hB (by omega)⟩
theorem ShowsF.on {B : Nat} {w w' : World} {t : TypeId} {x : Value} {txt : List UInt8} (h : ShowsF B w t x txt) (hb : Fr B w w') : ShowsF B w' t x txt := by
  obtain ⟨fn, r, h1, h3, h2⟩ := h
  exact ⟨fn, r, h1, h3, fun W n sv xs hW => h2 W n sv xs (hb.trans hW)⟩
end Go.Proofs.YtodeeegbajgafaaGreatDoor

namespace Go.Proofs.YtodeeegbajgafaaGreatDoor
open Go.RowKit
open Mc

/-- Where the loop of a pair's AppendShown stands. -/
structure ShowingD (B mb n : Nat) (xs : List Value) (txt : List UInt8) (ns : List Rd.D) (en : Rd.A) (w : World) (k : Nat) (v1 v5 v6 v7 : Value) (wr : World) (done todo : List Rd.D) : Prop where
  parts : ns = done ++ todo
  count : k = todo.length
  rep : RepM mb (· < B) wr v5 (.val (listE (.atom en) (todo.map valD)))
  own : wr.ownsRow B 5 1 v1 (n + (txt ++ shL done).length) (xs ++ Lib.byteCells (txt ++ shL done))
  below : Below B w wr
  more : (todo = [] ∧ v6 = .pointer none ∧ v7 = .bool false) ∨ ∃ b, v5 = .iface 124 (ptrV b) ∧ v6 = ptrV b ∧ v7 = .bool true ∧ todo ≠ []
theorem listE_cons (en : Rd.A) (d : Rd.D) (ds : List Rd.D) : listE (.atom en) ((d :: ds).map valD) = .pair (valD d) (listE (.atom en) (ds.map valD)) := rfl
theorem tail_assertD {mb : Nat} {ok : Nat → Prop} {w : World} {t : TypeId} {x : Value} {en : Rd.A} {ns : List Rd.D} (h : RepM mb ok w (.iface t x) (.val (listE (.atom en) (ns.map valD)))) :
    ∃ P M, (∀ w, (Instr.typeAssert (.iface t x) 60 124 true).run Tryz.prog w = .ok (.tuple #[P, .bool M]) w) ∧ ((ns = [] ∧ P = .pointer none ∧ M = false) ∨ ∃ b, Value.iface t x = .iface 124 (ptrV b) ∧ P = ptrV b ∧ M = true ∧ ns ≠ []) := by
  cases ns with
  | nil =>
    have e := h.atom_inv
    cases en <;> cases e
    · exact ⟨_, _, fun w => ta_miss124 147 _ w (by decide), Or.inl ⟨rfl, rfl, rfl⟩⟩
    · exact ⟨_, _, fun w => ta_miss124 150 _ w (by decide), Or.inl ⟨rfl, rfl, rfl⟩⟩
    · exact ⟨_, _, fun w => ta_miss124 115 _ w (by decide), Or.inl ⟨rfl, rfl, rfl⟩⟩
    · exact ⟨_, _, fun w => ta_miss124 146 (.agg #[]) w (by decide), Or.inl ⟨rfl, rfl, rfl⟩⟩
  | cons m ns =>
    rw [listE_cons] at h
    obtain ⟨b, y, z, T, e, _⟩ := h.pair_inv
    cases e
    exact ⟨_, _, fun w => ta_hit124 (ptrV b) w, Or.inr ⟨b, rfl, rfl, rfl, by simp⟩⟩
theorem shL_app (a b : List Rd.D) : shL (a ++ b) = shL a ++ shL b := by
  induction a with
  | nil => simp [shL]
  | cons d a ih => rw [List.cons_append, shL, ih, shL]; simp

set_option maxHeartbeats 8000000 in
set_option maxRecDepth 20000 in
theorem app_pairD (B mb n b : Nat) (m0 : Rd.D) (ns : List Rd.D) (en : Rd.A) (hen : okA en) (sv : Value) (xs : List Value) (w : World) (ho : w.ownsRow B 5 1 sv n xs) (hB : B ≤ w.heap.size) (hl : n + (40 :: (shD m0 ++ (shL ns ++ shE en))).length + 21 ≤ 1000000) (htab : Tab B w)
    (HS0 : ∀ d ∈ m0 :: ns, ∀ W t x, Below B w W → RepM mb (· < B) W (.iface t x) (.val (valD d)) → ShowsZ B W t x (shD d))
    (hx : RepM mb (· < B) w (.iface 124 (ptrV b)) (.val (listE (.atom en) ((m0 :: ns).map valD)))) :
    Calls Tryz.prog 207 #[ptrV b, sv] w (AppR B n xs (40 :: (shD m0 ++ (shL ns ++ shE en))) w) := by
  obtain ⟨i0, hi, hz0, hz1, hz2⟩ := info_parts Tryz.info5
  have hlen : n + 1 + (shD m0).length + (shL ns).length + (shE en).length + 21 ≤ 1000000 := by simp only [List.length_cons, List.length_append] at hl; omega
  clear hl
  rw [listE_cons] at hx
  obtain ⟨bb, y, z, T, hbb, hbB, hh, h1, h2⟩ := hx.pair_inv
  cases hbb
  obtain ⟨ty, xy, rfl⟩ := h1.iface
  obtain ⟨tz, xz, rfl⟩ := h2.iface
  obtain ⟨q0, q1, _, _⟩ := cells2 hh
  obtain ⟨oA, hBA, hbA⟩ := own_byte B n sv xs w 40 ho hB
  have HO : Hid ((w.alloc (.cells #[.int .u8 (40 : UInt8).toNat] 5)).ownsRow B 5 1 sv n xs) := oA
  obtain ⟨fn, r, sh, hent, hfn⟩ := HS0 m0 (List.mem_cons_self ..) w ty xy (Below.refl B w) h1
  have HSD : Hid (∀ d ∈ m0 :: ns, ∀ W t x, Below B w W → RepM mb (· < B) W (.iface t x) (.val (valD d)) → ShowsZ B W t x (shD d)) := HS0
  clear HS0
  obtain ⟨a, k, c, rfl⟩ := owns_slice ho
  have HN : Hid (∀ W sv', W.ownsRow B 5 1 sv' (n + 1) (xs ++ Lib.byteCells [40]) → Below B w W → Calls Tryz.prog fn #[r, sv'] W (AppR B (n + 1) (xs ++ Lib.byteCells [40]) (shD m0) W)) := fun W sv' h hb => hfn W (n + 1) sv' _ hb h (Nat.le_trans hB hb.size) (htab.on hb) (by omega)
  have HG := (show Hid _ from fun (w' : World) hg => hbA.trans (own_grown (w' := w') oA hBA hg))
  have HK : Hid (∀ W, Below B w W → W.cell? ⟨b, 0, none⟩ = some (.iface ty xy) ∧ W.cell? ⟨b, 1, none⟩ = some (.iface tz xz) ∧ RepM mb (· < B) W (.iface tz xz) (.val (listE (.atom en) (ns.map valD)))) := fun W hb => by
    have hat : W.heap[b]? = some (.cells #[.iface ty xy, .iface tz xz] T (0, 0)) := (hb.block b hbB).trans hh
    exact ⟨cell_of_at hat 0, cell_of_at hat 1, h2.mono (below_keeps hb)⟩
  obtain ⟨P, M, hta, hPM⟩ := tail_assertD h2
  have HPM := (show Hid _ from hPM)
  clear ho oA hx hh h1 h2 hbA hPM hfn
  unfold ptrV
  go_enter Tryz.func207, Tryz.ntmps207
  go_wp2_with (at_builtin; refine wpList_append_own_at _ rfl _ _ 58 rfl B 5 i0 (.int .u8 0) 1 1 Tryz.underlying58 hi hz0 hz1 hz2 rfl (by decide) (.slice a k c) n xs rfl ?h1 ⟨w.heap.size, 0, none⟩ 1 1 [.int .u8 40] rfl rfl ?h2 ?h3 ?h4 ?h5 ?h6 ?_)
  case h1 => exact HO.out
  case h2 => exact cell_one_new _ _ _
  case h3 => intro u hu; simp at hu; subst hu; rfl
  case h4 => unfold maxLen; omega
  case h5 => omega
  case h6 => exact hBA
  intro v1 w1 ho1 hg1 _ _
  have hb1 := HG.out _ hg1
  have HO1 : Hid (w1.ownsRow B 5 1 v1 (n + 1) (xs ++ Lib.byteCells [40])) := ho1
  obtain ⟨a1, k1, c1, rfl⟩ := owns_slice ho1
  obtain ⟨e0, e1, _⟩ := HK.out _ hb1
  clear ho1 hg1
  go_wp2_with fail
  refine (HN.out _ _ HO1.out hb1).mono ?_
  rintro e2 w2 ⟨v2, rfl, ho2, hb2⟩
  have HO2 : Hid (w2.ownsRow B 5 1 v2 (n + 1 + (shD m0).length) (xs ++ Lib.byteCells [40] ++ Lib.byteCells (shD m0))) := ho2
  obtain ⟨a2, k2, c2, rfl⟩ := owns_slice ho2
  clear ho2
  have hb02 := hb1.trans hb2
  obtain ⟨f0, f1, f2⟩ := HK.out _ hb02
  have HF2 : Hid (RepM mb (· < B) w2 (.iface tz xz) (.val (listE (.atom en) (ns.map valD)))) := f2
  clear f2
  go_wp2_with fail
  have HO2' : Hid (w2.ownsRow B 5 1 (.slice a2 k2 c2) (n + (40 :: shD m0 ++ shL []).length) (xs ++ Lib.byteCells (40 :: shD m0 ++ shL []))) := by
    have := HO2.out
    rw [List.append_assoc, ← Lib.byteCells_append, Nat.add_assoc] at this
    show w2.ownsRow B 5 1 (.slice a2 k2 c2) (n + (40 :: shD m0 ++ shL []).length) (xs ++ Lib.byteCells (40 :: shD m0 ++ shL []))
    rw [show shL [] = [] by rw [shL], List.append_nil, List.length_cons, Nat.add_comm (shD m0).length 1]
    exact this
  go_loopg [1, 5, 6, 7] ns.length (fun k v1 v5 v6 v7 wr => ∃ done todo, ShowingD B mb n xs (40 :: shD m0) ns en w k v1 v5 v6 v7 wr done todo)
  case atStart =>
    refine ⟨[], ns, rfl, rfl, HF2.out, HO2'.out, hb02, ?_⟩
    rcases HPM.out with ⟨h1, h2, h3⟩ | ⟨b, h1, h2, h3, h4⟩
    · exact Or.inl ⟨h1, h2, by rw [h3]⟩
    · exact Or.inr ⟨b, h1, h2, by rw [h3], h4⟩
  case round =>
    obtain ⟨done, todo, hS⟩ := hrel
    have hdl : (shL done).length + (shL todo).length = (shL ns).length := by rw [hS.parts, shL_app, List.length_append]
    clear HF2 HO2 HO2' HPM HN HK HG HO HO1 sh hent
    rcases hS.more with ⟨rfl, rfl, rfl⟩ | ⟨b, rfl, rfl, rfl, hne⟩
    · obtain ⟨hp, hk, hrep, hown, hbel, _⟩ := hS
      rw [List.append_nil] at hp
      subst hp
      obtain rfl : u5 = aV en := hrep.atom_inv
      generalize hX : 40 :: shD m0 ++ shL ns = X at hown
      have hXL : X.length ≤ 1 + (shD m0).length + (shL ns).length := by rw [← hX]; simp; omega
      have hBr : B ≤ wr.heap.size := Nat.le_trans hB hbel.size
      have hA0 : Below B wr (wr.alloc (.cells #[] 146)) := (Below.refl B wr).alloc hBr _
      by_cases hem : en = .empty
      · subst hem
        have hit := fun w => ta_hit146 (.agg #[]) w
        obtain ⟨oA, hBA2, hbA⟩ := own_byte B (n + X.length) u1 (xs ++ Lib.byteCells X) (wr.alloc (.cells #[] 146)) 41 (hown.alloc _) (by simp; omega)
        have HG2 : Hid (∀ w' v', ((wr.alloc (.cells #[] 146)).alloc (.cells #[.int .u8 41] 5)).grownBy w' u1.ownBlock → w'.ownsRow B 5 1 v' (n + X.length + 1) (xs ++ Lib.byteCells X ++ [.int .u8 41]) → AppR B n xs (40 :: (shD m0 ++ (shL ns ++ shE .empty))) w (.returned v') w') := fun w' v' hg ho' => by
          refine ⟨v', rfl, ?_, hbel.trans (hA0.trans (hbA.trans (own_grown (w' := w') oA hBA2 hg)))⟩
          have e1 : 40 :: (shD m0 ++ (shL ns ++ shE .empty)) = X ++ [41] := by rw [← hX]; simp [shE]
          rw [e1, Lib.byteCells_append, List.length_append, ← List.append_assoc, ← Nat.add_assoc]
          exact ho'
        have HOA : Hid (((wr.alloc (.cells #[] 146)).alloc (.cells #[.int .u8 (41 : UInt8).toNat] 5)).ownsRow B 5 1 u1 (n + X.length) (xs ++ Lib.byteCells X)) := oA
        obtain ⟨a3, k3, c3, rfl⟩ := owns_slice hown
        clear hrep hown hX oA hbA hA0
        simp only [aV]
        go_wp2_with (at_builtin; refine wpList_append_own_at _ rfl _ _ 58 rfl B 5 i0 (.int .u8 0) 1 1 Tryz.underlying58 hi hz0 hz1 hz2 rfl (by decide) (.slice a3 k3 c3) (n + X.length) (xs ++ Lib.byteCells X) rfl ?ia1 ⟨wr.heap.size + 1, 0, none⟩ 1 1 [.int .u8 41] rfl rfl ?ia2 ?ia3 ?ia4 ?ia5 ?ia6 ?_)
        case ia1 => exact HOA.out
        case ia3 => rfl
        case ia4 => unfold maxLen; omega
        case ia5 => omega
        case ia6 => first | omega | (simp; omega)
        intro v9 w9 ho9 hg9 _ _
        rw [← List.append_assoc] at ho9
        have HF := (show Hid _ from HG2.out _ _ hg9 ho9)
        obtain ⟨a9, k9, c9, rfl⟩ := owns_slice ho9
        clear ho9 hg9
        go_wp2
        go_ret
        exact HF.out
      · obtain ⟨te, xe, hae⟩ := aV_iface en
        have hte : te ≠ 146 := by cases en <;> cases hae <;> first | decide | exact absurd rfl hem
        have hmiss := fun w => ta_miss146 te xe w hte
        obtain ⟨fn3, r3, sh3, hent3, hfn3⟩ := shows_atom B wr en hen te xe hae
        have hEL : shE en = [32, 46, 32] ++ (shA en ++ [41]) := by cases en <;> first | rfl | exact absurd rfl hem
        have hEL2 : (shE en).length = 3 + (shA en).length + 1 := by rw [hEL]; simp; omega
        have oW := hown.alloc (.cells #[] 146)
        have HOW : Hid ((wr.alloc (.cells #[] 146)).ownsRow B 5 1 u1 (n + X.length) (xs ++ Lib.byteCells X)) := oW
        have HGW : Hid (∀ w', (wr.alloc (.cells #[] 146)).grownBy w' u1.ownBlock → Below B wr w') := fun w' hg => hA0.trans (own_grown (w' := w') oW (by simp; omega) hg)
        have HN3 : Hid (∀ W sv', W.ownsRow B 5 1 sv' (n + X.length + 3) (xs ++ Lib.byteCells X ++ Lib.byteCells [32, 46, 32]) → Below B wr W → Calls Tryz.prog fn3 #[r3, sv'] W (AppR B (n + X.length + 3) (xs ++ Lib.byteCells X ++ Lib.byteCells [32, 46, 32]) (shA en) W)) := fun W sv' h hb => hfn3 W (n + X.length + 3) sv' _ hb h (Nat.le_trans hBr hb.size) ((htab.on hbel).on hb) (by omega)
        have HFIN : Hid (∀ w' v', Below B wr w' → w'.ownsRow B 5 1 v' (n + X.length + 3 + (shA en).length + 1) (xs ++ Lib.byteCells X ++ Lib.byteCells [32, 46, 32] ++ Lib.byteCells (shA en) ++ [.int .u8 41]) → AppR B n xs (40 :: (shD m0 ++ (shL ns ++ shE en))) w (.returned v') w') := fun w' v' hb ho' => by
          refine ⟨v', rfl, ?_, hbel.trans hb⟩
          have e1 : 40 :: (shD m0 ++ (shL ns ++ shE en)) = X ++ ([32, 46, 32] ++ (shA en ++ [41])) := by rw [← hX, hEL]; simp
          have e2 : n + (40 :: (shD m0 ++ (shL ns ++ shE en))).length = n + X.length + 3 + (shA en).length + 1 := by rw [e1]; simp; omega
          rw [e2, e1, Lib.byteCells_append, Lib.byteCells_append, Lib.byteCells_append, ← List.append_assoc, ← List.append_assoc, ← List.append_assoc]
          exact ho'
        obtain ⟨a3, k3, c3, rfl⟩ := owns_slice hown
        have hla : n + X.length + 3 + (shA en).length + 1 + 17 ≤ 1000000 := by omega
        rw [hae] at hrep ⊢
        clear hrep hown hX hA0 oW hfn3 hEL hEL2 hae HSD
        go_wp2_with (at_builtin; refine Lib.wpList_append_own_string _ rfl _ _ 58 9 rfl B 5 i0 Tryz.underlying58 Tryz.underlying9 hi hz0 hz1 hz2 (.slice a3 k3 c3) (n + X.length) (xs ++ Lib.byteCells X) rfl HOW.out ⟨#[32, 46, 32]⟩ rfl ?ka3 ?ka4 ?ka5 ?_)
        case ka3 => first | omega | (unfold maxLen; omega) | (unfold maxLen; show n + X.length + 3 ≤ _; omega)
        case ka4 => first | omega | (show n + X.length + 3 ≤ _; omega)
        case ka5 => first | omega | (simp; omega)
        intro v5' w5 ho5 hg5 _
        have hb5 := HGW.out _ hg5
        rw [← List.append_assoc] at ho5
        have HO5 : Hid (w5.ownsRow B 5 1 v5' (n + X.length + 3) (xs ++ Lib.byteCells X ++ Lib.byteCells [32, 46, 32])) := ho5
        obtain ⟨a5, k5, c5, rfl⟩ := owns_slice ho5
        clear ho5 hg5
        go_wp2_with fail
        refine (HN3.out _ _ HO5.out hb5).mono ?_
        rintro e6 w6 ⟨v6, rfl, ho6, hb6⟩
        have hb56 := hb5.trans hb6
        have hB6 : B ≤ w6.heap.size := Nat.le_trans hBr hb56.size
        obtain ⟨oA6, hBA6, hbA6⟩ := own_byte B _ v6 _ w6 41 ho6 hB6
        have HOA6 : Hid ((w6.alloc (.cells #[.int .u8 (41 : UInt8).toNat] 5)).ownsRow B 5 1 v6 (n + X.length + 3 + (shA en).length) (xs ++ Lib.byteCells X ++ Lib.byteCells [32, 46, 32] ++ Lib.byteCells (shA en))) := oA6
        have HG6 : Hid (∀ w', (w6.alloc (.cells #[.int .u8 41] 5)).grownBy w' v6.ownBlock → Below B wr w') := fun w' hg => hb56.trans (hbA6.trans (own_grown (w' := w') oA6 hBA6 hg))
        obtain ⟨a6, k6, c6, rfl⟩ := owns_slice ho6
        clear ho6 oA6 hbA6
        go_wp2_with (at_builtin; refine wpList_append_own_at _ rfl _ _ 58 rfl B 5 i0 (.int .u8 0) 1 1 Tryz.underlying58 hi hz0 hz1 hz2 rfl (by decide) (.slice a6 k6 c6) (n + X.length + 3 + (shA en).length) (xs ++ Lib.byteCells X ++ Lib.byteCells [32, 46, 32] ++ Lib.byteCells (shA en)) rfl ?la1 ⟨w6.heap.size, 0, none⟩ 1 1 [.int .u8 41] rfl rfl ?la2 ?la3 ?la4 ?la5 ?la6 ?_)
        case la1 => exact HOA6.out
        case la2 => exact cell_one_new _ _ _
        case la3 => intro u hu; simp at hu; subst hu; rfl
        case la4 => first | omega | (unfold maxLen; omega)
        case la5 => omega
        case la6 => first | exact hBA6 | omega | (simp; omega)
        intro v9 w9 ho9 hg9 _ _
        simp only [← List.append_assoc] at ho9
        have HF : Hid (AppR B n xs (40 :: (shD m0 ++ (shL ns ++ shE en))) w (.returned v9) w9) := HFIN.out _ _ (HG6.out _ hg9) ho9
        obtain ⟨a9, k9, c9, rfl⟩ := owns_slice ho9
        clear ho9 hg9
        go_wp2
        go_ret
        exact HF.out
    · obtain ⟨m, todo, rfl⟩ : ∃ m t, todo = m :: t := by
        cases todo with
        | nil => exact absurd rfl hne
        | cons m t => exact ⟨m, t, rfl⟩
      obtain ⟨hp, hk, hrep, hown, hbel, _⟩ := hS
      rw [listE_cons] at hrep
      obtain ⟨bb, y, z, T2, e, hbB2, hh, h1, h2⟩ := hrep.pair_inv
      cases e
      obtain ⟨ty2, xy2, rfl⟩ := h1.iface
      obtain ⟨tz2, xz2, rfl⟩ := h2.iface
      have hm : m ∈ m0 :: ns := by rw [hp]; simp
      obtain ⟨fn2, r2, sh2, hent2, hfn2⟩ := HSD.out m hm wr ty2 xy2 hbel h1
      have hml : (shL (m :: todo)).length = 1 + (shD m).length + (shL todo).length := by rw [shL]; simp; omega
      generalize hX : 40 :: shD m0 ++ shL done = X at hown
      have hXL : X.length ≤ 1 + (shD m0).length + (shL done).length := by rw [← hX]; simp; omega
      have hBr : B ≤ wr.heap.size := Nat.le_trans hB hbel.size
      obtain ⟨oA, hBA2, hbA⟩ := own_byte B (n + X.length) u1 (xs ++ Lib.byteCells X) wr 32 hown hBr
      have HOA : Hid ((wr.alloc (.cells #[.int .u8 (32 : UInt8).toNat] 5)).ownsRow B 5 1 u1 (n + X.length) (xs ++ Lib.byteCells X)) := oA
      have HG2 := (show Hid _ from fun (w' : World) hg => hbA.trans (own_grown (w' := w') oA hBA2 hg))
      have HK2 : Hid (∀ W, Below B wr W → W.cell? ⟨b, 0, none⟩ = some (.iface ty2 xy2) ∧ W.cell? ⟨b, 1, none⟩ = some (.iface tz2 xz2) ∧ RepM mb (· < B) W (.iface tz2 xz2) (.val (listE (.atom en) (todo.map valD)))) := fun W hb => by
        have hat : W.heap[b]? = some (.cells #[.iface ty2 xy2, .iface tz2 xz2] T2 (0, 0)) := (hb.block b hbB2).trans hh
        exact ⟨cell_of_at hat 0, cell_of_at hat 1, h2.mono (below_keeps hb)⟩
      have HN2 : Hid (∀ W sv', W.ownsRow B 5 1 sv' (n + X.length + 1) (xs ++ Lib.byteCells X ++ [.int .u8 32]) → Below B wr W → Calls Tryz.prog fn2 #[r2, sv'] W (AppR B (n + X.length + 1) (xs ++ Lib.byteCells X ++ [.int .u8 32]) (shD m) W)) := fun W sv' h hb => hfn2 W (n + X.length + 1) sv' _ hb h (Nat.le_trans hBr hb.size) ((htab.on hbel).on hb) (by omega)
      obtain ⟨P2, M2, hta2, hPM2⟩ := tail_assertD h2
      have HPM2 := (show Hid _ from hPM2)
      have HR : Hid (∀ W v, Below B wr W → W.ownsRow B 5 1 v (n + X.length + 1 + (shD m).length) (xs ++ Lib.byteCells X ++ [.int .u8 32] ++ Lib.byteCells (shD m)) → ∃ d t, ShowingD B mb n xs (40 :: shD m0) ns en w todo.length v (.iface tz2 xz2) P2 (.bool M2) W d t) := fun W v hb ho' => by
        refine ⟨done ++ [m], todo, by rw [hp]; simp, rfl, (HK2.out W hb).2.2, ?_, hbel.trans hb, ?_⟩
        · have e1 : 40 :: shD m0 ++ shL (done ++ [m]) = X ++ ([32] ++ shD m) := by rw [shL_snoc, ← hX]; simp
          rw [e1, Lib.byteCells_append, Lib.byteCells_append, List.length_append, List.length_append, ← List.append_assoc, ← List.append_assoc, ← Nat.add_assoc, ← Nat.add_assoc]
          exact ho'
        · rcases HPM2.out with ⟨e1, e2, e3⟩ | ⟨b, e1, e2, e3, e4⟩
          · exact Or.inl ⟨e1, e2, by rw [e3]⟩
          · exact Or.inr ⟨b, e1, e2, by rw [e3], e4⟩
      obtain ⟨a3, k3, c3, rfl⟩ := owns_slice hown
      have hkk : todo.length < gk := by rw [hk]; simp
      clear hrep hown hX oA hbA hPM2 h1 h2 hh hne hp hk hfn2
      unfold ptrV
      go_wp2_with (at_builtin; refine wpList_append_own_at _ rfl _ _ 58 rfl B 5 i0 (.int .u8 0) 1 1 Tryz.underlying58 hi hz0 hz1 hz2 rfl (by decide) (.slice a3 k3 c3) (n + X.length) (xs ++ Lib.byteCells X) rfl ?ja1 ⟨wr.heap.size, 0, none⟩ 1 1 [.int .u8 32] rfl rfl ?ja2 ?ja3 ?ja4 ?ja5 ?ja6 ?_)
      case ja1 => exact HOA.out
      case ja3 => rfl
      case ja4 => unfold maxLen; omega
      case ja5 => omega
      case ja6 => first | omega | (simp; omega)
      intro v9 w9 ho9 hg9 _ _
      rw [← List.append_assoc] at ho9
      have hb9 := HG2.out _ hg9
      have HO9 : Hid (w9.ownsRow B 5 1 v9 (n + X.length + 1) (xs ++ Lib.byteCells X ++ [.int .u8 32])) := ho9
      obtain ⟨a9, k9, c9, rfl⟩ := owns_slice ho9
      obtain ⟨d0, d1, _⟩ := HK2.out _ hb9
      clear ho9 hg9
      go_wp2_with fail
      refine (HN2.out _ _ HO9.out hb9).mono ?_
      rintro e8 w8 ⟨v8, rfl, ho8, hb8⟩
      have hb98 := hb9.trans hb8
      have HR8 : Hid (∃ d t, ShowingD B mb n xs (40 :: shD m0) ns en w todo.length v8 (.iface tz2 xz2) P2 (.bool M2) w8 d t) := HR.out _ _ hb98 ho8
      obtain ⟨a8, k8, c8, rfl⟩ := owns_slice ho8
      clear ho8
      obtain ⟨f0', f1', _⟩ := HK2.out _ hb98
      go_wp2_with fail
      go_roundg todo.length
      case measure => exact hkk
      case rel => exact HR8.out

/-- Any datum's value shows itself as its text. -/
theorem shows_all (B mb : Nat) : ∀ (k : Nat) (d : Rd.D) (w : World) (t : TypeId) (x : Value), szD d ≤ k → okD d → RepM mb (· < B) w (.iface t x) (.val (valD d)) → ShowsZ B w t x (shD d) := by
  intro k
  induction k with
  | zero => intro d w t x h; have := szD_pos d; omega
  | succ k ih =>
    intro d w t x hk hok hx
    obtain ⟨p, ds, en⟩ := d
    rw [szD] at hk
    rw [okD] at hok
    rw [valD, valL_map] at hx
    rw [shD]
    cases ds with
    | nil =>
      rw [shP]
      exact shows_atom B w en hok.1 t x hx.atom_inv.symm
    | cons d0 ds =>
      rw [shP]
      have hx0 := hx
      rw [listE_cons] at hx
      obtain ⟨b, y, z, T, e, _⟩ := hx.pair_inv
      cases e
      refine ⟨207, ptrV b, fun w => shown124 b w, enter207, fun W n sv xs hb ho hB ht hl => ?_⟩
      exact app_pairD B mb n b d0 ds en hok.1 sv xs W ho hB hl ht (fun d hd W' t x _ hr => ih d W' t x (by have := szL_mem _ d hd; omega) (okL_mem _ hok.2 d hd) hr) (hx0.mono (below_keeps hb))
end Go.Proofs.YtodeeegbajgafaaGreatDoor

namespace Go.Proofs.YtodeeegbajgafaaGreatDoor
open Go.RowKit
open Mc

/-- Where the loop of a pair's AppendShown stands. -/
structure ShowingF (B n : Nat) (xs : List Value) (txt : List UInt8) (ns : List Rd.D) (en : Rd.A) (w : World) (k : Nat) (v1 v5 v6 v7 : Value) (wr : World) (done todo : List Rd.D) : Prop where
  parts : ns = done ++ todo
  count : k = todo.length
  rep : RepV wr v5 ((listE (.atom en) (todo.map valD)))
  own : wr.ownsRow B 5 1 v1 (n + (txt ++ shL done).length) (xs ++ Lib.byteCells (txt ++ shL done))
  below : Fr B w wr
  more : (todo = [] ∧ v6 = .pointer none ∧ v7 = .bool false) ∨ ∃ b, v5 = .iface 124 (ptrV b) ∧ v6 = ptrV b ∧ v7 = .bool true ∧ todo ≠ []
theorem tail_assertF {w : World} {t : TypeId} {x : Value} {en : Rd.A} {ns : List Rd.D} (h : RepV w (.iface t x) ((listE (.atom en) (ns.map valD)))) :
    ∃ P M, (∀ w, (Instr.typeAssert (.iface t x) 60 124 true).run Tryz.prog w = .ok (.tuple #[P, .bool M]) w) ∧ ((ns = [] ∧ P = .pointer none ∧ M = false) ∨ ∃ b, Value.iface t x = .iface 124 (ptrV b) ∧ P = ptrV b ∧ M = true ∧ ns ≠ []) := by
  cases ns with
  | nil =>
    have e := h.atom_inv
    cases en <;> cases e
    · exact ⟨_, _, fun w => ta_miss124 147 _ w (by decide), Or.inl ⟨rfl, rfl, rfl⟩⟩
    · exact ⟨_, _, fun w => ta_miss124 150 _ w (by decide), Or.inl ⟨rfl, rfl, rfl⟩⟩
    · exact ⟨_, _, fun w => ta_miss124 115 _ w (by decide), Or.inl ⟨rfl, rfl, rfl⟩⟩
    · exact ⟨_, _, fun w => ta_miss124 146 (.agg #[]) w (by decide), Or.inl ⟨rfl, rfl, rfl⟩⟩
  | cons m ns =>
    rw [listE_cons] at h
    obtain ⟨b, y, z, e, _⟩ := h.pair_inv
    cases e
    exact ⟨_, _, fun w => ta_hit124 (ptrV b) w, Or.inr ⟨b, rfl, rfl, rfl, by simp⟩⟩
set_option maxHeartbeats 8000000 in
set_option maxRecDepth 20000 in
theorem app_pairF (B n b : Nat) (m0 : Rd.D) (ns : List Rd.D) (en : Rd.A) (hen : okA en) (sv : Value) (xs : List Value) (w : World) (ho : w.ownsRow B 5 1 sv n xs) (hB : B ≤ w.heap.size) (hl : n + (40 :: (shD m0 ++ (shL ns ++ shE en))).length + 21 ≤ 1000000) (htab : Tab B w)
    (HS0 : ∀ d ∈ m0 :: ns, ∀ W t x, Fr B w W → RepV W (.iface t x) ((valD d)) → ShowsF B W t x (shD d))
    (hx : RepV w (.iface 124 (ptrV b)) ((listE (.atom en) ((m0 :: ns).map valD)))) :
    Calls Tryz.prog 207 #[ptrV b, sv] w (AppO B n xs (40 :: (shD m0 ++ (shL ns ++ shE en))) w) := by
  obtain ⟨i0, hi, hz0, hz1, hz2⟩ := info_parts Tryz.info5
  have hlen : n + 1 + (shD m0).length + (shL ns).length + (shE en).length + 21 ≤ 1000000 := by simp only [List.length_cons, List.length_append] at hl; omega
  clear hl
  rw [listE_cons] at hx
  obtain ⟨bb, y, z, hbb, hh, h1, h2⟩ := hx.pair_inv
  cases hbb
  obtain ⟨ty, xy, rfl⟩ := h1.iface
  obtain ⟨tz, xz, rfl⟩ := h2.iface
  obtain ⟨q0, q1, _, _⟩ := cells2 hh
  obtain ⟨oA, hBA, hbA⟩ := own_byteF B n sv xs w 40 ho hB
  have HO : Hid ((w.alloc (.cells #[.int .u8 (40 : UInt8).toNat] 5)).ownsRow B 5 1 sv n xs) := oA
  obtain ⟨fn, r, sh, hent, hfn⟩ := HS0 m0 (List.mem_cons_self ..) w ty xy (Fr.refl B w) h1
  have HSD : Hid (∀ d ∈ m0 :: ns, ∀ W t x, Fr B w W → RepV W (.iface t x) ((valD d)) → ShowsF B W t x (shD d)) := HS0
  clear HS0
  obtain ⟨a, k, c, rfl⟩ := owns_slice ho
  have HN : Hid (∀ W sv', W.ownsRow B 5 1 sv' (n + 1) (xs ++ Lib.byteCells [40]) → Fr B w W → Calls Tryz.prog fn #[r, sv'] W (AppO B (n + 1) (xs ++ Lib.byteCells [40]) (shD m0) W)) := fun W sv' h hb => hfn W (n + 1) sv' _ hb h (Nat.le_trans hB hb.size) (htab.on hb.below) (by omega)
  have HG := (show Hid _ from fun (w' : World) hg => hbA.trans (own_grownF (w' := w') oA hBA hg))
  have HK : Hid (∀ W, Fr B w W → W.cell? ⟨b, 0, none⟩ = some (.iface ty xy) ∧ W.cell? ⟨b, 1, none⟩ = some (.iface tz xz) ∧ RepV W (.iface tz xz) ((listE (.atom en) (ns.map valD)))) := fun W hb => by
    have hat : W.heap[b]? = some (.cells #[.iface ty xy, .iface tz xz] 126 (0, 0)) := hb.others b _ hh (by simp) (fun c fz e => by cases e)
    exact ⟨cell_of_at hat 0, cell_of_at hat 1, h2.fr hb⟩
  obtain ⟨P, M, hta, hPM⟩ := tail_assertF h2
  have HPM := (show Hid _ from hPM)
  clear ho oA hx hh h1 h2 hbA hPM hfn
  unfold ptrV
  go_enter Tryz.func207, Tryz.ntmps207
  go_wp2_with (at_builtin; refine wpList_append_own_at _ rfl _ _ 58 rfl B 5 i0 (.int .u8 0) 1 1 Tryz.underlying58 hi hz0 hz1 hz2 rfl (by decide) (.slice a k c) n xs rfl ?h1 ⟨w.heap.size, 0, none⟩ 1 1 [.int .u8 40] rfl rfl ?h2 ?h3 ?h4 ?h5 ?h6 ?_)
  case h1 => exact HO.out
  case h2 => exact cell_one_new _ _ _
  case h3 => intro u hu; simp at hu; subst hu; rfl
  case h4 => unfold maxLen; omega
  case h5 => omega
  case h6 => exact hBA
  intro v1 w1 ho1 hg1 _ _
  have hb1 := HG.out _ hg1
  have HO1 : Hid (w1.ownsRow B 5 1 v1 (n + 1) (xs ++ Lib.byteCells [40])) := ho1
  obtain ⟨a1, k1, c1, rfl⟩ := owns_slice ho1
  obtain ⟨e0, e1, _⟩ := HK.out _ hb1
  clear ho1 hg1
  go_wp2_with fail
  refine (HN.out _ _ HO1.out hb1).mono ?_
  rintro e2 w2 ⟨v2, rfl, ho2, hb2⟩
  have HO2 : Hid (w2.ownsRow B 5 1 v2 (n + 1 + (shD m0).length) (xs ++ Lib.byteCells [40] ++ Lib.byteCells (shD m0))) := ho2
  obtain ⟨a2, k2, c2, rfl⟩ := owns_slice ho2
  clear ho2
  have hb02 := hb1.trans hb2
  obtain ⟨f0, f1, f2⟩ := HK.out _ hb02
  have HF2 : Hid (RepV w2 (.iface tz xz) ((listE (.atom en) (ns.map valD)))) := f2
  clear f2
  go_wp2_with fail
  have HO2' : Hid (w2.ownsRow B 5 1 (.slice a2 k2 c2) (n + (40 :: shD m0 ++ shL []).length) (xs ++ Lib.byteCells (40 :: shD m0 ++ shL []))) := by
    have := HO2.out
    rw [List.append_assoc, ← Lib.byteCells_append, Nat.add_assoc] at this
    show w2.ownsRow B 5 1 (.slice a2 k2 c2) (n + (40 :: shD m0 ++ shL []).length) (xs ++ Lib.byteCells (40 :: shD m0 ++ shL []))
    rw [show shL [] = [] by rw [shL], List.append_nil, List.length_cons, Nat.add_comm (shD m0).length 1]
    exact this
  go_loopg [1, 5, 6, 7] ns.length (fun k v1 v5 v6 v7 wr => ∃ done todo, ShowingF B n xs (40 :: shD m0) ns en w k v1 v5 v6 v7 wr done todo)
  case atStart =>
    refine ⟨[], ns, rfl, rfl, HF2.out, HO2'.out, hb02, ?_⟩
    rcases HPM.out with ⟨h1, h2, h3⟩ | ⟨b, h1, h2, h3, h4⟩
    · exact Or.inl ⟨h1, h2, by rw [h3]⟩
    · exact Or.inr ⟨b, h1, h2, by rw [h3], h4⟩
  case round =>
    obtain ⟨done, todo, hS⟩ := hrel
    have hdl : (shL done).length + (shL todo).length = (shL ns).length := by rw [hS.parts, shL_app, List.length_append]
    clear HF2 HO2 HO2' HPM HN HK HG HO HO1 sh hent
    rcases hS.more with ⟨rfl, rfl, rfl⟩ | ⟨b, rfl, rfl, rfl, hne⟩
    · obtain ⟨hp, hk, hrep, hown, hbel, _⟩ := hS
      rw [List.append_nil] at hp
      subst hp
      obtain rfl : u5 = aV en := hrep.atom_inv
      generalize hX : 40 :: shD m0 ++ shL ns = X at hown
      have hXL : X.length ≤ 1 + (shD m0).length + (shL ns).length := by rw [← hX]; simp; omega
      have hBr : B ≤ wr.heap.size := Nat.le_trans hB hbel.size
      have hA0 : Fr B wr (wr.alloc (.cells #[] 146)) := (Fr.refl B wr).alloc hBr _
      by_cases hem : en = .empty
      · subst hem
        have hit := fun w => ta_hit146 (.agg #[]) w
        obtain ⟨oA, hBA2, hbA⟩ := own_byteF B (n + X.length) u1 (xs ++ Lib.byteCells X) (wr.alloc (.cells #[] 146)) 41 (hown.alloc _) (by simp; omega)
        have HG2 : Hid (∀ w' v', ((wr.alloc (.cells #[] 146)).alloc (.cells #[.int .u8 41] 5)).grownBy w' u1.ownBlock → w'.ownsRow B 5 1 v' (n + X.length + 1) (xs ++ Lib.byteCells X ++ [.int .u8 41]) → AppO B n xs (40 :: (shD m0 ++ (shL ns ++ shE .empty))) w (.returned v') w') := fun w' v' hg ho' => by
          refine ⟨v', rfl, ?_, hbel.trans (hA0.trans (hbA.trans (own_grownF (w' := w') oA hBA2 hg)))⟩
          have e1 : 40 :: (shD m0 ++ (shL ns ++ shE .empty)) = X ++ [41] := by rw [← hX]; simp [shE]
          rw [e1, Lib.byteCells_append, List.length_append, ← List.append_assoc, ← Nat.add_assoc]
          exact ho'
        have HOA : Hid (((wr.alloc (.cells #[] 146)).alloc (.cells #[.int .u8 (41 : UInt8).toNat] 5)).ownsRow B 5 1 u1 (n + X.length) (xs ++ Lib.byteCells X)) := oA
        obtain ⟨a3, k3, c3, rfl⟩ := owns_slice hown
        clear hrep hown hX oA hbA hA0
        simp only [aV]
        go_wp2_with (at_builtin; refine wpList_append_own_at _ rfl _ _ 58 rfl B 5 i0 (.int .u8 0) 1 1 Tryz.underlying58 hi hz0 hz1 hz2 rfl (by decide) (.slice a3 k3 c3) (n + X.length) (xs ++ Lib.byteCells X) rfl ?ia1 ⟨wr.heap.size + 1, 0, none⟩ 1 1 [.int .u8 41] rfl rfl ?ia2 ?ia3 ?ia4 ?ia5 ?ia6 ?_)
        case ia1 => exact HOA.out
        case ia3 => rfl
        case ia4 => unfold maxLen; omega
        case ia5 => omega
        case ia6 => first | omega | (simp; omega)
        intro v9 w9 ho9 hg9 _ _
        rw [← List.append_assoc] at ho9
        have HF := (show Hid _ from HG2.out _ _ hg9 ho9)
        obtain ⟨a9, k9, c9, rfl⟩ := owns_slice ho9
        clear ho9 hg9
        go_wp2
        go_ret
        exact HF.out
      · obtain ⟨te, xe, hae⟩ := aV_iface en
        have hte : te ≠ 146 := by cases en <;> cases hae <;> first | decide | exact absurd rfl hem
        have hmiss := fun w => ta_miss146 te xe w hte
        obtain ⟨fn3, r3, sh3, hent3, hfn3⟩ := shows_atomF B wr en hen te xe hae
        have hEL : shE en = [32, 46, 32] ++ (shA en ++ [41]) := by cases en <;> first | rfl | exact absurd rfl hem
        have hEL2 : (shE en).length = 3 + (shA en).length + 1 := by rw [hEL]; simp; omega
        have oW := hown.alloc (.cells #[] 146)
        have HOW : Hid ((wr.alloc (.cells #[] 146)).ownsRow B 5 1 u1 (n + X.length) (xs ++ Lib.byteCells X)) := oW
        have HGW : Hid (∀ w', (wr.alloc (.cells #[] 146)).grownBy w' u1.ownBlock → Fr B wr w') := fun w' hg => hA0.trans (own_grownF (w' := w') oW (by simp; omega) hg)
        have HN3 : Hid (∀ W sv', W.ownsRow B 5 1 sv' (n + X.length + 3) (xs ++ Lib.byteCells X ++ Lib.byteCells [32, 46, 32]) → Fr B wr W → Calls Tryz.prog fn3 #[r3, sv'] W (AppO B (n + X.length + 3) (xs ++ Lib.byteCells X ++ Lib.byteCells [32, 46, 32]) (shA en) W)) := fun W sv' h hb => hfn3 W (n + X.length + 3) sv' _ hb h (Nat.le_trans hBr hb.size) ((htab.on hbel.below).on hb.below) (by omega)
        have HFIN : Hid (∀ w' v', Fr B wr w' → w'.ownsRow B 5 1 v' (n + X.length + 3 + (shA en).length + 1) (xs ++ Lib.byteCells X ++ Lib.byteCells [32, 46, 32] ++ Lib.byteCells (shA en) ++ [.int .u8 41]) → AppO B n xs (40 :: (shD m0 ++ (shL ns ++ shE en))) w (.returned v') w') := fun w' v' hb ho' => by
          refine ⟨v', rfl, ?_, hbel.trans hb⟩
          have e1 : 40 :: (shD m0 ++ (shL ns ++ shE en)) = X ++ ([32, 46, 32] ++ (shA en ++ [41])) := by rw [← hX, hEL]; simp
          have e2 : n + (40 :: (shD m0 ++ (shL ns ++ shE en))).length = n + X.length + 3 + (shA en).length + 1 := by rw [e1]; simp; omega
          rw [e2, e1, Lib.byteCells_append, Lib.byteCells_append, Lib.byteCells_append, ← List.append_assoc, ← List.append_assoc, ← List.append_assoc]
          exact ho'
        obtain ⟨a3, k3, c3, rfl⟩ := owns_slice hown
        have hla : n + X.length + 3 + (shA en).length + 1 + 17 ≤ 1000000 := by omega
        rw [hae] at hrep ⊢
        clear hrep hown hX hA0 oW hfn3 hEL hEL2 hae HSD
        go_wp2_with (at_builtin; refine Lib.wpList_append_own_string _ rfl _ _ 58 9 rfl B 5 i0 Tryz.underlying58 Tryz.underlying9 hi hz0 hz1 hz2 (.slice a3 k3 c3) (n + X.length) (xs ++ Lib.byteCells X) rfl HOW.out ⟨#[32, 46, 32]⟩ rfl ?ka3 ?ka4 ?ka5 ?_)
        case ka3 => first | omega | (unfold maxLen; omega) | (unfold maxLen; show n + X.length + 3 ≤ _; omega)
        case ka4 => first | omega | (show n + X.length + 3 ≤ _; omega)
        case ka5 => first | omega | (simp; omega)
        intro v5' w5 ho5 hg5 _
        have hb5 := HGW.out _ hg5
        rw [← List.append_assoc] at ho5
        have HO5 : Hid (w5.ownsRow B 5 1 v5' (n + X.length + 3) (xs ++ Lib.byteCells X ++ Lib.byteCells [32, 46, 32])) := ho5
        obtain ⟨a5, k5, c5, rfl⟩ := owns_slice ho5
        clear ho5 hg5
        go_wp2_with fail
        refine (HN3.out _ _ HO5.out hb5).mono ?_
        rintro e6 w6 ⟨v6, rfl, ho6, hb6⟩
        have hb56 := hb5.trans hb6
        have hB6 : B ≤ w6.heap.size := Nat.le_trans hBr hb56.size
        obtain ⟨oA6, hBA6, hbA6⟩ := own_byteF B _ v6 _ w6 41 ho6 hB6
        have HOA6 : Hid ((w6.alloc (.cells #[.int .u8 (41 : UInt8).toNat] 5)).ownsRow B 5 1 v6 (n + X.length + 3 + (shA en).length) (xs ++ Lib.byteCells X ++ Lib.byteCells [32, 46, 32] ++ Lib.byteCells (shA en))) := oA6
        have HG6 : Hid (∀ w', (w6.alloc (.cells #[.int .u8 41] 5)).grownBy w' v6.ownBlock → Fr B wr w') := fun w' hg => hb56.trans (hbA6.trans (own_grownF (w' := w') oA6 hBA6 hg))
        obtain ⟨a6, k6, c6, rfl⟩ := owns_slice ho6
        clear ho6 oA6 hbA6
        go_wp2_with (at_builtin; refine wpList_append_own_at _ rfl _ _ 58 rfl B 5 i0 (.int .u8 0) 1 1 Tryz.underlying58 hi hz0 hz1 hz2 rfl (by decide) (.slice a6 k6 c6) (n + X.length + 3 + (shA en).length) (xs ++ Lib.byteCells X ++ Lib.byteCells [32, 46, 32] ++ Lib.byteCells (shA en)) rfl ?la1 ⟨w6.heap.size, 0, none⟩ 1 1 [.int .u8 41] rfl rfl ?la2 ?la3 ?la4 ?la5 ?la6 ?_)
        case la1 => exact HOA6.out
        case la2 => exact cell_one_new _ _ _
        case la3 => intro u hu; simp at hu; subst hu; rfl
        case la4 => first | omega | (unfold maxLen; omega)
        case la5 => omega
        case la6 => first | exact hBA6 | omega | (simp; omega)
        intro v9 w9 ho9 hg9 _ _
        simp only [← List.append_assoc] at ho9
        have HF : Hid (AppO B n xs (40 :: (shD m0 ++ (shL ns ++ shE en))) w (.returned v9) w9) := HFIN.out _ _ (HG6.out _ hg9) ho9
        obtain ⟨a9, k9, c9, rfl⟩ := owns_slice ho9
        clear ho9 hg9
        go_wp2
        go_ret
        exact HF.out
    · obtain ⟨m, todo, rfl⟩ : ∃ m t, todo = m :: t := by
        cases todo with
        | nil => exact absurd rfl hne
        | cons m t => exact ⟨m, t, rfl⟩
      obtain ⟨hp, hk, hrep, hown, hbel, _⟩ := hS
      rw [listE_cons] at hrep
      obtain ⟨bb, y, z, e, hh, h1, h2⟩ := hrep.pair_inv
      cases e
      obtain ⟨ty2, xy2, rfl⟩ := h1.iface
      obtain ⟨tz2, xz2, rfl⟩ := h2.iface
      have hm : m ∈ m0 :: ns := by rw [hp]; simp
      obtain ⟨fn2, r2, sh2, hent2, hfn2⟩ := HSD.out m hm wr ty2 xy2 hbel h1
      have hml : (shL (m :: todo)).length = 1 + (shD m).length + (shL todo).length := by rw [shL]; simp; omega
      generalize hX : 40 :: shD m0 ++ shL done = X at hown
      have hXL : X.length ≤ 1 + (shD m0).length + (shL done).length := by rw [← hX]; simp; omega
      have hBr : B ≤ wr.heap.size := Nat.le_trans hB hbel.size
      obtain ⟨oA, hBA2, hbA⟩ := own_byteF B (n + X.length) u1 (xs ++ Lib.byteCells X) wr 32 hown hBr
      have HOA : Hid ((wr.alloc (.cells #[.int .u8 (32 : UInt8).toNat] 5)).ownsRow B 5 1 u1 (n + X.length) (xs ++ Lib.byteCells X)) := oA
      have HG2 := (show Hid _ from fun (w' : World) hg => hbA.trans (own_grownF (w' := w') oA hBA2 hg))
      have HK2 : Hid (∀ W, Fr B wr W → W.cell? ⟨b, 0, none⟩ = some (.iface ty2 xy2) ∧ W.cell? ⟨b, 1, none⟩ = some (.iface tz2 xz2) ∧ RepV W (.iface tz2 xz2) ((listE (.atom en) (todo.map valD)))) := fun W hb => by
        have hat : W.heap[b]? = some (.cells #[.iface ty2 xy2, .iface tz2 xz2] 126 (0, 0)) := hb.others b _ hh (by simp) (fun c fz e => by cases e)
        exact ⟨cell_of_at hat 0, cell_of_at hat 1, h2.fr hb⟩
      have HN2 : Hid (∀ W sv', W.ownsRow B 5 1 sv' (n + X.length + 1) (xs ++ Lib.byteCells X ++ [.int .u8 32]) → Fr B wr W → Calls Tryz.prog fn2 #[r2, sv'] W (AppO B (n + X.length + 1) (xs ++ Lib.byteCells X ++ [.int .u8 32]) (shD m) W)) := fun W sv' h hb => hfn2 W (n + X.length + 1) sv' _ hb h (Nat.le_trans hBr hb.size) ((htab.on hbel.below).on hb.below) (by omega)
      obtain ⟨P2, M2, hta2, hPM2⟩ := tail_assertF h2
      have HPM2 := (show Hid _ from hPM2)
      have HR : Hid (∀ W v, Fr B wr W → W.ownsRow B 5 1 v (n + X.length + 1 + (shD m).length) (xs ++ Lib.byteCells X ++ [.int .u8 32] ++ Lib.byteCells (shD m)) → ∃ d t, ShowingF B n xs (40 :: shD m0) ns en w todo.length v (.iface tz2 xz2) P2 (.bool M2) W d t) := fun W v hb ho' => by
        refine ⟨done ++ [m], todo, by rw [hp]; simp, rfl, (HK2.out W hb).2.2, ?_, hbel.trans hb, ?_⟩
        · have e1 : 40 :: shD m0 ++ shL (done ++ [m]) = X ++ ([32] ++ shD m) := by rw [shL_snoc, ← hX]; simp
          rw [e1, Lib.byteCells_append, Lib.byteCells_append, List.length_append, List.length_append, ← List.append_assoc, ← List.append_assoc, ← Nat.add_assoc, ← Nat.add_assoc]
          exact ho'
        · rcases HPM2.out with ⟨e1, e2, e3⟩ | ⟨b, e1, e2, e3, e4⟩
          · exact Or.inl ⟨e1, e2, by rw [e3]⟩
          · exact Or.inr ⟨b, e1, e2, by rw [e3], e4⟩
      obtain ⟨a3, k3, c3, rfl⟩ := owns_slice hown
      have hkk : todo.length < gk := by rw [hk]; simp
      clear hrep hown hX oA hbA hPM2 h1 h2 hh hne hp hk hfn2
      unfold ptrV
      go_wp2_with (at_builtin; refine wpList_append_own_at _ rfl _ _ 58 rfl B 5 i0 (.int .u8 0) 1 1 Tryz.underlying58 hi hz0 hz1 hz2 rfl (by decide) (.slice a3 k3 c3) (n + X.length) (xs ++ Lib.byteCells X) rfl ?ja1 ⟨wr.heap.size, 0, none⟩ 1 1 [.int .u8 32] rfl rfl ?ja2 ?ja3 ?ja4 ?ja5 ?ja6 ?_)
      case ja1 => exact HOA.out
      case ja3 => rfl
      case ja4 => unfold maxLen; omega
      case ja5 => omega
      case ja6 => first | omega | (simp; omega)
      intro v9 w9 ho9 hg9 _ _
      rw [← List.append_assoc] at ho9
      have hb9 := HG2.out _ hg9
      have HO9 : Hid (w9.ownsRow B 5 1 v9 (n + X.length + 1) (xs ++ Lib.byteCells X ++ [.int .u8 32])) := ho9
      obtain ⟨a9, k9, c9, rfl⟩ := owns_slice ho9
      obtain ⟨d0, d1, _⟩ := HK2.out _ hb9
      clear ho9 hg9
      go_wp2_with fail
      refine (HN2.out _ _ HO9.out hb9).mono ?_
      rintro e8 w8 ⟨v8, rfl, ho8, hb8⟩
      have hb98 := hb9.trans hb8
      have HR8 : Hid (∃ d t, ShowingF B n xs (40 :: shD m0) ns en w todo.length v8 (.iface tz2 xz2) P2 (.bool M2) w8 d t) := HR.out _ _ hb98 ho8
      obtain ⟨a8, k8, c8, rfl⟩ := owns_slice ho8
      clear ho8
      obtain ⟨f0', f1', _⟩ := HK2.out _ hb98
      go_wp2_with fail
      go_roundg todo.length
      case measure => exact hkk
      case rel => exact HR8.out

/-- Any datum's value shows itself as its text. -/
theorem shows_allF (B : Nat) : ∀ (k : Nat) (d : Rd.D) (w : World) (t : TypeId) (x : Value), szD d ≤ k → okD d → RepV w (.iface t x) ((valD d)) → ShowsF B w t x (shD d) := by
  intro k
  induction k with
  | zero => intro d w t x h; have := szD_pos d; omega
  | succ k ih =>
    intro d w t x hk hok hx
    obtain ⟨p, ds, en⟩ := d
    rw [szD] at hk
    rw [okD] at hok
    rw [valD, valL_map] at hx
    rw [shD]
    cases ds with
    | nil =>
      rw [shP]
      exact shows_atomF B w en hok.1 t x hx.atom_inv.symm
    | cons d0 ds =>
      rw [shP]
      have hx0 := hx
      rw [listE_cons] at hx
      obtain ⟨b, y, z, e, _⟩ := hx.pair_inv
      cases e
      refine ⟨207, ptrV b, fun w => shown124 b w, enter207, fun W n sv xs hb ho hB ht hl => ?_⟩
      exact app_pairF B n b d0 ds en hok.1 sv xs W ho hB hl ht (fun d hd W' t x _ hr => ih d W' t x (by have := szL_mem _ d hd; omega) (okL_mem _ hok.2 d hd) hr) (hx0.fr hb)
end Go.Proofs.YtodeeegbajgafaaGreatDoor
