/- What the reader makes of a word. How data lie in memory. -/
import Derived.Test.YtodeeegbajgafaaGreatDoorQ04
import Derived.Test.YtodeeegbajgafaaGreatDoorQ01
import Derived.Test.YtodeeegbajgafaaGreatDoorQ05
import Derived.Deep.QuietTactic
import Derived.BigQuiet
namespace Go.Proofs.YtodeeegbajgafaaGreatDoor
open Go.RowKit
/-- An atom as an interface value. -/
def aV : Rd.A → Value
  | .num n => .iface 147 (.int .i64 n)
  | .truth b => .iface 150 (.bool b)
  | .sym l => .iface 115 (.string ⟨l.toArray⟩)
  | .empty => .iface 146 (.agg #[])
set_option maxHeartbeats 400000 in
theorem beginsAsNumber_any (s : ByteArray) (w : World) :
    Calls Tryz.prog 154 #[.string s] w fun e w' => e = .returned (.bool (Rd.beginsNum s.data.toList)) ∧ w' = w := by
  unfold Rd.beginsNum
  have hc := fun w => Tryz.strings_TrimPrefix s ⟨#[45]⟩ w
  have e45 : (⟨#[45]⟩ : ByteArray).data.toList = [45] := rfl
  rw [e45] at hc
  have HC := (show Hid _ from hc)
  clear hc e45
  generalize Lib.trimPrefix s.data.toList [45] = t at *
  cases t with
  | nil =>
    go_enter Tryz.func154, Tryz.ntmps154
    go_wp2_with (go_at_call 173; refine (HC.out _).mono ?_; rintro e w' ⟨rfl, rfl⟩)
    go_ret
    exact ⟨by simp, rfl⟩
  | cons b r =>
    have hsz : (⟨(b :: r).toArray⟩ : ByteArray).size = r.length + 1 := by simp [ByteArray.size]
    go_enter Tryz.func154, Tryz.ntmps154
    go_wp2_with (first | (go_at_call 173; refine (HC.out _).mono ?_; rintro e w' ⟨rfl, rfl⟩) | (go_at_call 131; refine (isDigit_any b _).mono ?_; rintro e w' ⟨rfl, rfl⟩))
    go_ret
    exact ⟨by simp, rfl⟩
theorem clone_any (s : ByteArray) (w : World) (hs : s.size ≤ 281474976710656) :
    Calls Tryz.prog 156 #[.string s] w fun e w' => e = .returned (.string s) ∧ Below w.heap.size w w' := by
  go_enter Tryz.func156, Tryz.ntmps156
  go_wp2_with (go_at_call 176; refine (Tryz.stringslite_Clone s _ hs).mono ?_; rintro e w' ⟨rfl, hb⟩)
  go_ret
  exact ⟨rfl, hb⟩
theorem freeze_block (w : World) (a : Addr) (n k : Nat) (h : k ≠ a.block) : (w.freeze a n).heap[k]? = w.heap[k]? := by
  unfold World.freeze
  split
  · rfl
  · simp only [Array.getElem?_modify]
    rw [if_neg (by omega)]
theorem bytesWorld_below (w : World) (t : ByteArray) : Below w.heap.size w (Lib.bytesWorld w 5 t) := by
  unfold Lib.bytesWorld
  have h0 : Below w.heap.size w (w.drew.alloc (.cells (Lib.bytesCells w 5 t) 5)) := ((Below.refl _ w).drew).alloc (Nat.le_refl _) _
  refine h0.trans ⟨by unfold World.freeze; split <;> rfl, by unfold World.freeze; split <;> rfl, by unfold World.freeze; split <;> rfl, by unfold World.freeze; split <;> simp, fun k hk => freeze_block _ _ _ _ (by simp; omega)⟩
theorem bw_below {w w' : World} (h : w' = w ∨ ∃ t, w' = Lib.bytesWorld w 5 t) : Below w.heap.size w w' := by
  rcases h with rfl | ⟨t, rfl⟩
  · exact Below.refl _ _
  · exact bytesWorld_below _ _
/-- The two error variables of package strconv hold some errors. -/
def ErrsAt (w : World) : Prop := (∃ t p, w.cell? ⟨4, 0, none⟩ = some (.iface t p)) ∧ (∃ t p, w.cell? ⟨5, 0, none⟩ = some (.iface t p))
set_option maxHeartbeats 400000 in
theorem atomOf_some (s : ByteArray) (a : Rd.A) (w : World) (hs : s.size ≤ 500) (h : Rd.atomOf s.data.toList = some a) :
    Calls Tryz.prog 133 #[.string s] w fun e w' => e = .returned (.tuple #[aV a, .bool true]) ∧ Below w.heap.size w w' := by
  unfold Rd.atomOf at h
  by_cases h1 : s.data.toList = [35, 116]
  · rw [if_pos h1] at h
    cases h
    have e1 : (s.toList == [35, 116]) = true := by rw [Lib.toList_data, h1]; rfl
    have e1' : s.toList = [35, 116] := by rw [Lib.toList_data, h1]
    clear h1
    go_enter Tryz.func133, Tryz.ntmps133
    go_wp2_with fail
    go_ret2
    exact ⟨rfl, Below.refl _ _⟩
  · rw [if_neg h1] at h
    have e1 : (s.toList == [35, 116]) = false := by rw [Lib.toList_data]; simpa using h1
    have e1' : ¬ s.toList = [35, 116] := by rw [Lib.toList_data]; exact h1
    by_cases h2 : s.data.toList = [35, 102]
    · rw [if_pos h2] at h
      cases h
      have e2 : (s.toList == [35, 102]) = true := by rw [Lib.toList_data, h2]; rfl
      clear h1 h2
      go_enter Tryz.func133, Tryz.ntmps133
      go_wp2_with fail
      go_ret2
      exact ⟨rfl, Below.refl _ _⟩
    · rw [if_neg h2] at h
      have e2 : (s.toList == [35, 102]) = false := by rw [Lib.toList_data]; simpa using h2
      have hmk := Lib.mk_data s
      cases hL : s.data.toList with
      | nil => rw [hL] at h; cases h
      | cons b r =>
        rw [hL] at h
        have hpos : 0 < s.size := by rw [Lib.size_eq, hL]; simp
        have hb0 : s[0] = b := by
          have := drop_cons s 0 hpos
          rw [List.drop_zero, hL] at this
          exact (List.cons.inj this).1.symm
        simp only at h
        by_cases h3 : b.toNat = 35
        · rw [if_pos h3] at h; cases h
        · rw [if_neg h3] at h
          have c3 := beqF _ 35 h3
          rw [← hL] at h
          cases hn : Rd.beginsNum s.data.toList
          · rw [hn] at h
            simp only [Bool.false_eq_true, if_false, Option.some.injEq] at h
            subst h
            have HN := (show Hid _ from hn)
            clear h1 h2 h3 hL hn hmk
            go_enter Tryz.func133, Tryz.ntmps133
            go_wp2_with (first | (go_at_call 154; refine (beginsAsNumber_any s _).mono ?_; rintro e w' ⟨rfl, rfl⟩; rw [HN.out]) | (go_at_call 156; refine (clone_any s _ (by omega)).mono ?_; rintro e w' ⟨rfl, hb⟩))
            go_ret2
            exact ⟨by rw [aV, Lib.mk_data]; rfl, hb⟩
          · rw [hn] at h
            simp only [if_true] at h
            cases hp : Lib.parseIntB 64 s.data.toList with
            | «syntax» => rw [hp] at h; cases h
            | range => rw [hp] at h; cases h
            | ok v =>
              rw [hp] at h
              simp only [Option.some.injEq] at h
              subst h
              have HN := (show Hid _ from hn)
              have HP := (show Hid _ from hp)
              clear h1 h2 h3 hL hn hmk hp
              go_enter Tryz.func133, Tryz.ntmps133
              go_wp2_with (first | (go_at_call 154; refine (beginsAsNumber_any s _).mono ?_; rintro e w' ⟨rfl, rfl⟩; rw [HN.out]) | (go_at_call 155; refine (Tryz.strconv_ParseInt_10_at64_ok s (by omega) v HP.out _).mono ?_; rintro e w' ⟨rfl, hb⟩))
              go_region
              all_goals
                go_wp2
                go_ret2
                exact ⟨rfl, (bw_below hb).drew⟩
end Go.Proofs.YtodeeegbajgafaaGreatDoor

namespace Go.Proofs.YtodeeegbajgafaaGreatDoor
open Go.RowKit
/-- The value v is the datum d, whose blocks all are 'ok'. -/
inductive RepD (ok : Nat → Prop) (w : World) : Value → Rd.D → Prop
  | leaf (p : Nat) (en : Rd.A) : RepD ok w (.agg #[.int .i64 p, .slice none 0 0, aV en]) (.mk p [] en)
  | node (p : Nat) (en : Rd.A) (g o cap : Nat) (c : Array Value) (T : TypeId) (ds : List Rd.D) (va vb vc : Nat → Value) (hg : ok g) (hh : w.heap[g]? = some (.cells c T (0, 0))) (hn : ds.length ≤ cap)
      (hc : ∀ i, i < ds.length → c[o + 3 * i]? = some (va i) ∧ c[o + 3 * i + 1]? = some (vb i) ∧ c[o + 3 * i + 2]? = some (vc i))
      (hs : ∀ i (hi : i < ds.length), RepD ok w (.agg #[va i, vb i, vc i]) ds[i]) :
      RepD ok w (.agg #[.int .i64 p, .slice (some ⟨g, o, none⟩) ds.length cap, aV en]) (.mk p ds en)
/-- The slice sl holds the data ds. -/
def RepS (ok : Nat → Prop) (w : World) (sl : Value) (ds : List Rd.D) : Prop :=
  (sl = .slice none 0 0 ∧ ds = []) ∨ ∃ (g o cap : Nat) (c : Array Value) (T : TypeId) (va vb vc : Nat → Value), sl = .slice (some ⟨g, o, none⟩) ds.length cap ∧ ok g ∧ w.heap[g]? = some (.cells c T (0, 0)) ∧ ds.length ≤ cap ∧
    (∀ i, i < ds.length → c[o + 3 * i]? = some (va i) ∧ c[o + 3 * i + 1]? = some (vb i) ∧ c[o + 3 * i + 2]? = some (vc i)) ∧
    (∀ i (hi : i < ds.length), RepD ok w (.agg #[va i, vb i, vc i]) ds[i])
theorem RepD.mono {ok ok' : Nat → Prop} {w w' : World} {v : Value} {d : Rd.D} (h : RepD ok w v d) (hk : ∀ k, k < w.heap.size → ok k → ok' k ∧ w'.heap[k]? = w.heap[k]?) : RepD ok' w' v d := by
  induction h with
  | leaf p en => exact .leaf p en
  | node p en g o cap c T ds va vb vc hg hh hn hc hs ih =>
    obtain ⟨h1, h2⟩ := hk g (lt_of_at hh) hg
    exact .node p en g o cap c T ds va vb vc h1 (h2.trans hh) hn hc ih
theorem RepS.mono {ok ok' : Nat → Prop} {w w' : World} {v : Value} {ds : List Rd.D} (h : RepS ok w v ds) (hk : ∀ k, k < w.heap.size → ok k → ok' k ∧ w'.heap[k]? = w.heap[k]?) : RepS ok' w' v ds := by
  rcases h with h | ⟨g, o, cap, c, T, va, vb, vc, h1, hg, hh, hn, hc, hs⟩
  · exact Or.inl h
  · obtain ⟨k1, k2⟩ := hk g (lt_of_at hh) hg
    exact Or.inr ⟨g, o, cap, c, T, va, vb, vc, h1, k1, k2.trans hh, hn, hc, fun i hi => (hs i hi).mono hk⟩
theorem RepS.datum {ok : Nat → Prop} {w : World} {sl : Value} {ds : List Rd.D} (h : RepS ok w sl ds) (p : Nat) (en : Rd.A) : RepD ok w (.agg #[.int .i64 p, sl, aV en]) (.mk p ds en) := by
  rcases h with ⟨rfl, rfl⟩ | ⟨g, o, cap, c, T, va, vb, vc, rfl, hg, hh, hn, hc, hs⟩
  · exact .leaf p en
  · exact .node p en g o cap c T ds va vb vc hg hh hn hc hs
theorem RepD.inv {ok : Nat → Prop} {w : World} {v : Value} {p : Nat} {ds : List Rd.D} {en : Rd.A} (h : RepD ok w v (.mk p ds en)) : ∃ sl, v = .agg #[.int .i64 p, sl, aV en] ∧ RepS ok w sl ds := by
  cases h with
  | leaf => exact ⟨_, rfl, Or.inl ⟨rfl, rfl⟩⟩
  | node _ _ g o cap c T _ va vb vc hg hh hn hc hs => exact ⟨_, rfl, Or.inr ⟨g, o, cap, c, T, va, vb, vc, rfl, hg, hh, hn, hc, hs⟩⟩
/-- What a change that keeps all but M does to what lies outside M. -/
theorem Kept.rep {M ok : Nat → Prop} {w w' : World} (h : Kept M w w') (hm : ∀ k, k < w.heap.size → ok k → ¬ M k) : ∀ k, k < w.heap.size → ok k → ok k ∧ w'.heap[k]? = w.heap[k]? :=
  fun k hk ho => ⟨ho, h.block k hk (hm k hk ho)⟩
end Go.Proofs.YtodeeegbajgafaaGreatDoor
