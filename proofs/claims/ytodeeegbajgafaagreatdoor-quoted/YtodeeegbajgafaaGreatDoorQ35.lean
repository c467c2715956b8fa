/- Printing any source. -/
import Derived.Test.YtodeeegbajgafaaGreatDoorQ29
import Derived.Test.YtodeeegbajgafaaGreatDoorQ33
import Derived.Test.YtodeeegbajgafaaGreatDoorQ34
namespace Go.Proofs.YtodeeegbajgafaaGreatDoor
open Go.RowKit
open Mc

/-- What Print answers for these data. -/
def prT : List Rd.D → List UInt8
  | [] => []
  | d :: ds => shD d ++ 10 :: prT ds
theorem prT_app : ∀ (a b : List Rd.D), prT (a ++ b) = prT a ++ prT b
  | [], b => rfl
  | d :: a, b => by rw [List.cons_append, prT, prT_app a b, prT]; simp
theorem own_stringZ {w : World} {B : Nat} {v : Value} {txt : List UInt8} (h : w.ownsRow B 5 1 v txt.length (Lib.byteCells txt)) : (convert 58 9 v).run Tryz.prog w = .ok (.string ⟨txt.toArray⟩) w := by
  by_cases ht : txt = []
  · subst ht
    obtain ⟨_, ⟨rfl, _⟩ | ⟨g, cap, cur, rfl, _⟩⟩ := h
    · kernel_rfl
    · kernel_rfl
  · exact own_string h ht
/-- Where the loop of Print stands. -/
structure Printing (B : Nat) (ds : List Rd.D) (w : World) (j : Nat) (v8 : Value) (wr : World) : Prop where
  own : wr.ownsRow B 5 1 v8 (prT (ds.take j)).length (Lib.byteCells (prT (ds.take j)))
  below : Below B w wr
theorem print_no (s : ByteArray) (w : World) (n p : Nat) (hn : n ≠ 0) (hR : Calls Tryz.prog 24 #[.string s] w (ReadR (.no n p) w)) :
    Calls Tryz.prog 12 #[.string s] w fun e w' => e = .returned (.tuple #[.string ⟨#[]⟩, .int .i64 n, .int .i64 p]) ∧ Below w.heap.size w w' := by
  have HR : Hid (Calls Tryz.prog 24 #[.string s] w (ReadR (.no n p) w)) := hR
  have hn' : ((n : Nat) : Int) ≠ 0 := by omega
  clear hR
  go_enter Tryz.func12, Tryz.ntmps12
  go_wp2_with (go_at_call 24; refine HR.out.mono ?_; rintro e w1 ⟨rfl, hb⟩)
  go_ret3
  exact ⟨rfl, hb⟩

set_option maxHeartbeats 4000000 in
set_option maxRecDepth 20000 in
theorem print_ok (s : ByteArray) (w : World) (ds : List Rd.D) (hR : Calls Tryz.prog 24 #[.string s] w (ReadR (.ok ds) w)) (hok : okL ds) (hsz : szL ds ≤ 4000) (hpl : (prT ds).length + 100 ≤ 1000000) (ht : Tab w.heap.size w) :
    Calls Tryz.prog 12 #[.string s] w fun e w' => e = .returned (.tuple #[.string ⟨(prT ds).toArray⟩, .int .i64 0, .int .i64 0]) ∧ Below w.heap.size w w' := by
  have HR : Hid (Calls Tryz.prog 24 #[.string s] w (ReadR (.ok ds) w)) := hR
  obtain ⟨i0, hi, hz0, hz1, hz2⟩ := info_parts Tryz.info5
  have hlen := szL_len ds
  clear hR
  go_enter Tryz.func12, Tryz.ntmps12
  go_wp2_with (go_at_call 24; refine HR.out.mono ?_; rintro e w1 ⟨sl, rfl, hsl, hb⟩; obtain ⟨bb, cap, rfl, hcap⟩ : ∃ b cap, sl = .slice b ds.length cap ∧ ds.length ≤ cap := (by rcases hsl with ⟨rfl, rfl⟩ | ⟨g, o, cap, c, T, va, vb, vc, rfl, _, _, hn, _⟩; exact ⟨none, 0, rfl, Nat.le_refl _⟩; exact ⟨_, cap, rfl, hn⟩); have HSL : Hid (RepS (fun _ => True) w1 (.slice bb ds.length cap) ds) := (hsl.mono fun k _ _ => ⟨trivial, rfl⟩); clear hsl)
  have hsb := hb.size
  have HT : Hid (∀ W, Below w1.heap.size w1 W → Tab w1.heap.size W) := fun W hW W' hW' => ht W' (hb.trans ((hW.trans hW').mono hsb))
  go_loopg [8, 23] ds.length (fun q v8 i wr => ∃ j : Nat, i = .int .i64 j ∧ j ≤ ds.length ∧ q = ds.length - j ∧ Printing w1.heap.size ds w1 j v8 wr)
  case atStart => exact ⟨0, rfl, Nat.zero_le _, by omega, own_none _ _, Below.refl _ _⟩
  case round =>
    obtain ⟨j, rfl, hj, rfl, hP⟩ := hrel
    obtain ⟨hown, hbel⟩ := hP
    have hsr := hbel.size
    by_cases hlt : j < ds.length
    · obtain ⟨gd, od, cap', pp, po, pn, pc, ti, xv, heq, _, _, d0, d1, d2, hrepd⟩ := (HSL.out.mono (below_rep hbel)).cells j hlt
      cases heq
      have HRD : Hid (RepD (fun _ => True) (wr.alloc (.cells #[.int .i64 pp, .slice po pn pc, .iface ti xv] 62)) (.agg #[.int .i64 pp, .slice po pn pc, .iface ti xv]) ds[j]) := hrepd.mono (fun k hk h => ⟨h, Below.heap_alloc _ _ _ hk⟩)
      have hszj := szL_get ds j hlt
      have hokj := okL_mem ds hok ds[j] (List.getElem_mem hlt)
      have htk : prT (ds.take (j + 1)) = prT (ds.take j) ++ (shD ds[j] ++ [10]) := by
        rw [List.take_succ_eq_append_getElem hlt, prT_app]
        rfl
      have hle : (prT (ds.take (j + 1))).length ≤ (prT ds).length := by
        have h1 := prT_app (ds.take (j + 1)) (ds.drop (j + 1))
        rw [List.take_append_drop] at h1
        rw [h1, List.length_append]
        omega
      have hle2 : (prT (ds.take j)).length + (shD ds[j]).length + 1 ≤ (prT ds).length := by rw [htk] at hle; simp at hle; omega
      have HOW : Hid (wr.ownsRow w1.heap.size 5 1 u8 (prT (ds.take j)).length (Lib.byteCells (prT (ds.take j)))) := hown
      obtain ⟨a8, k8, c8, rfl⟩ := owns_slice hown
      clear hown hrepd
      rw [Nat.mul_comm 3 j] at d0 d1 d2
      go_wp2_with (first | (go_at_call 25; refine (value_tV (szD ds[j]) ds[j] (fun _ => True) _ _ (Nat.le_refl _) (by omega) HRD.out).mono ?_; rintro e2 w2 ⟨y, rfl, hrv, hk2⟩; obtain ⟨tv, yv, rfl⟩ := hrv.iface; obtain ⟨fn, r, sh, hent, hfn⟩ := shows_allF w1.heap.size (szD ds[j]) ds[j] w2 tv yv (Nat.le_refl _) hokj hrv; have HFN := (show Hid _ from hfn); clear hfn hrv))
      have hs2 := hk2.size
      have hs2' : wr.heap.size + 1 ≤ w2.heap.size := by simpa using hs2
      have hkA : Below w1.heap.size wr w2 := ((Below.refl _ wr).alloc hsr _).trans (hk2.mono (by simp; omega))
      have ho2 : w2.ownsRow w1.heap.size 5 1 (.slice a8 k8 c8) (prT (ds.take j)).length (Lib.byteCells (prT (ds.take j))) := ownsRow_kept' (HOW.out.alloc _) hk2
      have hB2 : w1.heap.size ≤ w2.heap.size := by omega
      refine (HFN.out w2 _ _ _ (Fr.refl _ _) ho2 hB2 (HT.out _ (hbel.trans hkA)) (by omega)).mono ?_
      rintro e3 w3 ⟨v3, rfl, ho3, hf3⟩
      have hb3 : Below w1.heap.size w1 w3 := hbel.trans (hkA.trans hf3.below)
      have hB3 : w1.heap.size ≤ w3.heap.size := Nat.le_trans hB2 hf3.size
      obtain ⟨oA, hBA, hbA⟩ := own_byte _ _ v3 _ w3 10 ho3 hB3
      have HOA : Hid ((w3.alloc (.cells #[.int .u8 (10 : UInt8).toNat] 5)).ownsRow w1.heap.size 5 1 v3 ((prT (ds.take j)).length + (shD ds[j]).length) (Lib.byteCells (prT (ds.take j)) ++ Lib.byteCells (shD ds[j]))) := oA
      have HFIN : Hid (∀ w' v', (w3.alloc (.cells #[.int .u8 10] 5)).grownBy w' v3.ownBlock → w'.ownsRow w1.heap.size 5 1 v' ((prT (ds.take j)).length + (shD ds[j]).length + 1) (Lib.byteCells (prT (ds.take j)) ++ Lib.byteCells (shD ds[j]) ++ [.int .u8 10]) → Printing w1.heap.size ds w1 (j + 1) v' w') := fun w' v' hg ho' => by
        refine ⟨?_, hb3.trans (hbA.trans (own_grown (w' := w') oA hBA hg))⟩
        rw [htk, Lib.byteCells_append, Lib.byteCells_append, List.length_append, List.length_append, ← List.append_assoc, ← Nat.add_assoc]
        exact ho'
      obtain ⟨a3, k3, c3, rfl⟩ := owns_slice ho3
      clear ho2 ho3 oA hbA HFN HOW htk
      go_wp2_with (at_builtin; refine wpList_append_own_at _ rfl _ _ 58 rfl w1.heap.size 5 i0 (.int .u8 0) 1 1 Tryz.underlying58 hi hz0 hz1 hz2 rfl (by decide) (.slice a3 k3 c3) ((prT (ds.take j)).length + (shD ds[j]).length) (Lib.byteCells (prT (ds.take j)) ++ Lib.byteCells (shD ds[j])) rfl ?la1 ⟨w3.heap.size, 0, none⟩ 1 1 [.int .u8 10] rfl rfl ?la2 ?la3 ?la4 ?la5 ?la6 ?_)
      case la1 => exact HOA.out
      case la2 => exact cell_one_new _ _ _
      case la3 => intro u hu; simp at hu; subst hu; rfl
      case la4 => first | omega | (unfold maxLen; omega)
      case la5 => omega
      case la6 => first | exact hBA | omega | (simp; omega)
      intro v9 w9 ho9 hg9 _ _
      simp only [← List.append_assoc] at ho9
      have HF : Hid (Printing w1.heap.size ds w1 (j + 1) v9 w9) := HFIN.out _ _ hg9 ho9
      obtain ⟨a9, k9, c9, rfl⟩ := owns_slice ho9
      clear ho9 hg9
      go_wp2_with fail
      go_roundg (ds.length - (j + 1))
      case measure => omega
      case rel => exact ⟨j + 1, by go_num, by omega, rfl, HF.out⟩
    · have : j = ds.length := by omega
      subst this
      rw [List.take_length] at hown
      have hcv := own_stringZ hown
      obtain ⟨a8, k8, c8, rfl⟩ := owns_slice hown
      clear hown
      go_wp2_with fail
      go_ret3
      exact ⟨rfl, hb.trans (hbel.mono hsb)⟩
end Go.Proofs.YtodeeegbajgafaaGreatDoor
