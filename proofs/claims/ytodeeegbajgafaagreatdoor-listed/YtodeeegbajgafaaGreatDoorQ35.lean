/- Procedures of two numbers. Procedures that are there are called. The run's calls. A procedure is called with arguments. Procedures that were made, and those that are there, are called with arguments. The first of the values is called with the others. -/
import Derived.Test.YtodeeegbajgafaaGreatDoorQ34
import Derived.Test.YtodeeegbajgafaaGreatDoorQ23
import Derived.Test.YtodeeegbajgafaaGreatDoorQ18
import Derived.Deep.RegionHeld3
namespace Go.Proofs.YtodeeegbajgafaaGreatDoor
open Go.RowKit
open Mc

def two0 (w : World) : World := w.alloc (.cells #[.int .i64 0, .int .i64 0] 2)
def two1 (w : World) (a : Int) : World := (two0 w).setCell ⟨w.heap.size, 0, none⟩ (.int .i64 a)
def two2 (w : World) (a b : Int) : World := (two1 w a).setCell ⟨w.heap.size, 1, none⟩ (.int .i64 b)
theorem two_at0 (w : World) : (two0 w).heap[w.heap.size]? = some (.cells #[.int .i64 0, .int .i64 0] 2 (0, 0)) := at_new w _
theorem two_at1 (w : World) (a : Int) : (two1 w a).heap[w.heap.size]? = some (.cells #[.int .i64 a, .int .i64 0] 2 (0, 0)) := at_setCell (two_at0 w) 0 _
theorem two_at2 (w : World) (a b : Int) : (two2 w a b).heap[w.heap.size]? = some (.cells #[.int .i64 a, .int .i64 b] 2 (0, 0)) := at_setCell (two_at1 w a) 1 _
theorem two_below (w : World) (a b : Int) : Below w.heap.size w (two0 w) ∧ Below w.heap.size w (two1 w a) ∧ Below w.heap.size w (two2 w a b) := by
  have h0 : Below w.heap.size w (two0 w) := (Below.refl _ w).alloc (Nat.le_refl _) _
  have h1 : Below w.heap.size w (two1 w a) := h0.setCell (Nat.le_refl _) _
  exact ⟨h0, h1, h1.setCell (Nat.le_refl _) _⟩
theorem two_nums (w : World) (a b : Int) : NumsAt (two2 w a b) (.slice (some ⟨w.heap.size, 0, none⟩) 2 2) [a, b] := by
  obtain ⟨c0, c1, _, _⟩ := cells2 (two_at2 w a b)
  refine ⟨w.heap.size, 0, 2, rfl, by simp, by omega, fun i hi => ?_⟩
  match i, hi with
  | 0, _ => exact c0
  | 1, _ => exact c1

set_option maxHeartbeats 4000000 in
theorem ofNumbers_any (k : Nat) (hk : k = 68 ∨ k = 69 ∨ k = 70 ∨ k = 74) (mb : Nat) (ok : Nat → Prop) (w : World) (x v : Value) (a b : Int) (u : V) (hx : RepM mb ok w x (.vals [.atom (.num a), .atom (.num b)])) (c : Nat) (T' : TypeId) (hc : w.heap[c]? = some (.cells #[fnV k] T' (0, 0)))
    (HK : ∀ W y, NumsAt W y [a, b] → NumB k W y v) (hv : ∀ W, RepM mb ok W v (.val u)) :
    Calls Tryz.prog 115 #[x, ptrV c] w (DoR mb ok w u) := by
  have hmk : ∀ w : World, (Instr.makeSlice 196 (.int .i64 2) (.int .i64 2)).run Tryz.prog w = .ok (.slice (some ⟨w.heap.size, 0, none⟩) 2 2) (two0 w) := fun _ => by kernel_rfl
  obtain ⟨g, o, cap, rfl, hn, hcap, hg, hat⟩ := hx.vals_at
  obtain ⟨y0, c0, h0⟩ := hat 0 (by simp)
  obtain ⟨y1, c1, h1⟩ := hat 1 (by simp)
  simp only [List.length_cons, List.length_nil, Nat.add_zero, Nat.zero_add, List.getElem_cons_zero, List.getElem_cons_succ] at *
  obtain rfl := h0.atom_inv
  obtain rfl := h1.atom_inv
  obtain ⟨B0, B1, B2⟩ := two_below w a b
  have HF : Hid (Calls Tryz.prog k #[.slice (some ⟨w.heap.size, 0, none⟩) 2 2] (two2 w a b) fun e w' => e = .returned (.tuple #[v, .int .i64 0]) ∧ Below (two2 w a b).heap.size (two2 w a b) w') := HK _ _ (two_nums w a b)
  have keep : ∀ {W : World}, Below w.heap.size w W → W.cell? ⟨g, o, none⟩ = some (aV (.num a)) ∧ W.cell? ⟨g, o + 1, none⟩ = some (aV (.num b)) ∧ W.cell? ⟨c, 0, none⟩ = some (fnV k) := fun hB =>
    ⟨(Kept.of_below hB (fun _ => False)).cell id c0, (Kept.of_below hB (fun _ => False)).cell id c1, (Kept.of_below hB (fun _ => False)).cell id (cells1 hc).1⟩
  obtain ⟨p0, p1, p2⟩ := keep B0
  obtain ⟨q0, q1, q2⟩ := keep B1
  obtain ⟨r0, r1, r2⟩ := keep B2
  obtain ⟨s0, s1, s2, s3⟩ := cells2 (two_at0 w)
  obtain ⟨t0, t1, t2, t3⟩ := cells2 (two_at1 w a)
  have hit := fun (n : Int) w => ta_hit147 (.int .i64 n) w
  have HB := (show Hid _ from B2)
  have HV := (show Hid _ from hv)
  have E1 : Hid ((two0 w).setCell ⟨w.heap.size, 0, none⟩ (.int .i64 a) = two1 w a) := rfl
  have E2 : Hid ((two1 w a).setCell ⟨w.heap.size, 1, none⟩ (.int .i64 b) = two2 w a b) := rfl
  have hfin : ∀ e W, (e = .returned (.tuple #[v, .int .i64 0]) ∧ Below (two2 w a b).heap.size (two2 w a b) W) → DoR mb ok w u e W := fun e W ⟨h1, h2⟩ => ⟨v, h1, hv W, B2.trans (h2.mono B2.size)⟩
  have HFIN := (show Hid _ from hfin)
  clear hx hat h0 h1 hc HK hv keep B0 B1 B2 c0 c1 hfin
  unfold ptrV
  simp only [aV] at *
  go_enter Tryz.func115, Tryz.ntmps115
  go_wp2
  go_loopg [15] 2 (fun k q wr => (k = 2 ∧ q = .int .i64 0 ∧ wr = two0 w) ∨ (k = 1 ∧ q = .int .i64 1 ∧ wr = two1 w a) ∨ (k = 0 ∧ q = .int .i64 2 ∧ wr = two2 w a b))
  case atStart => exact Or.inl ⟨rfl, rfl, rfl⟩
  case round =>
    rcases hrel with ⟨rfl, rfl, rfl⟩ | ⟨rfl, rfl, rfl⟩ | ⟨rfl, rfl, rfl⟩
    · go_wp2
      go_roundg 1
      case measure => omega
      case rel => exact Or.inr (Or.inl ⟨rfl, rfl, E1.out⟩)
    · go_wp2
      go_roundg 0
      case measure => omega
      case rel => exact Or.inr (Or.inr ⟨rfl, rfl, E2.out⟩)
    · unfold fnV at r2
      rcases hk with rfl | rfl | rfl | rfl
      · go_wp2_with (first | (go_at_call 68; refine HF.out.mono ?_; rintro e2 w2 ⟨rfl, hb2⟩))
        go_ret2
        exact HFIN.out _ _ ⟨rfl, hb2⟩
      · go_wp2_with (first | (go_at_call 69; refine HF.out.mono ?_; rintro e2 w2 ⟨rfl, hb2⟩))
        go_ret2
        exact HFIN.out _ _ ⟨rfl, hb2⟩
      · go_wp2_with (first | (go_at_call 70; refine HF.out.mono ?_; rintro e2 w2 ⟨rfl, hb2⟩))
        go_ret2
        exact HFIN.out _ _ ⟨rfl, hb2⟩
      · go_wp2_with (first | (go_at_call 74; refine HF.out.mono ?_; rintro e2 w2 ⟨rfl, hb2⟩))
        go_ret2
        exact HFIN.out _ _ ⟨rfl, hb2⟩
end Go.Proofs.YtodeeegbajgafaaGreatDoor

namespace Go.Proofs.YtodeeegbajgafaaGreatDoor
open Go.RowKit
open Mc

set_option maxHeartbeats 1000000 in
theorem doList (mb : Nat) (ok : Nat → Prop) (w : World) (hok : ∀ k, w.heap.size ≤ k → ok k) (x : Value) (vs : List V) (hx : RepM mb ok w x (.vals vs)) :
    Calls Tryz.prog 81 #[x] w (DoR mb ok w (listV vs)) := by
  have HL := list33 mb ok w hok x vs hx
  obtain ⟨a, cap, rfl, hn, hcap, _⟩ := hx.vals_any
  clear hx
  go_enter Tryz.func81, Tryz.ntmps81
  go_wp2_with (first | (go_at_call 33; refine HL.mono ?_; rintro e2 w2 ⟨y, rfl, hy, hb⟩; have HY := (show Hid _ from hy); obtain ⟨ty, zy, rfl⟩ := hy.iface; clear hy))
  go_ret2
  exact ⟨_, rfl, HY.out, hb⟩

/-- What a procedure that is there answers. -/
def DoRes (mb : Nat) (ok : Nat → Prop) (w : World) : Res → Ending → World → Prop
  | .val v => DoR mb ok w v
  | .wrong y => fun e w' => e = .returned (.tuple #[.nilIface, .int .i64 y]) ∧ Below w.heap.size w w'
  | .shows _ => fun _ _ => False

theorem nums_two {vs : List V} {a b : Int} (h : nums vs = some [a, b]) : vs = [.atom (.num a), .atom (.num b)] := by
  match vs with
  | [] => cases h
  | .atom (.num x) :: vs =>
    simp only [nums] at h
    match vs with
    | [] => cases h
    | .atom (.num y) :: vs =>
      match vs with
      | [] => cases h; rfl
      | .atom (.num z) :: vs =>
        simp only [nums] at h
        cases h' : nums vs <;> rw [h'] at h <;> cases h
      | .atom (.truth _) :: vs => cases h
      | .atom (.sym _) :: vs => cases h
      | .atom .empty :: vs => cases h
      | .pair _ _ :: vs => cases h
      | .basic _ :: vs => cases h
      | .clo _ _ _ :: vs => cases h
      | .cont _ :: vs => cases h
    | .atom (.truth _) :: vs => cases h
    | .atom (.sym _) :: vs => cases h
    | .atom .empty :: vs => cases h
    | .pair _ _ :: vs => cases h
    | .basic _ :: vs => cases h
    | .clo _ _ _ :: vs => cases h
    | .cont _ :: vs => cases h
  | .atom (.truth _) :: vs => cases h
  | .atom (.sym _) :: vs => cases h
  | .atom .empty :: vs => cases h
  | .pair _ _ :: vs => cases h
  | .basic _ :: vs => cases h
  | .clo _ _ _ :: vs => cases h
  | .cont _ :: vs => cases h

/-- A procedure that is there, in memory. -/
theorem RepM.basic_inv {mb : Nat} {ok : Nat → Prop} {w : World} {x : Value} {i : Nat} (h : RepM mb ok w x (.val (.basic i))) :
    ∃ b nm T fv, x = .iface 111 (ptrV b) ∧ ok b ∧ w.heap[b]? = some (.cells #[.int .i64 (basicTab mb i).1, .int .i64 (basicTab mb i).2.1, nm, fv] T (0, 0)) ∧
      (((basicTab mb i).2.2.2 = none ∧ fv = fnV (basicTab mb i).2.2.1) ∨ ∃ c y T', (basicTab mb i).2.2.2 = some y ∧ fv = capFn (basicTab mb i).2.2.1 [c] ∧ ok c ∧ w.heap[c]? = some (.cells #[y] T' (0, 0))) := by
  cases h with
  | basic0 _ b nm T hb hn hh => exact ⟨b, nm, T, _, rfl, hb, hh, Or.inl ⟨hn, rfl⟩⟩
  | basic1 _ b c nm y T T' hb hc hx hh hh' => exact ⟨b, nm, T, _, rfl, hb, hh, Or.inr ⟨c, y, T', hx, rfl, hc, hh'⟩⟩


/-- What its function does. -/
theorem basic_do {mb : Nat} {ok : Nat → Prop} {w : World} (hok : ∀ k, w.heap.size ≤ k → ok k) {i : Nat} {x : Value} {vs : List V} {r : Res} (hx : RepM mb ok w x (.vals vs)) (hd : basicDo i vs = some r) (hs : ∀ v, r ≠ .shows v) {fv : Value}
    (hf : ((basicTab mb i).2.2.2 = none ∧ fv = fnV (basicTab mb i).2.2.1) ∨ ∃ c y T', (basicTab mb i).2.2.2 = some y ∧ fv = capFn (basicTab mb i).2.2.1 [c] ∧ ok c ∧ w.heap[c]? = some (.cells #[y] T' (0, 0))) :
    (∃ k, (k = 77 ∨ k = 81 ∨ k = 83) ∧ fv = fnV k ∧ Calls Tryz.prog k #[x] w (DoRes mb ok w r)) ∨ ∃ k c, (k = 115 ∨ k = 127) ∧ fv = capFn k [c] ∧ Calls Tryz.prog k #[x, ptrV c] w (DoRes mb ok w r) := by
  have two : ∀ (k : Nat) (hk : k = 68 ∨ k = 69 ∨ k = 70 ∨ k = 74) (a b : Int) (v : Value) (u : V), nums vs = some [a, b] → (basicTab mb i).2.2.1 = 115 → (basicTab mb i).2.2.2 = some (fnV k) → r = .val u → (∀ W y, NumsAt W y [a, b] → NumB k W y v) → (∀ W, RepM mb ok W v (.val u)) →
      (∃ k, (k = 77 ∨ k = 81 ∨ k = 83) ∧ fv = fnV k ∧ Calls Tryz.prog k #[x] w (DoRes mb ok w r)) ∨ ∃ k c, (k = 115 ∨ k = 127) ∧ fv = capFn k [c] ∧ Calls Tryz.prog k #[x, ptrV c] w (DoRes mb ok w r) := by
    intro k hk a b v u hn h1 h2 hr HK hv
    obtain rfl := nums_two hn
    subst hr
    rcases hf with ⟨h3, _⟩ | ⟨c, y, T', h3, rfl, hc, hh⟩
    · rw [h2] at h3; cases h3
    · rw [h2] at h3
      cases h3
      rw [h1]
      exact Or.inr ⟨115, c, by decide, rfl, ofNumbers_any k hk mb ok w x v a b u hx c T' hh HK hv⟩
  match i with
  | 0 =>
    simp only [basicDo] at hd
    split at hd
    · rename_i a b hn
      cases hf' : fold (fun x y => x + y) 0 [a, b] with
      | none => rw [hf'] at hd; cases hd
      | some n =>
        rw [hf'] at hd
        cases hd
        exact two 68 (Or.inl rfl) a b (.iface 147 (.int .i64 n)) _ hn rfl rfl rfl (fun W y h => (sum_any n [a, b] y W h hf').b) (fun W => .atom (.num n))
    · cases hd
  | 1 =>
    simp only [basicDo] at hd
    split at hd
    · rename_i a b hn
      cases hf' : fold (fun x y => x * y) 1 [a, b] with
      | none => rw [hf'] at hd; cases hd
      | some n =>
        rw [hf'] at hd
        cases hd
        exact two 69 (Or.inr (Or.inl rfl)) a b (.iface 147 (.int .i64 n)) _ hn rfl rfl rfl (fun W y h => (product_any n [a, b] y W h hf').b) (fun W => .atom (.num n))
    · cases hd
  | 2 =>
    simp only [basicDo] at hd
    split at hd
    · rename_i a b hn
      cases hf' : fold (fun x y => x - y) a [b] with
      | none => rw [hf'] at hd; cases hd
      | some n =>
        rw [hf'] at hd
        cases hd
        exact two 70 (Or.inr (Or.inr (Or.inl rfl))) a b (.iface 147 (.int .i64 n)) _ hn rfl rfl rfl (fun W y h => difference_b a b n y W h hf') (fun W => .atom (.num n))
    · cases hd
  | 5 =>
    simp only [basicDo] at hd
    split at hd
    · rename_i a b hn
      cases hd
      exact two 74 (Or.inr (Or.inr (Or.inr rfl))) a b (.iface 150 (.bool (decide (a < b)))) _ hn rfl rfl rfl (fun W y h => less_any a b y W h) (fun W => .atom (.truth _))
    · cases hd
  | 8 =>
    simp only [basicDo] at hd
    split at hd
    · cases hd
      rcases hf with ⟨_, rfl⟩ | ⟨c, y, T', h3, _⟩
      · exact Or.inl ⟨77, by decide, rfl, doCons mb ok w hok x _ _ hx⟩
      · cases h3
    · cases hd
  | 9 =>
    simp only [basicDo] at hd
    split at hd
    · cases hd
      rcases hf with ⟨h3, _⟩ | ⟨c, y, T', h3, rfl, hc, hh⟩
      · cases h3
      · cases h3
        exact Or.inr ⟨127, c, by decide, rfl, doCar mb ok w x _ _ hx c T' hh⟩
    · cases hd
      rcases hf with ⟨h3, _⟩ | ⟨c, y, T', h3, rfl, hc, hh⟩
      · cases h3
      · exact Or.inr ⟨127, c, by decide, rfl, (doNoPair mb ok w x _ hx c).mono fun _ _ ⟨h1, h2⟩ => ⟨h1, h2 ▸ Below.refl _ _⟩⟩
    · cases hd
  | 10 =>
    simp only [basicDo] at hd
    split at hd
    · cases hd
      rcases hf with ⟨h3, _⟩ | ⟨c, y, T', h3, rfl, hc, hh⟩
      · cases h3
      · cases h3
        exact Or.inr ⟨127, c, by decide, rfl, doCdr mb ok w x _ _ hx c T' hh⟩
    · cases hd
  | 11 =>
    cases hd
    rcases hf with ⟨_, rfl⟩ | ⟨c, y, T', h3, _⟩
    · exact Or.inl ⟨81, by decide, rfl, doList mb ok w hok x vs hx⟩
    · cases h3
  | 13 =>
    have hv : ∃ v t, vs = [v] ∧ r = .val (.atom (.truth t)) := by
      simp only [basicDo] at hd
      split at hd
      · cases hd; exact ⟨_, _, rfl, rfl⟩
      · cases hd; exact ⟨_, _, rfl, rfl⟩
      · cases hd
    obtain ⟨v, t, rfl, rfl⟩ := hv
    rcases hf with ⟨_, rfl⟩ | ⟨c, y, T', h3, _⟩
    · exact Or.inl ⟨83, by decide, rfl, doNull mb ok w x v t hd hx⟩
    · cases h3
  | 20 =>
    simp only [basicDo] at hd
    split at hd
    · cases hd; exact absurd rfl (hs _)
    · cases hd
  | 3 => cases hd
  | 4 => cases hd
  | 6 => cases hd
  | 7 => cases hd
  | 12 => cases hd
  | 14 => cases hd
  | 15 => cases hd
  | 16 => cases hd
  | 17 => cases hd
  | 18 => cases hd
  | 19 => cases hd
  | n + 21 => cases hd
end Go.Proofs.YtodeeegbajgafaaGreatDoor

namespace Go.Proofs.YtodeeegbajgafaaGreatDoor
open Go.RowKit
open Mc

/-- What becomes of the run. -/
def Mc.St.res (s : St) : Res → St
  | .val v => s.give v
  | .wrong y => s.fail y
  | .shows _ => s

set_option maxHeartbeats 4000000 in
theorem callBasic_any (N : Nat → Prop) (g : Gh) (rb fuel : Nat) (s : St) (w : World) (h : RunAt N g rb fuel s w) (b : Nat) (l m nm fv x : Value) (T : TypeId) (r : Res)
    (hb : w.heap[b]? = some (.cells #[l, m, nm, fv] T (0, 0))) (hx : ∃ a n cap, x = .slice a n cap) (hs : ∀ v, r ≠ .shows v) (hw : ∀ y, r = .wrong y → y ≠ 0)
    (HF : (∃ k, (k = 77 ∨ k = 81 ∨ k = 83) ∧ fv = fnV k ∧ Calls Tryz.prog k #[x] w (DoRes g.mb (g.ok N) w r)) ∨ ∃ k c, (k = 115 ∨ k = 127) ∧ fv = capFn k [c] ∧ Calls Tryz.prog k #[x, ptrV c] w (DoRes g.mb (g.ok N) w r)) :
    Calls Tryz.prog 177 #[ptrV rb, ptrV b, x] w (RunC N g rb fuel (s.res r) w) := by
  obtain ⟨xa, xn, xc, rfl⟩ := hx
  have q3 := cell_of_at hb 3
  simp only [List.getElem?_toArray, List.getElem?_cons_zero, List.getElem?_cons_succ] at q3
  have HG : Hid (∀ w2 y v, RepM g.mb (g.ok N) w2 y (.val v) → Below w.heap.size w w2 → Calls Tryz.prog 139 #[.pointer (some ⟨rb, 0, none⟩), y] w2 (RunC N g rb fuel (s.give v) w)) := fun w2 y v hv hB => (give_any N g rb fuel s w2 (h.below hB) y v hv).mono fun _ _ hr => RunC.after (Kept.of_below hB _) hr.c
  have HW : Hid (∀ w2 (y : Nat), Below w.heap.size w w2 → Calls Tryz.prog 159 #[.pointer (some ⟨rb, 0, none⟩), .int .i64 y] w2 (RunC N g rb fuel (s.fail y) w)) := fun w2 y hB => (fail_any N g rb fuel s w2 (h.below hB) y).mono fun _ _ hr => RunC.after (Kept.of_below hB _) hr.c
  clear h hb
  unfold ptrV at *
  cases r with
  | shows v => exact absurd rfl (hs v)
  | val v =>
    simp only [DoRes] at HF
    rcases HF with ⟨k, hk, rfl, HF⟩ | ⟨k, c, hk, rfl, HF⟩
    · unfold fnV at q3
      rcases hk with rfl | rfl | rfl
      · go_enter Tryz.func177, Tryz.ntmps177
        go_wp2_with (first | (go_at_call 77; refine HF.mono ?_; rintro e2 w2 ⟨y, rfl, hy2, hb2⟩; have HY := (show Hid _ from hy2); obtain ⟨ty, zy, rfl⟩ := hy2.iface; clear hy2) | (go_at_call 139; refine (HG.out _ _ _ HY.out hb2).mono ?_; rintro e3 w3 ⟨rfl, hr3⟩))
        go_end0
        exact ⟨rfl, hr3⟩
      · go_enter Tryz.func177, Tryz.ntmps177
        go_wp2_with (first | (go_at_call 81; refine HF.mono ?_; rintro e2 w2 ⟨y, rfl, hy2, hb2⟩; have HY := (show Hid _ from hy2); obtain ⟨ty, zy, rfl⟩ := hy2.iface; clear hy2) | (go_at_call 139; refine (HG.out _ _ _ HY.out hb2).mono ?_; rintro e3 w3 ⟨rfl, hr3⟩))
        go_end0
        exact ⟨rfl, hr3⟩
      · go_enter Tryz.func177, Tryz.ntmps177
        go_wp2_with (first | (go_at_call 83; refine HF.mono ?_; rintro e2 w2 ⟨y, rfl, hy2, hb2⟩; have HY := (show Hid _ from hy2); obtain ⟨ty, zy, rfl⟩ := hy2.iface; clear hy2) | (go_at_call 139; refine (HG.out _ _ _ HY.out hb2).mono ?_; rintro e3 w3 ⟨rfl, hr3⟩))
        go_end0
        exact ⟨rfl, hr3⟩
    · simp only [capFn, List.map_cons, List.map_nil, ptrV] at q3
      rcases hk with rfl | rfl
      · go_enter Tryz.func177, Tryz.ntmps177
        go_wp2_with (first | (go_at_call 115; refine HF.mono ?_; rintro e2 w2 ⟨y, rfl, hy2, hb2⟩; have HY := (show Hid _ from hy2); obtain ⟨ty, zy, rfl⟩ := hy2.iface; clear hy2) | (go_at_call 139; refine (HG.out _ _ _ HY.out hb2).mono ?_; rintro e3 w3 ⟨rfl, hr3⟩))
        go_end0
        exact ⟨rfl, hr3⟩
      · go_enter Tryz.func177, Tryz.ntmps177
        go_wp2_with (first | (go_at_call 127; refine HF.mono ?_; rintro e2 w2 ⟨y, rfl, hy2, hb2⟩; have HY := (show Hid _ from hy2); obtain ⟨ty, zy, rfl⟩ := hy2.iface; clear hy2) | (go_at_call 139; refine (HG.out _ _ _ HY.out hb2).mono ?_; rintro e3 w3 ⟨rfl, hr3⟩))
        go_end0
        exact ⟨rfl, hr3⟩
  | wrong y =>
    have hy := hw y rfl
    have hyi : ¬ (y : Int) = 0 := by omega
    simp only [DoRes] at HF
    rcases HF with ⟨k, hk, rfl, HF⟩ | ⟨k, c, hk, rfl, HF⟩
    · unfold fnV at q3
      rcases hk with rfl | rfl | rfl
      · go_enter Tryz.func177, Tryz.ntmps177
        go_wp2_with (first | (go_at_call 77; refine HF.mono ?_; rintro e2 w2 ⟨rfl, hb2⟩) | (go_at_call 159; refine (HW.out _ _ hb2).mono ?_; rintro e3 w3 ⟨rfl, hr3⟩))
        go_end0
        exact ⟨rfl, hr3⟩
      · go_enter Tryz.func177, Tryz.ntmps177
        go_wp2_with (first | (go_at_call 81; refine HF.mono ?_; rintro e2 w2 ⟨rfl, hb2⟩) | (go_at_call 159; refine (HW.out _ _ hb2).mono ?_; rintro e3 w3 ⟨rfl, hr3⟩))
        go_end0
        exact ⟨rfl, hr3⟩
      · go_enter Tryz.func177, Tryz.ntmps177
        go_wp2_with (first | (go_at_call 83; refine HF.mono ?_; rintro e2 w2 ⟨rfl, hb2⟩) | (go_at_call 159; refine (HW.out _ _ hb2).mono ?_; rintro e3 w3 ⟨rfl, hr3⟩))
        go_end0
        exact ⟨rfl, hr3⟩
    · simp only [capFn, List.map_cons, List.map_nil, ptrV] at q3
      rcases hk with rfl | rfl
      · go_enter Tryz.func177, Tryz.ntmps177
        go_wp2_with (first | (go_at_call 115; refine HF.mono ?_; rintro e2 w2 ⟨rfl, hb2⟩) | (go_at_call 159; refine (HW.out _ _ hb2).mono ?_; rintro e3 w3 ⟨rfl, hr3⟩))
        go_end0
        exact ⟨rfl, hr3⟩
      · go_enter Tryz.func177, Tryz.ntmps177
        go_wp2_with (first | (go_at_call 127; refine HF.mono ?_; rintro e2 w2 ⟨rfl, hb2⟩) | (go_at_call 159; refine (HW.out _ _ hb2).mono ?_; rintro e3 w3 ⟨rfl, hr3⟩))
        go_end0
        exact ⟨rfl, hr3⟩
end Go.Proofs.YtodeeegbajgafaaGreatDoor

namespace Go.Proofs.YtodeeegbajgafaaGreatDoor
open Go.RowKit
open Mc

set_option maxHeartbeats 1000000 in
theorem takes_any (l m n : Int) (w : World) (h0 : l ≤ n) (h1 : n ≤ m) : Calls Tryz.prog 205 #[.agg #[.int .i64 l, .int .i64 m], .int .i64 n] w fun e w' => e = .returned (.bool true) ∧ Below w.heap.size w w' := by
  have hB : Below w.heap.size w (w.alloc (.cells #[.int .i64 l, .int .i64 m] 114)) := (Below.refl _ w).alloc (Nat.le_refl _) _
  go_enter Tryz.func205, Tryz.ntmps205
  go_wp2
  go_ret
  exact ⟨rfl, hB⟩

set_option maxHeartbeats 4000000 in
set_option maxRecDepth 20000 in
theorem callWith_cont (N : Nat → Prop) (g : Gh) (rb fuel : Nat) (s : St) (w : World) (h : RunAt N g rb fuel s w) (x : Value) (v : V) (hx : RepM g.mb (g.ok N) w x (.vals [v])) (b : Nat) (t : Value) (T : TypeId) (fs : List Fr) (hb : g.ok N b) (hh : w.heap[b]? = some (.cells #[.int .i64 1, .int .i64 1, t] T (0, 0))) (ht : RepM g.mb (g.ok N) w t (.todo fs)) :
    Calls Tryz.prog 171 #[ptrV rb, .iface 258 (ptrV b), x] w (RunC N g rb fuel (s.resume fuel fs v) w) := by
  obtain ⟨gx, o, cap, rfl, hn, hcap, hg, hat⟩ := hx.vals_at
  obtain ⟨y0, c0, h0⟩ := hat 0 (by simp)
  simp only [List.length_nil, Nat.add_zero, Nat.zero_add, List.getElem_cons_zero] at *
  obtain ⟨q0, q1, q2, _, _, _⟩ := cells3 hh
  have hm := meth258 b _ _ w q0 q1
  have HT := takes_any 1 1 1 w (by omega) (by omega)
  have m111 := fun w => tp_miss111 258 (.pointer (some ⟨b, 0, none⟩)) w (by decide)
  have m226 := fun w => tp_miss226 258 (.pointer (some ⟨b, 0, none⟩)) w (by decide)
  have m258 := fun w => tp_hit258 (.pointer (some ⟨b, 0, none⟩)) w
  have HR : Hid (∀ w2, Below w.heap.size w w2 → w2.cell? ⟨gx, o, none⟩ = some y0 ∧ Calls Tryz.prog 178 #[.pointer (some ⟨rb, 0, none⟩), .pointer (some ⟨b, 0, none⟩), y0] w2 (RunC N g rb fuel (s.resume fuel fs v) w)) := fun w2 hB => ⟨(Kept.of_below hB (fun _ => False)).cell id c0, (resume_any N g rb fuel s w2 (h.below hB) y0 v (h0.mono (below_rep hB)) b t T fs hb (Below.at hB hh) (ht.mono (below_rep hB))).mono fun _ _ hr => RunC.after (Kept.of_below hB _) hr.c⟩
  obtain ⟨ty, zy, rfl⟩ := h0.iface
  clear hx hat h hh ht h0
  unfold ptrV at *
  go_enter Tryz.func171, Tryz.ntmps171
  go_wp2_with (first | (go_at_call 205; refine HT.mono ?_; rintro e2 w2 ⟨rfl, hb2⟩; obtain ⟨z0, HC⟩ := HR.out _ hb2) | (go_at_call 178; refine HC.mono ?_; rintro e3 w3 ⟨rfl, hr3⟩))
  go_end0
  exact ⟨rfl, hr3⟩
end Go.Proofs.YtodeeegbajgafaaGreatDoor

namespace Go.Proofs.YtodeeegbajgafaaGreatDoor
open Go.RowKit
open Mc

set_option maxHeartbeats 4000000 in
set_option maxRecDepth 20000 in
theorem callWith_basic (N : Nat → Prop) (g : Gh) (rb fuel : Nat) (s : St) (w : World) (b : Nat) (l m : Int) (n : Nat) (nm fv : Value) (a : Option Addr) (cap : Nat) (T : TypeId) (r : Res)
    (hh : w.heap[b]? = some (.cells #[.int .i64 l, .int .i64 m, nm, fv] T (0, 0))) (hl : l ≤ n) (hm : n ≤ m)
    (HC : ∀ w2, Below w.heap.size w w2 → Calls Tryz.prog 177 #[ptrV rb, ptrV b, .slice a n cap] w2 (RunC N g rb fuel (s.res r) w2)) :
    Calls Tryz.prog 171 #[ptrV rb, .iface 111 (ptrV b), .slice a n cap] w (RunC N g rb fuel (s.res r) w) := by
  have q0 := cell_of_at hh 0
  have q1 := cell_of_at hh 1
  simp only [List.getElem?_toArray, List.getElem?_cons_zero, List.getElem?_cons_succ] at q0 q1
  have hmm := meth111 b _ _ w q0 q1
  have HT := takes_any l m n w hl hm
  have m111 := fun w => tp_hit111 (.pointer (some ⟨b, 0, none⟩)) w
  have HR : Hid (∀ w2, Below w.heap.size w w2 → Calls Tryz.prog 177 #[.pointer (some ⟨rb, 0, none⟩), .pointer (some ⟨b, 0, none⟩), .slice a n cap] w2 (RunC N g rb fuel (s.res r) w)) := fun w2 hB => (HC w2 hB).mono fun _ _ hr => RunC.after (Kept.of_below hB _) hr
  clear hh HC
  unfold ptrV at *
  go_enter Tryz.func171, Tryz.ntmps171
  go_wp2_with (first | (go_at_call 205; refine HT.mono ?_; rintro e2 w2 ⟨rfl, hb2⟩) | (go_at_call 177; refine (HR.out _ hb2).mono ?_; rintro e3 w3 ⟨rfl, hr3⟩))
  go_end0
  exact ⟨rfl, hr3⟩

set_option maxHeartbeats 4000000 in
set_option maxRecDepth 20000 in
theorem callWith_clo (N : Nat → Prop) (g : Gh) (rb fuel : Nat) (s s' : St) (w : World) (h : RunAt N g rb fuel s w) (x : Value) (vs : List V) (hx : RepM g.mb (g.ok N) w x (.vals vs)) (b : Nat) (sl at' : Value) (T : TypeId) (body : List Rd.F) (e : Env) (hb : g.ok N b)
    (hh : w.heap[b]? = some (.cells #[.int .i64 vs.length, .int .i64 vs.length, sl, at'] T (0, 0))) (h1 : RepFs (g.ok N) w sl body) (h2 : RepM g.mb (g.ok N) w at' (.env e)) (hs : s.body body (vs :: e) = some s') :
    Calls Tryz.prog 171 #[ptrV rb, .iface 226 (ptrV b), x] w (RunC N g rb fuel s' w) := by
  have q0 := cell_of_at hh 0
  have q1 := cell_of_at hh 1
  have q2 := cell_of_at hh 2
  have q3 := cell_of_at hh 3
  simp only [List.getElem?_toArray, List.getElem?_cons_zero, List.getElem?_cons_succ] at q0 q1 q2 q3
  have hmm := meth226 b _ _ w q0 q1
  have HT := takes_any vs.length vs.length vs.length w (Int.le_refl _) (Int.le_refl _)
  have m111 := fun w => tp_miss111 226 (.pointer (some ⟨b, 0, none⟩)) w (by decide)
  have m226 := fun w => tp_hit226 (.pointer (some ⟨b, 0, none⟩)) w
  have HR : Hid (∀ w2, Below w.heap.size w w2 → w2.cell? ⟨b, 2, none⟩ = some sl ∧ w2.cell? ⟨b, 3, none⟩ = some at' ∧ Calls Tryz.prog 143 #[.pointer (some ⟨rb, 0, none⟩), sl, .pointer (some ⟨w2.drew.heap.size, 0, none⟩)] (w2.drew.alloc (.cells #[x, at'] 256)) (RunC N g rb fuel s' w)) := fun w2 hB =>
    have hD : Below w.heap.size w w2.drew := hB.drew
    ⟨(Kept.of_below hB (fun _ => False)).cell id q2, (Kept.of_below hB (fun _ => False)).cell id q3, (body_scope N g rb fuel s s' w2.drew (h.below hD) sl at' x body e vs (h1.mono (below_rep hD)) (h2.mono (below_rep hD)) (hx.mono (below_rep hD)) hs).mono fun _ _ hr => RunC.after (Kept.of_below hD _) hr.c⟩
  have hmb := RM.ok h hb
  obtain ⟨p, rfl⟩ := RepM.ptr h2
  obtain ⟨xa, xc, rfl, _, _⟩ := RepM.vals_shape hx
  obtain ⟨fa, fc, rfl, _, _⟩ := RepFs.shape h1
  clear h hh h1 h2 hx hs
  unfold ptrV at *
  go_enter Tryz.func171, Tryz.ntmps171
  go_wp2_with (first | (go_at_call 205; refine HT.mono ?_; rintro e2 w2 ⟨rfl, hb2⟩; obtain ⟨z2, z3, HC⟩ := HR.out _ hb2))
  go_region_held3 (fun X => X.cell? ⟨b, 2, none⟩ = some (.slice (some fa) body.length fc) ∧ X.cell? ⟨b, 3, none⟩ = some (.pointer p)) (go_keep) (first | (go_at_call 143; refine HC.mono ?_; rintro e3 w3 ⟨rfl, g3, hn3, hr3, hk3⟩; have y2 := hk3.cell hmb q2; have y3 := hk3.cell hmb q3))
  all_goals
    go_wp2
    go_end0
    exact ⟨rfl, g3, hn3, hr3, hk3⟩
end Go.Proofs.YtodeeegbajgafaaGreatDoor

namespace Go.Proofs.YtodeeegbajgafaaGreatDoor
open Go.RowKit
open Mc

set_option maxHeartbeats 4000000 in
set_option maxRecDepth 20000 in
theorem call_to (N : Nat → Prop) (g : Gh) (rb fuel : Nat) (s' : St) (w : World) (t : TypeId) (ht : t = 111 ∨ t = 226 ∨ t = 258) (p : Value) (gx o n cap : Nat) (hc : w.cell? ⟨gx, o, none⟩ = some (.iface t p)) (hn : n + 1 ≤ cap) (hcap : cap ≤ maxLen)
    (HW : ∀ o', (¬ cap = 1 → o' = o + 1) → Calls Tryz.prog 171 #[ptrV rb, .iface t p, .slice (some ⟨gx, o', none⟩) n (cap - 1)] w (RunC N g rb fuel s' w)) :
    Calls Tryz.prog 151 #[ptrV rb, .slice (some ⟨gx, o, none⟩) (n + 1) cap] w (RunC N g rb fuel s' w) := by
  have HH := (show Hid _ from HW)
  have hm : cap ≤ 9223372036854775807 := by unfold maxLen at hcap; omega
  have t1 := fun w => tp_111 p w
  have t2 := fun w => tp_226 p w
  have t3 := fun w => tp_258 p w
  have i1 : (1 : Int) ≤ (n : Int) + 1 := by omega
  have i2 : (n : Int) + 1 ≤ (cap : Int) := by omega
  have i3 : (0 : Int) < (n : Int) + 1 := by omega
  clear HW
  unfold ptrV at *
  rcases ht with rfl | rfl | rfl
  · by_cases h1 : cap = 1
    · obtain rfl : n = 0 := by omega
      subst h1
      have H2 := HH.out o (fun e => absurd rfl e)
      have H3 := HH.out (o + 1) (fun e => absurd rfl e)
      go_enter Tryz.func151, Tryz.ntmps151
      go_wp2_with (first | (go_at_call 171; first | (refine H2.mono ?_; rintro e3 w3 ⟨rfl, hr3⟩) | (refine H3.mono ?_; rintro e3 w3 ⟨rfl, hr3⟩)))
      go_end0
      exact ⟨rfl, hr3⟩
    · have H2 := HH.out (o + 1) (fun _ => rfl)
      go_enter Tryz.func151, Tryz.ntmps151
      go_wp2_with (first | (go_at_call 171; refine H2.mono ?_; rintro e3 w3 ⟨rfl, hr3⟩))
      go_end0
      exact ⟨rfl, hr3⟩
  · by_cases h1 : cap = 1
    · obtain rfl : n = 0 := by omega
      subst h1
      have H2 := HH.out o (fun e => absurd rfl e)
      have H3 := HH.out (o + 1) (fun e => absurd rfl e)
      go_enter Tryz.func151, Tryz.ntmps151
      go_wp2_with (first | (go_at_call 171; first | (refine H2.mono ?_; rintro e3 w3 ⟨rfl, hr3⟩) | (refine H3.mono ?_; rintro e3 w3 ⟨rfl, hr3⟩)))
      go_end0
      exact ⟨rfl, hr3⟩
    · have H2 := HH.out (o + 1) (fun _ => rfl)
      go_enter Tryz.func151, Tryz.ntmps151
      go_wp2_with (first | (go_at_call 171; refine H2.mono ?_; rintro e3 w3 ⟨rfl, hr3⟩))
      go_end0
      exact ⟨rfl, hr3⟩
  · by_cases h1 : cap = 1
    · obtain rfl : n = 0 := by omega
      subst h1
      have H2 := HH.out o (fun e => absurd rfl e)
      have H3 := HH.out (o + 1) (fun e => absurd rfl e)
      go_enter Tryz.func151, Tryz.ntmps151
      go_wp2_with (first | (go_at_call 171; first | (refine H2.mono ?_; rintro e3 w3 ⟨rfl, hr3⟩) | (refine H3.mono ?_; rintro e3 w3 ⟨rfl, hr3⟩)))
      go_end0
      exact ⟨rfl, hr3⟩
    · have H2 := HH.out (o + 1) (fun _ => rfl)
      go_enter Tryz.func151, Tryz.ntmps151
      go_wp2_with (first | (go_at_call 171; refine H2.mono ?_; rintro e3 w3 ⟨rfl, hr3⟩))
      go_end0
      exact ⟨rfl, hr3⟩

/-- All but the first of the values. -/
theorem RepM.vals_tail {mb : Nat} {ok : Nat → Prop} {w : World} {x : Value} {v : V} {vs : List V} (h : RepM mb ok w x (.vals (v :: vs))) :
    ∃ g o cap y, x = .slice (some ⟨g, o, none⟩) (vs.length + 1) cap ∧ vs.length + 1 ≤ cap ∧ cap ≤ maxLen ∧ w.cell? ⟨g, o, none⟩ = some y ∧ RepM mb ok w y (.val v) ∧ ∀ o', (¬ cap = 1 → o' = o + 1) → RepM mb ok w (.slice (some ⟨g, o', none⟩) vs.length (cap - 1)) (.vals vs) := by
  cases h with
  | vals g o cap c T _ vf hg hh hn hcap hc hs =>
    simp only [List.length_cons] at hn
    refine ⟨g, o, cap, vf 0, rfl, hn, hcap, by rw [cell_of_at hh]; exact hc 0 (by simp), hs 0 (by simp), fun o' ho => ?_⟩
    refine .vals g o' (cap - 1) c T vs (fun i => vf (i + 1)) hg hh (by omega) (by omega) ?_ ?_
    · intro i hi
      rw [ho (by omega), Nat.add_assoc, Nat.add_comm 1 i]
      exact hc (i + 1) (by simpa using hi)
    · intro i hi
      exact hs (i + 1) (by simpa using hi)

theorem RepM.clo_inv {mb : Nat} {ok : Nat → Prop} {w : World} {x : Value} {k : Nat} {body : List Rd.F} {e : Env} (h : RepM mb ok w x (.val (.clo k body e))) :
    ∃ b s at' T, x = .iface 226 (ptrV b) ∧ ok b ∧ w.heap[b]? = some (.cells #[.int .i64 k, .int .i64 k, s, at'] T (0, 0)) ∧ RepFs ok w s body ∧ RepM mb ok w at' (.env e) := by
  cases h with
  | clo b k s at' T _ _ hb hh h1 h2 => exact ⟨b, s, at', T, rfl, hb, hh, h1, h2⟩
theorem RepM.cont_inv {mb : Nat} {ok : Nat → Prop} {w : World} {x : Value} {fs : List Fr} (h : RepM mb ok w x (.val (.cont fs))) :
    ∃ b t T, x = .iface 258 (ptrV b) ∧ ok b ∧ w.heap[b]? = some (.cells #[.int .i64 1, .int .i64 1, t] T (0, 0)) ∧ RepM mb ok w t (.todo fs) := by
  cases h with
  | cont b t T _ hb hh h1 => exact ⟨b, t, T, rfl, hb, hh, h1⟩

/-- As many arguments as it takes. -/
theorem basic_count {mb i : Nat} {vs : List V} {r : Res} (h : basicDo i vs = some r) (hv : vs.length ≤ maxLen) : (basicTab mb i).1 ≤ (vs.length : Int) ∧ (vs.length : Int) ≤ (basicTab mb i).2.1 := by
  unfold maxLen at hv
  have two : ∀ {a b : Int}, nums vs = some [a, b] → vs.length = 2 := fun hn => by rw [nums_two hn]; rfl
  match i with
  | 0 => simp only [basicDo] at h; split at h; (· rename_i hn; have := two hn; simp only [basicTab]; omega); cases h
  | 1 => simp only [basicDo] at h; split at h; (· rename_i hn; have := two hn; simp only [basicTab]; omega); cases h
  | 2 => simp only [basicDo] at h; split at h; (· rename_i hn; have := two hn; simp only [basicTab]; omega); cases h
  | 5 => simp only [basicDo] at h; split at h; (· rename_i hn; have := two hn; simp only [basicTab]; omega); cases h
  | 8 => simp only [basicDo] at h; split at h; (· simp [basicTab]); cases h
  | 9 => simp only [basicDo] at h; split at h; (· simp [basicTab]); (· simp [basicTab]); cases h
  | 10 => simp only [basicDo] at h; split at h; (· simp [basicTab]); cases h
  | 11 => simp only [basicTab]; omega
  | 13 => simp only [basicDo] at h; split at h; (· simp [basicTab]); (· simp [basicTab]); cases h
  | 20 => simp only [basicDo] at h; split at h; (· simp [basicTab]); cases h
  | 3 => cases h
  | 4 => cases h
  | 6 => cases h
  | 7 => cases h
  | 12 => cases h
  | 14 => cases h
  | 15 => cases h
  | 16 => cases h
  | 17 => cases h
  | 18 => cases h
  | 19 => cases h
  | n + 21 => cases h

/-- What display does, told apart. -/
def ShowC (show_ : V → Option (List UInt8)) : Prop := ∀ (N : Nat → Prop) (g : Gh) (rb fuel : Nat) (s : St) (w : World) (x : Value) (v : V) (t : List UInt8) (b : Nat) (nm fv : Value) (T : TypeId), RunAt N g rb fuel s w → RepM g.mb (g.ok N) w x (.vals [v]) → show_ v = some t → g.ok N b →
  w.heap[b]? = some (.cells #[.int .i64 1, .int .i64 1, nm, fv] T (0, 0)) → RepM g.mb (g.ok N) w (.iface 111 (ptrV b)) (.val (.basic 20)) → Calls Tryz.prog 171 #[ptrV rb, .iface 111 (ptrV b), x] w (RunC N g rb fuel ({ s with shown := s.shown ++ [t] }.give (.atom .empty)) w)
theorem showC_none : ShowC (fun _ => none) := fun _ _ _ _ _ _ _ _ _ _ _ _ _ _ _ h => by cases h

theorem callC_any (show_ : V → Option (List UInt8)) (HS : ShowC show_) : CallC show_ := by
  intro N g rb fuel s s' w x vs h hx hc
  match vs with
  | [] => cases hc
  | v :: args =>
    obtain ⟨gx, o, cap, y, rfl, hn, hcap, hcell, hy, ht⟩ := hx.vals_tail
    match v with
    | .atom a => cases hc
    | .pair a b => cases hc
    | .basic i =>
      obtain ⟨b, nm, T, fv, rfl, hb, hh, hf⟩ := hy.basic_inv
      refine call_to N g rb fuel s' w 111 (Or.inl rfl) _ gx o args.length cap hcell hn hcap fun o' ho => ?_
      have hxt := ht o' ho
      simp only [St.call] at hc
      have hlen : args.length ≤ maxLen := by omega
      have go : ∀ r, basicDo i args = some r → (∀ u, r ≠ .shows u) → (∀ y, r = .wrong y → y ≠ 0) → Calls Tryz.prog 171 #[ptrV rb, .iface 111 (ptrV b), .slice (some ⟨gx, o', none⟩) args.length (cap - 1)] w (RunC N g rb fuel (s.res r) w) := by
        intro r hr hns hw0
        obtain ⟨c1, c2⟩ := basic_count (mb := g.mb) hr hlen
        refine callWith_basic N g rb fuel s w b _ _ args.length nm fv _ _ T r hh c1 c2 fun w2 hB => ?_
        have hst := below_rep (ok := g.ok N) hB
        refine callBasic_any N g rb fuel s w2 (h.below hB) b _ _ nm fv _ T r (Below.at hB hh) ⟨_, _, _, rfl⟩ hns hw0 ?_
        refine basic_do (fun k hk => Gh.ok_new (h.below hB).m k hk) (hxt.mono hst) hr hns ?_
        rcases hf with hf | ⟨c, y, T', e1, e2, e3, e4⟩
        · exact Or.inl hf
        · exact Or.inr ⟨c, y, T', e1, e2, e3, Below.at hB e4⟩
      split at hc
      · rename_i u hd
        cases hc
        exact go _ hd (fun _ e => by cases e) (fun _ e => by cases e)
      · rename_i u hd
        cases hc
        refine go _ hd (fun _ e => by cases e) (fun _ e => ?_)
        cases e
        match i with
        | 9 => simp only [basicDo] at hd; split at hd; (· cases hd); (· cases hd; decide); cases hd
        | 0 => simp only [basicDo] at hd; split at hd; (· rename_i a b _; cases h' : fold (fun x y => x + y) 0 [a, b] <;> rw [h'] at hd <;> cases hd); cases hd
        | 1 => simp only [basicDo] at hd; split at hd; (· rename_i a b _; cases h' : fold (fun x y => x * y) 1 [a, b] <;> rw [h'] at hd <;> cases hd); cases hd
        | 2 => simp only [basicDo] at hd; split at hd; (· rename_i a b _; cases h' : fold (fun x y => x - y) a [b] <;> rw [h'] at hd <;> cases hd); cases hd
        | 5 => simp only [basicDo] at hd; split at hd <;> cases hd
        | 8 => simp only [basicDo] at hd; split at hd <;> cases hd
        | 10 => simp only [basicDo] at hd; split at hd <;> cases hd
        | 11 => cases hd
        | 13 => simp only [basicDo] at hd; split at hd <;> cases hd
        | 20 => simp only [basicDo] at hd; split at hd <;> cases hd
        | 3 => cases hd
        | 4 => cases hd
        | 6 => cases hd
        | 7 => cases hd
        | 12 => cases hd
        | 14 => cases hd
        | 15 => cases hd
        | 16 => cases hd
        | 17 => cases hd
        | 18 => cases hd
        | 19 => cases hd
        | n + 21 => cases hd
      · rename_i u hd
        split at hc
        · rename_i t hst
          cases hc
          have hi : i = 20 ∧ args = [u] := by
            match i with
            | 20 => simp only [basicDo] at hd; split at hd; (· cases hd; exact ⟨rfl, rfl⟩); cases hd
            | 9 => simp only [basicDo] at hd; split at hd <;> cases hd
            | 0 => simp only [basicDo] at hd; split at hd; (· rename_i a b _; cases h' : fold (fun x y => x + y) 0 [a, b] <;> rw [h'] at hd <;> cases hd); cases hd
            | 1 => simp only [basicDo] at hd; split at hd; (· rename_i a b _; cases h' : fold (fun x y => x * y) 1 [a, b] <;> rw [h'] at hd <;> cases hd); cases hd
            | 2 => simp only [basicDo] at hd; split at hd; (· rename_i a b _; cases h' : fold (fun x y => x - y) a [b] <;> rw [h'] at hd <;> cases hd); cases hd
            | 5 => simp only [basicDo] at hd; split at hd <;> cases hd
            | 8 => simp only [basicDo] at hd; split at hd <;> cases hd
            | 10 => simp only [basicDo] at hd; split at hd <;> cases hd
            | 11 => cases hd
            | 13 => simp only [basicDo] at hd; split at hd <;> cases hd
            | 3 => cases hd
            | 4 => cases hd
            | 6 => cases hd
            | 7 => cases hd
            | 12 => cases hd
            | 14 => cases hd
            | 15 => cases hd
            | 16 => cases hd
            | 17 => cases hd
            | 18 => cases hd
            | 19 => cases hd
            | n + 21 => cases hd
          obtain ⟨rfl, rfl⟩ := hi
          exact HS N g rb fuel s w _ u t b nm fv T h hxt hst hb hh hy
        · cases hc
      · cases hc
    | .clo k body e =>
      obtain ⟨b, sl, at', T, rfl, hb, hh, h1, h2⟩ := hy.clo_inv
      refine call_to N g rb fuel s' w 226 (Or.inr (Or.inl rfl)) _ gx o args.length cap hcell hn hcap fun o' ho => ?_
      simp only [St.call] at hc
      split at hc
      · rename_i hk
        subst hk
        exact callWith_clo N g rb fuel s s' w h _ args (ht o' ho) b sl at' T body e hb hh h1 h2 hc
      · cases hc
    | .cont todo =>
      obtain ⟨b, tv, T, rfl, hb, hh, h1⟩ := hy.cont_inv
      match args with
      | [] => cases hc
      | [u] =>
        refine call_to N g rb fuel s' w 258 (Or.inr (Or.inr rfl)) _ gx o 1 cap hcell hn hcap fun o' ho => ?_
        have hs : s' = s.resume fuel todo u := by
          simp only [St.call] at hc
          unfold St.resume
          split at hc <;> (rename_i e; rw [e]; cases hc; rfl)
        rw [hs]
        exact callWith_cont N g rb fuel s w h _ u (ht o' ho) b tv T todo hb hh h1
      | _ :: _ :: _ => cases hc
end Go.Proofs.YtodeeegbajgafaaGreatDoor
