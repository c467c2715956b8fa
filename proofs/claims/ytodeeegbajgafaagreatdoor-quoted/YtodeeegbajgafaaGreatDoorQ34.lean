/- data.Show. Forms are evaluated in turn. A machine runs forms. The procedures that are there are made. A new machine. -/
import Derived.Test.YtodeeegbajgafaaGreatDoorQ29
import Derived.Test.YtodeeegbajgafaaGreatDoorQ26
import Derived.Test.YtodeeegbajgafaaGreatDoorQ01
import Derived.Laws.IdiomStrings
import Derived.Deep.RegionHeld3
namespace Go.Proofs.YtodeeegbajgafaaGreatDoor
open Go.RowKit
open Mc

set_option maxHeartbeats 1000000 in
theorem parts_atom (p : Int) (h0 : -1000 ≤ p) (h1 : p ≤ 1000) (a : Rd.A) (w : World) : Calls Tryz.prog 114 #[.int .i64 p, aV a] w fun e w' => e = .returned (.int .i64 (p - 1)) ∧ w' = w := by
  obtain ⟨t, z, hz, ht⟩ := aV_no124 a
  rw [hz]
  have miss := fun w => ta_miss124 t z w ht
  clear hz
  go_enter Tryz.func114, Tryz.ntmps114
  go_wp2
  go_ret
  exact ⟨rfl, rfl⟩

set_option maxHeartbeats 4000000 in
set_option maxRecDepth 10000 in
theorem parts_nums (mb : Nat) (ok : Nat → Prop) : ∀ (ns : List Int) (p : Int) (w : World) (x : Value), RepM mb ok w x (.val (listV (ns.map numV))) → 2 * (ns.length : Int) + 1 ≤ p → p ≤ 1000 →
    Calls Tryz.prog 114 #[.int .i64 p, x] w fun e w' => e = .returned (.int .i64 (p - (2 * (ns.length : Int) + 1))) ∧ Below w.heap.size w w' := by
  intro ns
  induction ns with
  | nil =>
    intro p w x h h0 h1
    obtain rfl : x = aV .empty := h.atom_inv
    refine (parts_atom p (by simp at h0; omega) h1 .empty w).mono ?_
    rintro e w' ⟨rfl, rfl⟩
    exact ⟨by simp, Below.refl _ _⟩
  | cons m ns ih =>
    intro p w x h h0 h1
    rw [listV_nums] at h
    obtain ⟨b, y, z, T, rfl, hb, hh, hy, hz⟩ := h.pair_inv
    obtain rfl := hy.atom_inv
    obtain ⟨tz, xz, rfl⟩ := hz.iface
    obtain ⟨q0, q1, _, _⟩ := cells2 hh
    simp only [List.length_cons] at h0
    obtain ⟨q, rfl⟩ : ∃ q, p = q + 1 := ⟨p - 1, by omega⟩
    have H1 := parts_atom q (by omega) (by omega) (.num m) w.drew
    have H2 := ih (q - 1) w.drew (.iface tz xz) (hz.mono fun _ _ ho => ⟨ho, rfl⟩) (by omega) (by omega)
    have hit := fun w => ta_hit124 (.pointer (some ⟨b, 0, none⟩)) w
    have i1 : (0 : Int) ≤ q := by omega
    have i2 : -9223372036854775808 ≤ q := by omega
    have i3 : q ≤ 9223372036854775807 := by omega
    have HP : Hid (q - 1 - (2 * (ns.length : Int) + 1) = q + 1 - (2 * ((m :: ns).length : Int) + 1)) := by
      show q - 1 - (2 * (ns.length : Int) + 1) = q + 1 - (2 * ((m :: ns).length : Int) + 1)
      simp only [List.length_cons]; omega
    have keep : ∀ W, Below w.heap.size w W → W.cell? ⟨b, 0, none⟩ = some (aV (.num m)) ∧ W.cell? ⟨b, 1, none⟩ = some (.iface tz xz) := fun W hb => ⟨(Kept.of_below hb (fun _ => False)).cell id q0, (Kept.of_below hb (fun _ => False)).cell id q1⟩
    have HK := (show Hid _ from keep)
    clear h hh hy hz keep h0 ih
    unfold ptrV
    generalize q - 1 - (2 * (ns.length : Int) + 1) = r at *
    generalize q + 1 - (2 * ((m :: ns).length : Int) + 1) = r' at *
    generalize q - 1 = q1 at *
    simp only [aV] at *
    go_enter Tryz.func114, Tryz.ntmps114
    go_wp2
    go_region_held3 (fun X => X.cell? ⟨b, 0, none⟩ = some (.iface 147 (.int .i64 m)) ∧ X.cell? ⟨b, 1, none⟩ = some (.iface tz xz)) (go_keep) (first | (go_at_call_of 114 (Value.iface 147 (.int .i64 m)); refine H1.mono ?_; rintro e2 w2 ⟨rfl, rfl⟩) | (go_at_call_of 114 (Value.iface tz xz); refine H2.mono ?_; rintro e3 w3 ⟨rfl, hb3⟩; obtain ⟨z0, z1⟩ := HK.out _ (((Below.refl _ w).drew).trans hb3)))
    all_goals
      go_wp2
      go_ret
      exact ⟨(by rw [HP.out]; rfl), ((Below.refl _ w).drew).trans hb3⟩
theorem own_string {w : World} {B : Nat} {v : Value} {txt : List UInt8} (h : w.ownsRow B 5 1 v txt.length (Lib.byteCells txt)) (ht : txt ≠ []) : (convert 58 9 v).run Tryz.prog w = .ok (.string ⟨txt.toArray⟩) w := by
  have hc := h
  obtain ⟨_, ⟨rfl, h0⟩ | ⟨g, cap, cur, rfl, _⟩⟩ := h
  · exact absurd (List.length_eq_zero_iff.1 h0) ht
  · refine run_convert_bytes_back w 58 9 5 ⟨g, 0, none⟩ cap txt Tryz.underlying58 Tryz.underlying5 Tryz.underlying9 fun j hj => ?_
    refine hc.cells (g := g) rfl j _ ?_
    simp [Lib.byteCells, hj]
/-- A value is shown so. -/
def ShowR (txt : List UInt8) (w : World) : Ending → World → Prop := fun e w' => e = .returned (.tuple #[.string ⟨txt.toArray⟩, .bool true]) ∧ Below w.heap.size w w'
set_option maxHeartbeats 4000000 in
set_option maxRecDepth 20000 in
theorem show_gen (w : World) (t : TypeId) (y y' : Value) (txt : List UInt8) (r : Int) (k : Nat) (hk : k = 206 ∨ k = 207 ∨ k = 208 ∨ k = 209) (hr : 0 ≤ r) (htx : txt ≠ []) (HP : Calls Tryz.prog 114 #[.int .i64 300, .iface t y] w fun e w' => e = .returned (.int .i64 r) ∧ Below w.heap.size w w')
    (hm : ∀ W, Sem.run Tryz.prog (method 400 t y "AppendShown") W = .ok (k, y') W) (hA : ∀ W, Below w.heap.size w W → Calls Tryz.prog k #[y', .slice none 0 0] W (AppR w.heap.size 0 [] txt W)) : Calls Tryz.prog 65 #[.iface t y] w (ShowR txt w) := by
  have HA := (show Hid _ from hA)
  have hr' : ¬ r < 0 := by omega
  clear hA
  rcases hk with rfl | rfl | rfl | rfl
  · go_enter Tryz.func65, Tryz.ntmps65
    go_wp2_with (first | (go_at_call 114; refine HP.mono ?_; rintro e2 w2 ⟨rfl, hb2⟩; have HA2 := HA.out _ hb2) | (go_at_call 206; refine HA2.mono ?_; rintro e3 w3 ⟨v3, rfl, ho3, hb3⟩; simp only [Nat.zero_add, List.nil_append] at ho3; have hcv := own_string ho3 htx; obtain ⟨a3, k3, c3, rfl⟩ := owns_slice ho3; clear ho3))
    go_ret2
    exact ⟨rfl, hb2.trans hb3⟩
  · go_enter Tryz.func65, Tryz.ntmps65
    go_wp2_with (first | (go_at_call 114; refine HP.mono ?_; rintro e2 w2 ⟨rfl, hb2⟩; have HA2 := HA.out _ hb2) | (go_at_call 207; refine HA2.mono ?_; rintro e3 w3 ⟨v3, rfl, ho3, hb3⟩; simp only [Nat.zero_add, List.nil_append] at ho3; have hcv := own_string ho3 htx; obtain ⟨a3, k3, c3, rfl⟩ := owns_slice ho3; clear ho3))
    go_ret2
    exact ⟨rfl, hb2.trans hb3⟩
  · go_enter Tryz.func65, Tryz.ntmps65
    go_wp2_with (first | (go_at_call 114; refine HP.mono ?_; rintro e2 w2 ⟨rfl, hb2⟩; have HA2 := HA.out _ hb2) | (go_at_call 208; refine HA2.mono ?_; rintro e3 w3 ⟨v3, rfl, ho3, hb3⟩; simp only [Nat.zero_add, List.nil_append] at ho3; have hcv := own_string ho3 htx; obtain ⟨a3, k3, c3, rfl⟩ := owns_slice ho3; clear ho3))
    go_ret2
    exact ⟨rfl, hb2.trans hb3⟩
  · go_enter Tryz.func65, Tryz.ntmps65
    go_wp2_with (first | (go_at_call 114; refine HP.mono ?_; rintro e2 w2 ⟨rfl, hb2⟩; have HA2 := HA.out _ hb2) | (go_at_call 209; refine HA2.mono ?_; rintro e3 w3 ⟨v3, rfl, ho3, hb3⟩; simp only [Nat.zero_add, List.nil_append] at ho3; have hcv := own_string ho3 htx; obtain ⟨a3, k3, c3, rfl⟩ := owns_slice ho3; clear ho3))
    go_ret2
    exact ⟨rfl, hb2.trans hb3⟩

theorem own_none (B : Nat) (w : World) : w.ownsRow B 5 1 (.slice none 0 0) 0 [] := ⟨rfl, Or.inl ⟨rfl, rfl⟩⟩
theorem parts_b (a : Rd.A) (w : World) : Calls Tryz.prog 114 #[.int .i64 300, aV a] w fun e w' => e = .returned (.int .i64 299) ∧ Below w.heap.size w w' := (parts_atom 300 (by omega) (by omega) a w).mono fun _ _ ⟨h1, h2⟩ => ⟨h1, h2 ▸ Below.refl _ _⟩
theorem show_num (n : Int) (h0 : -9223372036854775808 ≤ n) (h1 : n ≤ 9223372036854775807) (hne : Lib.itoa n ≠ []) (w : World) (ht : Tab w.heap.size w) : Calls Tryz.prog 65 #[aV (.num n)] w (ShowR (Lib.itoa n) w) :=
  show_gen w 147 (.int .i64 n) (.int .i64 n) (Lib.itoa n) 299 209 (by decide) (by omega) hne (parts_b (.num n) w) (fun W => shown147 n W) fun W hb => app_num w.heap.size 0 n h0 h1 _ [] W (own_none _ _) hb.size (by omega) (ht.on hb)
theorem show_sym (s : List UInt8) (hne : s ≠ []) (hl : s.length ≤ 1000) (w : World) : Calls Tryz.prog 65 #[aV (.sym s)] w (ShowR s w) :=
  show_gen w 115 (.string ⟨s.toArray⟩) (.string ⟨s.toArray⟩) s 299 206 (by decide) (by omega) hne (parts_b (.sym s) w) (fun W => shown115 _ W) fun W hb => app_sym w.heap.size 0 s _ [] W (own_none _ _) hb.size (by omega)
theorem show_empty (w : World) : Calls Tryz.prog 65 #[aV .empty] w (ShowR [40, 41] w) :=
  show_gen w 146 (.agg #[]) (.agg #[]) [40, 41] 299 208 (by decide) (by omega) (by decide) (parts_b .empty w) (fun W => shown146 W) fun W hb => app_empty w.heap.size 0 _ [] W (own_none _ _) hb.size (by omega)
theorem show_nums (mb : Nat) (ok : Nat → Prop) (m : Int) (ns : List Int) (hns : ∀ k ∈ m :: ns, -100 < k ∧ k < 1000) (hl : ns.length ≤ 100) (w : World) (ht : Tab w.heap.size w) (x : Value) (hx : RepM mb ok w x (.val (listV ((m :: ns).map numV)))) :
    Calls Tryz.prog 65 #[x] w (ShowR (40 :: (Lib.itoa m ++ (Rd.numsT ns ++ [41]))) w) := by
  have hP := parts_nums mb ok (m :: ns) 300 w x hx (by simp; omega) (by omega)
  have hx' := hx
  rw [listV_nums] at hx'
  obtain ⟨b, y, z, T, rfl, _⟩ := hx'.pair_inv
  refine show_gen w 124 (ptrV b) (ptrV b) _ _ 207 (by decide) (by simp; omega) (by simp) hP (fun W => shown124 b W) fun W hb => ?_
  exact app_pair w.heap.size mb 0 b m ns hns (by omega) _ [] W (own_none _ _) hb.size (by omega) (ht.on hb) (hx.mono fun k hk _ => ⟨hk, hb.block k hk⟩)
end Go.Proofs.YtodeeegbajgafaaGreatDoor

namespace Go.Proofs.YtodeeegbajgafaaGreatDoor
open Go.RowKit
open Mc

theorem RepFs.at {ok : Nat → Prop} {w : World} {sl : Value} {fs : List Rd.F} (h : RepFs ok w sl fs) :
    ∃ g o cap, sl = .slice (some ⟨g, o, none⟩) fs.length cap ∧ fs.length ≤ cap ∧ cap ≤ 100000 ∧ ok g ∧ ∀ i (hi : i < fs.length), ∃ v, w.cell? ⟨g, o + i, none⟩ = some v ∧ RepF ok w v fs[i] := by
  cases h with
  | list g o cap c T _ vf hg hh hn hcap hc hs =>
    exact ⟨g, o, cap, rfl, hn, hcap, hg, fun i hi => ⟨vf i, by rw [cell_of_at hh]; exact hc i hi, hs i hi⟩⟩

/-- A new block that holds no data. -/
theorem RunAt0.apart {N : Nat → Prop} {g : Gh} {rb fuel : Nat} {s : St} {w : World} (h : RunAt0 N g rb fuel s w) (o : Obj) : RunAt0 (fun k => N k ∨ k = w.heap.size) g rb fuel s (w.alloc o) := by
  have hk : ∀ k, k < w.heap.size → g.ok N k → g.ok (fun k => N k ∨ k = w.heap.size) k ∧ (w.alloc o).heap[k]? = w.heap[k]? := fun k hk ho => ⟨⟨fun e => by rcases e with e | e; exact ho.1 e; omega, ho.2⟩, Below.heap_alloc _ _ _ hk⟩
  obtain ⟨T, vf, va, vv, vt, vb, hb, ht, hy⟩ := h.blk
  refine ⟨Or.inl h.inN, h.m.kept (fun k hm => Below.heap_alloc _ _ _ (Gh.low h.m k hm)) hk ?_ ?_, ⟨T, vf, va, vv, vt, vb, at_alloc hb _, ht.mono hk, hy.mono hk⟩, h.bound⟩
  · rintro k (e | rfl)
    · have := h.m.low k e; simp; omega
    · simp
  · rintro k hm (e | rfl)
    · exact h.m.disj k hm e
    · exact Nat.lt_irrefl _ (Gh.low h.m _ hm)
/-- What holds no data may change. -/
theorem RunAt.other {N N' : Nat → Prop} {g : Gh} {rb fuel : Nat} {s : St} {w w' : World} (h : RunAt N g rb fuel s w) (hs : w.heap.size ≤ w'.heap.size) (hw : ∀ k, k < w.heap.size → ¬ N k ∨ k = rb → w'.heap[k]? = w.heap[k]?) (hN : ∀ k, N' k → N k) (hrb : N' rb) : RunAt N' g rb fuel s w' := by
  have hk : ∀ k, k < w.heap.size → g.ok N k → g.ok N' k ∧ w'.heap[k]? = w.heap[k]? := fun k hk ho => ⟨⟨fun e => ho.1 (hN k e), ho.2⟩, hw k hk (Or.inl ho.1)⟩
  obtain ⟨T, vf, va, vv, vt, vb, hb, hc, ht, hy⟩ := h.blk
  refine ⟨hrb, h.m.kept (fun k hm => hw k (Gh.low h.m k hm) (Or.inl (h.m.disj k hm))) hk (fun k e => Nat.lt_of_lt_of_le (h.m.low k (hN k e)) hs) (fun k hm e => h.m.disj k hm (hN k e)), ⟨T, vf, va, vv, vt, vb, (hw rb (lt_of_at hb) (Or.inr rfl)).trans hb, hc.mono hk, ht.mono hk, hy.mono hk⟩, h.bound⟩

/-- What a run came to. -/
def outCells (t : St) (txt : List UInt8) : List Value := if t.kind = 0 then [.int .i64 1, .string ⟨txt.toArray⟩, .int .i64 0, .int .i64 0, .slice none 0 0] else [.int .i64 t.kind, .string ⟨#[]⟩, .int .i64 t.why, .int .i64 0, .slice none 0 0]
/-- How a value is shown. -/
def ShowsAs (v : V) (txt : List UInt8) : Prop := ∀ (mb : Nat) (ok : Nat → Prop) (w : World) (x : Value), RepM mb ok w x (.val v) → Tab w.heap.size w → Calls Tryz.prog 65 #[x] w (ShowR txt w)
def AllR (N : Nat → Prop) (g : Gh) (rb fuel : Nat) (t : St) (txt : List UInt8) (w : World) : Ending → World → Prop := fun e w' => e = .returned (.agg (outCells t txt).toArray) ∧ ∃ g', Gh.Next w g g' ∧ RunAt N g' rb fuel t w' ∧ Kept (RM g rb) w w'
def set5 (w : World) (k : Nat) (a b c d e : Value) : World := ((((w.setCell ⟨k, 0, none⟩ a).setCell ⟨k, 1, none⟩ b).setCell ⟨k, 2, none⟩ c).setCell ⟨k, 3, none⟩ d).setCell ⟨k, 4, none⟩ e
theorem set5_at {w : World} {k : Nat} {a b c d e : Value} {T : TypeId} (h : w.heap[k]? = some (.cells #[a, b, c, d, e] T (0, 0))) (a' b' c' d' e' : Value) : (set5 w k a' b' c' d' e').heap[k]? = some (.cells #[a', b', c', d', e'] T (0, 0)) := by
  unfold set5
  rw [at_setCell (at_setCell (at_setCell (at_setCell (at_setCell h 0 _) 1 _) 2 _) 3 _) 4 _]
  simp
theorem set5_ne (w : World) (k j : Nat) (a b c d e : Value) (h : j ≠ k) : (set5 w k a b c d e).heap[j]? = w.heap[j]? := by
  unfold set5
  rw [Below.heap_setCell _ _ _ _ h, Below.heap_setCell _ _ _ _ h, Below.heap_setCell _ _ _ _ h, Below.heap_setCell _ _ _ _ h, Below.heap_setCell _ _ _ _ h]
theorem set5_size (w : World) (k : Nat) (a b c d e : Value) : (set5 w k a b c d e).heap.size = w.heap.size := by simp [set5]
theorem set5_kept {M : Nat → Prop} {w w' : World} (h : Kept M w w') {k : Nat} (hm : k < w.heap.size → M k) (a b c d e : Value) : Kept M w (set5 w' k a b c d e) :=
  ((((h.setCell (p := ⟨k, 0, none⟩) hm a).setCell (p := ⟨k, 1, none⟩) hm b).setCell (p := ⟨k, 2, none⟩) hm c).setCell (p := ⟨k, 3, none⟩) hm d).setCell (p := ⟨k, 4, none⟩) hm e

theorem RunAt.val {N : Nat → Prop} {g : Gh} {rb fuel : Nat} {s : St} {w : World} (h : RunAt N g rb fuel s w) {v : V} (hc : s.ctl = .val v) : ∃ t z, w.cell? ⟨rb, 5, none⟩ = some (.iface t z) ∧ RepM g.mb (g.ok N) w (.iface t z) (.val v) := by
  obtain ⟨T, vf, va, vv, vt, vb, hb, hcc, ht, hy⟩ := h.blk
  rw [hc] at hcc
  obtain ⟨_, h2⟩ := hcc
  obtain ⟨t, z, rfl⟩ := h2.iface
  have c5 := cell_of_at hb 5
  simp only [runCells, List.getElem?_toArray, List.getElem?_cons_zero, List.getElem?_cons_succ] at c5
  exact ⟨t, z, c5, h2⟩
theorem RunAt.cells {N : Nat → Prop} {g : Gh} {rb fuel : Nat} {s : St} {w : World} (h : RunAt N g rb fuel s w) : w.cell? ⟨rb, 8, none⟩ = some (.int .i64 s.kind) ∧ w.cell? ⟨rb, 9, none⟩ = some (.int .i64 s.why) ∧ w.cell? ⟨rb, 2, none⟩ = some (.int .i64 s.steps) := by
  obtain ⟨T, vf, va, vv, vt, vb, hb, hcc, ht, hy⟩ := h.blk
  exact ⟨cell_of_at hb 8, cell_of_at hb 9, cell_of_at hb 2⟩

/-- Where the loop stands. -/
structure AllG (show_ : V → Option (List UInt8)) (N : Nat → Prop) (g : Gh) (rb fuel : Nat) (t : St) (txt : List UInt8) (fs : List Rd.F) (w0 : World) (k : Nat) (v5 v12 : Value) (wr : World) (g1 : Gh) (s1 : St) (done todo : List Rd.F) : Prop where
  parts : fs = done ++ todo
  count : k = todo.length
  idx : v12 = .int .i64 (done.length : Nat)
  next : Gh.Next w0 g g1
  run : RunAt0 N g1 rb fuel s1 wr
  full : todo = [] → RunAt N g1 rb fuel s1 wr
  kept : Kept (RM g rb) w0 wr
  rest : (todo ≠ [] ∧ Mc.Ends fuel show_ s1 todo t ∧ v5 = .string ⟨#[]⟩) ∨ (todo = [] ∧ s1 = t ∧ t.kind = 0 ∧ v5 = .string ⟨txt.toArray⟩)

set_option maxHeartbeats 8000000 in
set_option maxRecDepth 20000 in
theorem all_any (show_ : V → Option (List UInt8)) (HC : CallC show_) (N : Nat → Prop) (g : Gh) (rb fuel : Nat) (s t : St) (txt : List UInt8) (w : World) (h : RunAt0 N g rb fuel s w) (sl : Value) (fs : List Rd.F) (hs : RepFs (g.ok N) w sl fs) (hx : Mc.Ends fuel show_ s fs t) (hne : fs ≠ []) (hshow : t.kind = 0 → ∀ v, t.ctl = .val v → ShowsAs v txt) (htab : ∀ W, Kept (RM g rb) w W → Tab W.heap.size W) :
    Calls Tryz.prog 37 #[ptrV rb, sl] w (AllR N g rb fuel t txt w) := by
  have h0 := h.apart (.cells #[.int .i64 0, .string ⟨#[]⟩, .int .i64 0, .int .i64 0, .slice none 0 0] 34)
  have hnew := at_new w (.cells #[.int .i64 0, .string ⟨#[]⟩, .int .i64 0, .int .i64 0, .slice none 0 0] 34)
  have hs0 : RepFs (g.ok (fun k => N k ∨ k = w.heap.size)) (w.alloc (.cells #[.int .i64 0, .string ⟨#[]⟩, .int .i64 0, .int .i64 0, .slice none 0 0] 34)) sl fs := hs.mono fun k hk ho => ⟨⟨fun e => by rcases e with e | e; exact ho.1 e; omega, ho.2⟩, Below.heap_alloc _ _ _ hk⟩
  have hk0 : Kept (RM g rb) w (w.alloc (.cells #[.int .i64 0, .string ⟨#[]⟩, .int .i64 0, .int .i64 0, .slice none 0 0] 34)) := (Kept.refl _ w).alloc _
  have hlow := Gh.low h.m
  have hrb := h.inN
  have hrlt := h.m.low rb h.inN
  generalize hW0 : w.alloc (.cells #[.int .i64 0, .string ⟨#[]⟩, .int .i64 0, .int .i64 0, .slice none 0 0] 34) = w0 at *
  have hsz : w0.heap.size = w.heap.size + 1 := by rw [← hW0]; simp
  obtain ⟨ga, oa, cap, rfl, hn, hcap, hga, hat⟩ := hs0.at
  have HX := (show Hid _ from hx)
  have HS0 := (show Hid _ from hs0)
  have HW : Hid (w.alloc (.cells #[.int .i64 0, .string ⟨#[]⟩, .int .i64 0, .int .i64 0, .slice none 0 0] 34) = w0) := hW0
  have hm1 : ¬ RM g rb w.heap.size := fun e => by
    rcases e with e | e
    · omega
    · have := hlow _ e; omega
  clear hat hx hs hs0 h hW0
  have hnl : fs.length ≤ 100000 := by omega
  unfold ptrV
  go_enter Tryz.func37, Tryz.ntmps37
  go_wp2
  rw [HW.out]
  go_loopg [5, 12] fs.length (fun k v5 v12 wr => ∃ g1 s1 done todo, AllG show_ (fun k => N k ∨ k = w.heap.size) g rb fuel t txt fs w0 k v5 v12 wr g1 s1 done todo)
  case atStart => exact ⟨g, s, [], fs, rfl, rfl, rfl, Gh.Next.refl _ _, h0, fun e => absurd e hne, Kept.refl _ _, Or.inl ⟨hne, HX.out, rfl⟩⟩
  case round =>
    obtain ⟨g1, s1, done, todo, hG⟩ := hrel
    have HG := (show Hid _ from hG)
    obtain rfl := hG.idx
    rcases hG.rest with ⟨hne1, hends, rfl⟩ | ⟨rfl, rfl, hk0', rfl⟩
    · obtain ⟨f, rest, rfl⟩ : ∃ f r, todo = f :: r := by
        cases todo with
        | nil => exact absurd rfl hne1
        | cons f r => exact ⟨f, r, rfl⟩
      have hlt : done.length < fs.length := by rw [hG.parts]; simp
      have hfi : fs[done.length]'hlt = f := by
        have : fs[done.length]? = some f := by rw [hG.parts]; simp
        rw [List.getElem?_eq_getElem hlt] at this
        exact Option.some.inj this
      have hsr : RepFs (g1.ok (fun k => N k ∨ k = w.heap.size)) wr (.slice (some ⟨ga, oa, none⟩) fs.length cap) fs := HS0.out.mono fun k hk ho => ⟨hG.next.ok hk ho, hG.kept.block k hk fun e => by
        rcases e with rfl | e
        · exact ho.1 (Or.inl hrb)
        · exact ho.2 e⟩
      obtain ⟨ga', oa', cap', he, _, _, _, hat'⟩ := hsr.at
      cases he
      obtain ⟨v, cv, hv⟩ := hat' done.length hlt
      rw [hfi] at hv
      have i1 : (done.length : Int) < (fs.length : Int) := by omega
      have i2 : -9223372036854775808 ≤ (done.length : Int) + 1 := by omega
      have i3 : (done.length : Int) + 1 ≤ 9223372036854775807 := by omega
      have i4 : -9223372036854775808 ≤ (fs.length : Int) - 1 := by omega
      have i5 : (fs.length : Int) - 1 ≤ 9223372036854775807 := by omega
      have hpp := hG.parts
      have HT : Hid (∀ W, Kept (RM g1 rb) wr W → Tab W.heap.size W) := fun W hW => htab W (hk0.trans (hG.kept.chain hW hG.next.rm))
      cases hends with
      | @more n _ t1 _ _ f' fs' hr1 he1 hk1 hrest =>
        have hkb : (t1.kind == 0) = true := by rw [hk1]; rfl
        have HWH : Hid (Calls Tryz.prog 64 #[.pointer (some ⟨rb, 0, none⟩), v] wr fun e w' => e = .returned (.bool true) ∧ ∃ g', Gh.Next wr g1 g' ∧ RunAt (fun k => N k ∨ k = w.heap.size) g' rb fuel t1 w' ∧ Kept (RM g1 rb) wr w') := (whole_any show_ HC _ g1 rb fuel n s1 t1 wr hG.run v f hv hr1 he1).mono fun e w' hr => by rw [WholeR, hkb] at hr; exact hr
        have HR : Hid (∀ W g2, Gh.Next wr g1 g2 → RunAt (fun k => N k ∨ k = w.heap.size) g2 rb fuel t1 W → Kept (RM g1 rb) wr W → ∃ g3 s3 d3 t3, AllG show_ (fun k => N k ∨ k = w.heap.size) g rb fuel t txt fs w0 (f' :: fs').length (.string ⟨#[]⟩) (.int .i64 ((done.length : Int) + 1)) W g3 s3 d3 t3) := fun W g2 hn2 hr2 hk2 => by
          refine ⟨g2, t1, done ++ [f], f' :: fs', by rw [hpp]; simp, rfl, by simp, HG.out.next.trans hn2 HG.out.kept.size, hr2.r0, (fun e => by cases e), HG.out.kept.chain hk2 HG.out.next.rm, Or.inl ⟨by simp, hrest, rfl⟩⟩
        have i6 : (done.length : Int) < (fs.length : Int) - 1 := by
          have : fs.length = done.length + (2 + fs'.length) := by rw [hpp]; simp; omega
          omega
        have hms : (f' :: fs').length < gk := by rw [hG.count]; simp
        obtain ⟨tv, xv, rfl⟩ := RepF.iface hv
        clear hG hsr hat' hv hr1 he1 hrest hpp hfi HX HS0 h0 hk0 hnew hlow HT
        go_wp2_with (first | (go_at_call 64; refine HWH.out.mono ?_; rintro e2 w2 ⟨rfl, g2, hn2, hr2, hk2⟩; have HRR := (show Hid _ from HR.out _ _ hn2 hr2 hk2); clear hn2 hr2 hk2))
        go_roundg (f' :: fs').length
        case measure => exact hms
        case rel => exact HRR.out
      | @one n _ _ _ hr1 he1 =>
        obtain ⟨tv, xv, rfl⟩ := RepF.iface hv
        have i6 : ¬ (done.length : Int) < (fs.length : Int) - 1 := by
          have : fs.length = done.length + 1 := by rw [hpp]; simp
          omega
        by_cases hk1 : t.kind = 0
        · have hkb : (t.kind == 0) = true := by rw [hk1]; rfl
          have HWH : Hid (Calls Tryz.prog 64 #[.pointer (some ⟨rb, 0, none⟩), .iface tv xv] wr fun e w' => e = .returned (.bool true) ∧ ∃ g', Gh.Next wr g1 g' ∧ RunAt (fun k => N k ∨ k = w.heap.size) g' rb fuel t w' ∧ Kept (RM g1 rb) wr w') := (whole_any show_ HC _ g1 rb fuel n s1 t wr hG.run _ f hv hr1 he1).mono fun e w' hr => by rw [WholeR, hkb] at hr; exact hr
          obtain ⟨u, hu⟩ : ∃ u, t.ctl = .val u := by
            rcases he1 with e | e
            · exact absurd hk1 e
            · exact e.1
          have HSH := (show Hid _ from hshow hk1 u hu)
          have HR : Hid (∀ W W' g2, Gh.Next wr g1 g2 → RunAt (fun k => N k ∨ k = w.heap.size) g2 rb fuel t W → Kept (RM g1 rb) wr W → Below W.heap.size W W' → ∃ g3 s3 d3 t3, AllG show_ (fun k => N k ∨ k = w.heap.size) g rb fuel t txt fs w0 0 (.string ⟨txt.toArray⟩) (.int .i64 ((done.length : Int) + 1)) W' g3 s3 d3 t3) := fun W W' g2 hn2 hr2 hk2 hb2 => by
            refine ⟨g2, t, done ++ [f], [], by rw [hpp]; simp, rfl, by simp, HG.out.next.trans hn2 HG.out.kept.size, (hr2.below hb2).r0, fun _ => hr2.below hb2, HG.out.kept.chain (hk2.trans (Kept.of_below hb2 _)) HG.out.next.rm, Or.inr ⟨rfl, rfl, hk1, rfl⟩⟩
          have hms : 0 < gk := by rw [hG.count]; simp
          have HU := (show Hid _ from hu)
          have i7 : decide ((done.length : Int) < (fs.length : Int) - 1) = false := decide_eq_false i6
          clear i6
          clear hG hsr hat' hv hr1 he1 hpp hfi HX HS0 h0 hk0 hnew hlow hk1 hkb hshow htab hu
          go_wp2_with (first | (go_at_call 64; refine HWH.out.mono ?_; rintro e2 w2 ⟨rfl, g2, hn2, hr2, hk2⟩; obtain ⟨tu, zu, c5, hru⟩ := hr2.val HU.out; have HCS : Hid (Calls Tryz.prog 65 #[.iface tu zu] w2 (ShowR txt w2)) := HSH.out _ _ _ _ hru (HT.out _ hk2); have HRR := (show Hid _ from HR.out w2); have HN2 := (show Hid _ from hn2); have HR2 := (show Hid _ from hr2); have HK2 := (show Hid _ from hk2); clear hn2 hr2 hk2 hru) | (go_at_call 65; refine HCS.out.mono ?_; rintro e3 w3 ⟨rfl, hb3⟩))
          go_roundg 0
          case measure => exact hms
          case rel => exact HRR.out _ _ HN2.out HR2.out HK2.out hb3
        · have hkb : (t.kind == 0) = false := by simpa using hk1
          have HWH : Hid (Calls Tryz.prog 64 #[.pointer (some ⟨rb, 0, none⟩), .iface tv xv] wr fun e w' => e = .returned (.bool false) ∧ ∃ g', Gh.Next wr g1 g' ∧ RunAt (fun k => N k ∨ k = w.heap.size) g' rb fuel t w' ∧ Kept (RM g1 rb) wr w') := (whole_any show_ HC _ g1 rb fuel n s1 t wr hG.run _ f hv hr1 he1).mono fun e w' hr => by rw [WholeR, hkb] at hr; exact hr
          have HR : Hid (∀ W g2, Gh.Next wr g1 g2 → RunAt (fun k => N k ∨ k = w.heap.size) g2 rb fuel t W → Kept (RM g1 rb) wr W → (W.cell? ⟨rb, 8, none⟩ = some (.int .i64 t.kind) ∧ W.cell? ⟨rb, 9, none⟩ = some (.int .i64 t.why)) ∧ W.heap[w.heap.size]? = some (.cells #[.int .i64 0, .string ⟨#[]⟩, .int .i64 0, .int .i64 0, .slice none 0 0] 34 (0, 0)) ∧
              AllR N g rb fuel t txt w (.returned (.agg #[.int .i64 t.kind, .string ⟨#[]⟩, .int .i64 t.why, .int .i64 0, .slice none 0 0])) (set5 W w.heap.size (.int .i64 t.kind) (.string ⟨#[]⟩) (.int .i64 t.why) (.int .i64 0) (.slice none 0 0)).drew) := fun W g2 hn2 hr2 hk2 => by
            have hkk := HG.out.kept.chain hk2 HG.out.next.rm
            have hnx := HG.out.next.trans hn2 HG.out.kept.size
            refine ⟨⟨hr2.cells.1, hr2.cells.2.1⟩, hkk.at hm1 hnew, by simp [outCells, hk1], g2, ⟨hnx.mb, hnx.db, fun k e hk => hnx.mt k e (by omega)⟩, ?_, ?_⟩
            · refine RunAt.drew (hr2.other (by rw [set5_size]; exact Nat.le_refl _) (fun k _ hk => set5_ne _ _ _ _ _ _ _ _ ?_) (fun k e => Or.inl e) hrb)
              rintro rfl
              rcases hk with hk | hk
              · exact hk (Or.inr rfl)
              · omega
            · refine Kept.drew ?_
              exact set5_kept (hk0.trans hkk) (fun e => absurd e (Nat.lt_irrefl _)) _ _ _ _ _
          clear hG hsr hat' hv hr1 he1 hpp hfi HX HS0 h0 hk0 hnew hlow hk1 hkb HT hshow htab
          go_wp2_with (first | (go_at_call 64; refine HWH.out.mono ?_; rintro e2 w2 ⟨rfl, g2, hn2, hr2, hk2⟩; obtain ⟨⟨c8, c9⟩, hat2, hfin2⟩ := HR.out _ _ hn2 hr2 hk2; have HFIN := (show Hid _ from hfin2); clear hn2 hr2 hk2 hfin2))
          obtain ⟨e0, e1, e2, e3, e4⟩ : w2.frozen? ⟨w.heap.size, 0, none⟩ = false ∧ w2.frozen? ⟨w.heap.size, 1, none⟩ = false ∧ w2.frozen? ⟨w.heap.size, 2, none⟩ = false ∧ w2.frozen? ⟨w.heap.size, 3, none⟩ = false ∧ w2.frozen? ⟨w.heap.size, 4, none⟩ = false := ⟨free_of_at hat2 0, free_of_at hat2 1, free_of_at hat2 2, free_of_at hat2 3, free_of_at hat2 4⟩
          have d0 := cell_of_at hat2 0
          have d1 := cell_of_at hat2 1
          have d2 := cell_of_at hat2 2
          have d3 := cell_of_at hat2 3
          have d4 := cell_of_at hat2 4
          simp only [List.getElem?_toArray, List.getElem?_cons_zero, List.getElem?_cons_succ] at d0 d1 d2 d3 d4
          have hfin := set5_at hat2 (.int .i64 t.kind) (.string ⟨#[]⟩) (.int .i64 t.why) (.int .i64 0) (.slice none 0 0)
          have f0 := cell_of_at hfin 0
          have f1 := cell_of_at hfin 1
          have f2 := cell_of_at hfin 2
          have f3 := cell_of_at hfin 3
          have f4 := cell_of_at hfin 4
          simp only [List.getElem?_toArray, List.getElem?_cons_zero, List.getElem?_cons_succ] at f0 f1 f2 f3 f4
          have HW5 : Hid (((((w2.setCell ⟨w.heap.size, 0, none⟩ (.int .i64 t.kind)).setCell ⟨w.heap.size, 1, none⟩ (.string ⟨#[]⟩)).setCell ⟨w.heap.size, 2, none⟩ (.int .i64 t.why)).setCell ⟨w.heap.size, 3, none⟩ (.int .i64 0)).setCell ⟨w.heap.size, 4, none⟩ (.slice none 0 0) = set5 w2 w.heap.size (.int .i64 t.kind) (.string ⟨#[]⟩) (.int .i64 t.why) (.int .i64 0) (.slice none 0 0)) := rfl
          clear hat2 hfin
          go_region
          all_goals
            go_wp2
            rw [HW5.out]
            refine bodyPost_ret (v := .agg #[.int .i64 t.kind, .string ⟨#[]⟩, .int .i64 t.why, .int .i64 0, .slice none 0 0]) ?_ rfl HFIN.out
            simp [results, Tryz.results37, go_sem, f0, f1, f2, f3, f4]
    · have hd : done = fs := by have := hG.parts; rw [List.append_nil] at this; exact this.symm
      subst hd
      have hat := hG.kept.at hm1 hnew
      have hkk := hG.kept
      have hful := hG.full rfl
      have hnx := hG.next
      obtain ⟨d0, d1, d2, d3, d4, e0, e1, e2, e3, e4⟩ : wr.cell? ⟨w.heap.size, 0, none⟩ = some (.int .i64 0) ∧ wr.cell? ⟨w.heap.size, 1, none⟩ = some (.string ⟨#[]⟩) ∧ wr.cell? ⟨w.heap.size, 2, none⟩ = some (.int .i64 0) ∧ wr.cell? ⟨w.heap.size, 3, none⟩ = some (.int .i64 0) ∧ wr.cell? ⟨w.heap.size, 4, none⟩ = some (.slice none 0 0) ∧ wr.frozen? ⟨w.heap.size, 0, none⟩ = false ∧ wr.frozen? ⟨w.heap.size, 1, none⟩ = false ∧ wr.frozen? ⟨w.heap.size, 2, none⟩ = false ∧ wr.frozen? ⟨w.heap.size, 3, none⟩ = false ∧ wr.frozen? ⟨w.heap.size, 4, none⟩ = false :=
        ⟨cell_of_at hat 0, cell_of_at hat 1, cell_of_at hat 2, cell_of_at hat 3, cell_of_at hat 4, free_of_at hat 0, free_of_at hat 1, free_of_at hat 2, free_of_at hat 3, free_of_at hat 4⟩
      have hfin := set5_at hat (.int .i64 1) (.string ⟨txt.toArray⟩) (.int .i64 0) (.int .i64 0) (.slice none 0 0)
      have HF : Hid (AllR N g rb fuel s1 txt w (.returned (.agg #[.int .i64 1, .string ⟨txt.toArray⟩, .int .i64 0, .int .i64 0, .slice none 0 0])) (set5 wr w.heap.size (.int .i64 1) (.string ⟨txt.toArray⟩) (.int .i64 0) (.int .i64 0) (.slice none 0 0))) := by
        refine ⟨by simp [outCells, hk0'], g1, ⟨hnx.mb, hnx.db, fun k e hk => hnx.mt k e (by omega)⟩, ?_, ?_⟩
        · refine hful.other (by rw [set5_size]; exact Nat.le_refl _) (fun k _ hk => set5_ne _ _ _ _ _ _ _ _ ?_) (fun k e => Or.inl e) hrb
          rintro rfl
          rcases hk with hk | hk
          · exact hk (Or.inr rfl)
          · omega
        · exact set5_kept (hk0.trans (hkk)) (fun e => absurd e (Nat.lt_irrefl _)) _ _ _ _ _
      have f0 := cell_of_at hfin 0
      have f1 := cell_of_at hfin 1
      have f2 := cell_of_at hfin 2
      have f3 := cell_of_at hfin 3
      have f4 := cell_of_at hfin 4
      simp only [List.getElem?_toArray, List.getElem?_cons_zero, List.getElem?_cons_succ] at f0 f1 f2 f3 f4
      have HW5 : Hid (((((wr.setCell ⟨w.heap.size, 0, none⟩ (.int .i64 1)).setCell ⟨w.heap.size, 1, none⟩ (.string ⟨txt.toArray⟩)).setCell ⟨w.heap.size, 2, none⟩ (.int .i64 0)).setCell ⟨w.heap.size, 3, none⟩ (.int .i64 0)).setCell ⟨w.heap.size, 4, none⟩ (.slice none 0 0) = set5 wr w.heap.size (.int .i64 1) (.string ⟨txt.toArray⟩) (.int .i64 0) (.int .i64 0) (.slice none 0 0)) := rfl
      clear hG HG hat hfin hful hnx hkk HX HS0 h0 hk0 hnew hlow
      go_wp2
      rw [HW5.out]
      refine bodyPost_ret (v := .agg #[.int .i64 1, .string ⟨txt.toArray⟩, .int .i64 0, .int .i64 0, .slice none 0 0]) ?_ rfl HF.out
      simp [results, Tryz.results37, go_sem, f0, f1, f2, f3, f4]
end Go.Proofs.YtodeeegbajgafaaGreatDoor

namespace Go.Proofs.YtodeeegbajgafaaGreatDoor
open Go.RowKit
open Mc

/-- What it came to, steps and all. -/
def outcome (t : St) (txt : List UInt8) (sh : Value) : Value := if t.kind = 0 then .agg #[.int .i64 1, .string ⟨txt.toArray⟩, .int .i64 0, .int .i64 t.steps, sh] else .agg #[.int .i64 t.kind, .string ⟨#[]⟩, .int .i64 t.why, .int .i64 t.steps, sh]
/-- The machine with nothing shown. -/
def Gh.hush (g : Gh) : Gh := { g with sh := .slice none 0 0 }
theorem Gh.hush_mut {g : Gh} {k : Nat} (h : g.hush.mut k) : g.mut k := by
  rcases h with h | h | h | h
  · exact Or.inl h
  · exact Or.inr (Or.inl h)
  · exact Or.inr (Or.inr (Or.inl h))
  · cases h
/-- What a machine's run came to, and the machine behind it. -/
def RunR (N : Nat → Prop) (g : Gh) (t : St) (txt : List UInt8) (w : World) : Ending → World → Prop := fun e w' => ∃ g' sh, e = .returned (outcome t txt sh) ∧ Gh.Next w g g' ∧ MachAt N g' t.G [] w' ∧ Kept g.mut w w' ∧ g'.sh = .slice none 0 0 ∧ (∃ B, w'.ownsRow B 9 1 sh t.shown.length (t.shown.map strV)) ∧ ∀ k, sh.ownBlock = some k → ¬ g'.mut k ∧ ¬ N k

def zeroOut : Obj := .cells #[.int .i64 0, .string ⟨#[]⟩, .int .i64 0, .int .i64 0, .slice none 0 0] 34
def newRun (mb F : Nat) : Obj := .cells #[ptrV mb, .int .i64 F, .int .i64 0, .nilIface, .pointer none, .nilIface, .pointer none, .pointer none, .int .i64 0, .int .i64 0] 103
theorem begins (N : Nat → Prop) (g : Gh) (G : List (Rd.Sym × V)) (w : World) (h : MachAt N g G [] w) (F : Nat) (hF : F ≤ 20000) :
    RunAt0 (fun k => N k ∨ w.heap.size ≤ k ∧ k ≤ w.heap.size + 1) g (w.heap.size + 1) F (begin_ G) ((w.alloc zeroOut).alloc (newRun g.mb F)) := by
  have hB : Below w.heap.size w ((w.alloc zeroOut).alloc (newRun g.mb F)) := ((Below.refl _ w).alloc (Nat.le_refl _) _).alloc (by simp) _
  refine ⟨Or.inr ⟨by omega, Nat.le_refl _⟩, h.kept (fun k hm => hB.block k (Gh.low h k hm)) (fun k hk ho => ⟨⟨fun e => ?_, ho.2⟩, hB.block k hk⟩) ?_ ?_, ⟨103, .nilIface, .pointer none, .nilIface, .pointer none, .pointer none, ?_, .todo0, rfl⟩, Nat.zero_le _, by omega⟩
  · rcases e with e | e
    · exact ho.1 e
    · omega
  · rintro k (e | e)
    · have := h.low k e; simp; omega
    · simp; omega
  · rintro k hm (e | e)
    · exact h.disj k hm e
    · have := Gh.low h k hm; omega
  · have := at_new (w.alloc zeroOut) (newRun g.mb F)
    simpa [runCells, begin_, newRun] using this

/-- What is read of the machine and the run behind a run. -/
theorem behind_all {N : Nat → Prop} {g g2 : Gh} {rb F : Nat} {t : St} {w2 : World} (hr : RunAt N g2 rb F t w2) (hmb : g2.mb = g.mb) : ∃ sa sn sc, g2.sh = .slice sa sn sc ∧ w2.cell? ⟨rb, 2, none⟩ = some (.int .i64 t.steps) ∧ w2.cell? ⟨g.mb, 1, none⟩ = some (.slice sa sn sc) ∧ w2.frozen? ⟨g.mb, 1, none⟩ = false := by
  obtain ⟨B, ho⟩ := hr.m.own
  obtain ⟨sa, sn, sc, hsh⟩ := owns_slice ho
  obtain ⟨T, hm⟩ := hr.m.mach
  rw [hmb, hsh] at hm
  obtain ⟨_, c1, _, f1⟩ := cells2 hm
  exact ⟨sa, sn, sc, hsh, hr.cells.2.2, c1, f1⟩

/-- What lies behind a run of forms. -/
structure Beh (N : Nat → Prop) (g : Gh) (F : Nat) (t : St) (w w0 w2 : World) (sa : Option Addr) (sn sc : Nat) : Prop where
  y2 : w2.cell? ⟨w.heap.size + 1, 2, none⟩ = some (.int .i64 t.steps)
  y1 : w2.cell? ⟨g.mb, 1, none⟩ = some (.slice sa sn sc)
  z1 : w2.frozen? ⟨g.mb, 1, none⟩ = false
  l1 : w.heap.size < w2.heap.size
  l2 : w.heap.size + 1 < w2.heap.size
  l3 : g.mb < w2.heap.size
  at6 : w2.heap[w.heap.size]? = some zeroOut
  all : ∃ g2, g2.sh = .slice sa sn sc ∧ Gh.Next w0 g g2 ∧ RunAt (fun k => N k ∨ w.heap.size ≤ k ∧ k ≤ w.heap.size + 1) g2 (w.heap.size + 1) F t w2 ∧ Kept (RM g (w.heap.size + 1)) w0 w2
theorem beh_of {N : Nat → Prop} {g : Gh} {F : Nat} {t : St} {w w0 w2 : World} (b6 : w0.heap[w.heap.size]? = some zeroOut) (hm1 : ¬ RM g (w.heap.size + 1) w.heap.size) (h : ∃ g2, Gh.Next w0 g g2 ∧ RunAt (fun k => N k ∨ w.heap.size ≤ k ∧ k ≤ w.heap.size + 1) g2 (w.heap.size + 1) F t w2 ∧ Kept (RM g (w.heap.size + 1)) w0 w2) : ∃ sa sn sc, Beh N g F t w w0 w2 sa sn sc := by
  obtain ⟨g2, hn, hr, hk⟩ := h
  obtain ⟨sa, sn, sc, hsh, y2, y1, z1⟩ := behind_all hr hn.mb
  have hat := hk.at hm1 b6
  exact ⟨sa, sn, sc, y2, y1, z1, lt_of_at hat, World.block_lt_of_cell? w2 _ y2, World.block_lt_of_cell? w2 _ y1, hat, g2, hsh, hn, hr, hk⟩

theorem six_of {w2 : World} {k : Nat} (hat : w2.heap[k]? = some zeroOut) : w2.frozen? ⟨k, 0, none⟩ = false ∧ w2.frozen? ⟨k, 1, none⟩ = false ∧ w2.frozen? ⟨k, 2, none⟩ = false ∧ w2.frozen? ⟨k, 3, none⟩ = false ∧ w2.frozen? ⟨k, 4, none⟩ = false ∧ w2.cell? ⟨k, 0, none⟩ = some (.int .i64 0) ∧ w2.cell? ⟨k, 1, none⟩ = some (.string ⟨#[]⟩) ∧ w2.cell? ⟨k, 2, none⟩ = some (.int .i64 0) ∧ w2.cell? ⟨k, 3, none⟩ = some (.int .i64 0) ∧ w2.cell? ⟨k, 4, none⟩ = some (.slice none 0 0) :=
  ⟨free_of_at hat 0, free_of_at hat 1, free_of_at hat 2, free_of_at hat 3, free_of_at hat 4, cell_of_at hat 0, cell_of_at hat 1, cell_of_at hat 2, cell_of_at hat 3, cell_of_at hat 4⟩

/-- The machine once what was shown has been given away. -/
theorem MachAt.hush {N N' : Nat → Prop} {g : Gh} {G : List (Rd.Sym × V)} {shown : List (List UInt8)} {w w' : World} {b6 : Nat} (h : MachAt N g G shown w) (hs : w.heap.size ≤ w'.heap.size) (hw : ∀ k, k < w.heap.size → k ≠ g.mb → k ≠ b6 → w'.heap[k]? = w.heap[k]?) (hm : ∃ T, w'.heap[g.mb]? = some (.cells #[.map (some g.db), .slice none 0 0] T (0, 0))) (hb : N b6) (hN : ∀ k, N' k → N k) :
    MachAt N' g.hush G [] w' ∧ (∃ B, w'.ownsRow B 9 1 g.sh shown.length (shown.map strV)) ∧ ∀ k, g.sh.ownBlock = some k → ¬ g.hush.mut k ∧ ¬ N' k := by
  have hmb6 : ∀ k, g.mut k → k ≠ b6 := fun k hk e => h.disj k hk (e ▸ hb)
  have hok : ∀ k, k < w.heap.size → g.ok N k → g.hush.ok N' k ∧ w'.heap[k]? = w.heap[k]? := fun k hk ho => ⟨⟨fun e => ho.1 (hN k e), fun e => ho.2 (Gh.hush_mut e)⟩, hw k hk (fun e => ho.2 (Or.inl e)) (fun e => ho.1 (e ▸ hb))⟩
  obtain ⟨_, ⟨es, c, h2, h3⟩, h4, h5, ⟨B, h6⟩, h7, h8, h9, h10⟩ := h
  have hdb : g.db < w.heap.size := lt_of_at h2
  refine ⟨⟨hm, ⟨es, c, (hw _ hdb (Ne.symm h7.1) (hmb6 _ (Or.inr (Or.inl rfl)))).trans h2, h3⟩, h4, ?_, ⟨0, rfl, Or.inl ⟨rfl, rfl⟩⟩, h7, (fun k e => by cases e), fun k e => Nat.lt_of_lt_of_le (h9 k (hN k e)) hs, fun k hk e => h10 k (Gh.hush_mut hk) (hN k e)⟩, ⟨B, ?_⟩, ?_⟩
  · intro i hi
    obtain ⟨b, x, T, e1, e2, e3⟩ := h5 i hi
    have hbx : b ∈ g.xs := List.mem_of_getElem? e1
    exact ⟨b, x, T, e1, (hw b (lt_of_at e2) (fun e => h7.2.1 (e ▸ hbx)) (hmb6 b (Or.inr (Or.inr (Or.inl hbx))))).trans e2, e3.mono hok⟩
  · obtain ⟨a, b | ⟨gb, cap, cur, hv, hB, hh, r⟩⟩ := h6
    · exact ⟨a, Or.inl b⟩
    · have hgb : g.sh.ownBlock = some gb := by rw [hv]; rfl
      exact ⟨a, Or.inr ⟨gb, cap, cur, hv, hB, (hw gb (lt_of_at hh) (h8 gb hgb).1 (hmb6 gb (Or.inr (Or.inr (Or.inr hgb))))).trans hh, r⟩⟩
  · intro k hk
    obtain ⟨e1, e2, e3⟩ := h8 k hk
    refine ⟨?_, fun e => h10 k (Or.inr (Or.inr (Or.inr hk))) (hN k e)⟩
    rintro (e | e | e | e)
    · exact e1 e
    · exact e2 e
    · exact e3 e
    · cases e

def runEnd (w2 : World) (mb b6 : Nat) (a b c d e : Value) : World := (set5 (w2.setCell ⟨mb, 1, none⟩ (.slice none 0 0)) b6 a b c d e).alloc (.cells #[a, b, c, d, e] 34)
theorem run_ends {G' : List (Rd.Sym × V)} {S' : List (List UInt8)} {N : Nat → Prop} {g : Gh} {F : Nat} {t : St} {txt : List UInt8} {w w0 w2 : World} {sa : Option Addr} {sn sc : Nat} {a b c d : Value} (h : MachAt N g G' S' w) (hB : Below w.heap.size w w0) (hbeh : Beh N g F t w w0 w2 sa sn sc) (ho : outcome t txt (.slice sa sn sc) = .agg #[a, b, c, d, .slice sa sn sc]) :
    RunR N g t txt w (.returned (.agg #[a, b, c, d, .slice sa sn sc])) (runEnd w2 g.mb w.heap.size a b c d (.slice sa sn sc)) ∧ (runEnd w2 g.mb w.heap.size a b c d (.slice sa sn sc)).heap[w.heap.size]? = some (.cells #[a, b, c, d, .slice sa sn sc] 34 (0, 0)) := by
  obtain ⟨g2, hsh, hn, hr, hk⟩ := hbeh.all
  have hmlt : g.mb < w.heap.size := Gh.low h _ (Or.inl rfl)
  have l1 := hbeh.l1
  have hat : (w2.setCell ⟨g.mb, 1, none⟩ (.slice none 0 0)).heap[w.heap.size]? = some zeroOut := at_setCell_ne hbeh.at6 _ (by simp; omega) _
  have hfin := set5_at hat a b c d (.slice sa sn sc)
  have hsz : (runEnd w2 g.mb w.heap.size a b c d (.slice sa sn sc)).heap.size = w2.heap.size + 1 := by simp [runEnd, set5]
  have hw : ∀ k, k < w2.heap.size → k ≠ g.mb → k ≠ w.heap.size → (runEnd w2 g.mb w.heap.size a b c d (.slice sa sn sc)).heap[k]? = w2.heap[k]? := fun k hk h1 h2 => by
    unfold runEnd
    rw [Below.heap_alloc _ _ _ (by rw [set5_size]; simpa using hk), set5_ne _ _ _ _ _ _ _ _ h2, Below.heap_setCell _ _ _ _ h1]
  obtain ⟨T, hma⟩ := hr.m.mach
  rw [hn.mb, hsh] at hma
  have hmm : (runEnd w2 g.mb w.heap.size a b c d (.slice sa sn sc)).heap[g2.mb]? = some (.cells #[.map (some g2.db), .slice none 0 0] T (0, 0)) := by
    rw [hn.mb]
    unfold runEnd
    refine at_alloc ?_ _
    rw [set5_ne _ _ _ _ _ _ _ _ (by omega), at_setCell hma 1 _]
    simp
  have hmt := hr.m.hush (N' := N) (b6 := w.heap.size) (by rw [hsz]; omega) (fun k hk h1 h2 => hw k hk (by rw [← hn.mb]; exact h1) h2) ⟨T, hmm⟩ (Or.inr ⟨Nat.le_refl _, by omega⟩) (fun k e => Or.inl e)
  refine ⟨⟨g2.hush, .slice sa sn sc, by rw [ho], ⟨hn.mb, hn.db, fun k e hk' => hn.mt k (Gh.hush_mut e) (Nat.lt_of_lt_of_le hk' hB.size)⟩, hmt.1, ?_, rfl, ?_, ?_⟩, at_alloc hfin _⟩
  · have h1 : Kept g.mut w w2 := ⟨hk.os.trans hB.os, hk.tape.trans hB.tape, hk.output.trans hB.output, by omega, fun k hk' hm => (hk.block k (Nat.lt_of_lt_of_le hk' hB.size) (fun e => by
      rcases e with e | e
      · omega
      · exact hm e)).trans (hB.block k hk')⟩
    have h2 := h1.setCell (p := ⟨g.mb, 1, none⟩) (fun _ => Or.inl rfl) (.slice none 0 0)
    have h3 := set5_kept h2 (k := w.heap.size) (fun e => absurd e (Nat.lt_irrefl _)) a b c d (.slice sa sn sc)
    unfold runEnd
    exact h3.alloc (.cells #[a, b, c, d, .slice sa sn sc] 34)
  · have e := hmt.2.1
    rw [hsh] at e
    exact e
  · intro k hk
    exact hmt.2.2 k (by rw [hsh]; exact hk)

set_option maxHeartbeats 8000000 in
set_option maxRecDepth 20000 in
theorem run28 (show_ : V → Option (List UInt8)) (HC : CallC show_) (N : Nat → Prop) (g : Gh) (F : Nat) (hF : F ≤ 20000) (G : List (Rd.Sym × V)) (t : St) (txt : List UInt8) (w : World) (h : MachAt N g G [] w) (hNt : ¬ g.mut tabBlock) (htab : TabOk w) (sl : Value) (fs : List Rd.F) (hs : RepFs (g.ok N) w sl fs) (hx : Mc.Ends F show_ (begin_ G) fs t) (hne : fs ≠ []) (hshow : t.kind = 0 → ∀ v, t.ctl = .val v → ShowsAs v txt) :
    Calls Tryz.prog 28 #[ptrV g.mb, sl, .int .i64 F] w (RunR N g t txt w) := by
  have hB : Below w.heap.size w ((w.alloc zeroOut).alloc (newRun g.mb F)) := ((Below.refl _ w).alloc (Nat.le_refl _) _).alloc (by simp) _
  have h0 := begins N g G w h F hF
  have hs0 : RepFs (g.ok (fun k => N k ∨ w.heap.size ≤ k ∧ k ≤ w.heap.size + 1)) ((w.alloc zeroOut).alloc (newRun g.mb F)) sl fs := hs.mono fun k hk ho => ⟨⟨fun e => by rcases e with e | e; exact ho.1 e; omega, ho.2⟩, hB.block k hk⟩
  have htl := htab.lt
  have HA := all_any show_ HC _ g (w.heap.size + 1) F (begin_ G) t txt _ h0 sl fs hs0 hx hne hshow (fun W hW => by
    have hW' : TabOk W := (htab.on (hB.block _ htl)).kept hW (fun e => by
      rcases e with e | e
      · omega
      · exact hNt e)
    exact hW'.tab (hW'.lt))
  have b6 : ((w.alloc zeroOut).alloc (newRun g.mb F)).heap[w.heap.size]? = some zeroOut := at_alloc (at_new w _) _
  have hsz : ((w.alloc zeroOut).alloc (newRun g.mb F)).heap.size = w.heap.size + 2 := by simp
  obtain ⟨ga, cap, rfl, _, _⟩ := hs.shape
  have i1 : ¬ (F : Int) < 0 := by omega
  have i2 : (F : Int) ≤ 20000 := by omega
  obtain ⟨ka, tb, wc, hout, hout'⟩ : ∃ (ka : Int) (tb : ByteArray) (wc : Int), outCells t txt = [.int .i64 ka, .string tb, .int .i64 wc, .int .i64 0, .slice none 0 0] ∧ ∀ sh, outcome t txt sh = .agg #[.int .i64 ka, .string tb, .int .i64 wc, .int .i64 t.steps, sh] := by
    unfold outCells outcome
    by_cases hk : t.kind = 0
    · rw [if_pos hk]; exact ⟨_, _, _, rfl, fun sh => if_pos hk⟩
    · rw [if_neg hk]; exact ⟨_, _, _, rfl, fun sh => if_neg hk⟩
  have hmin : min (F : Int) 20000 = F := by omega
  unfold AllR at HA
  rw [hout] at HA
  have HO := (show Hid _ from hout')
  have HH := (show Hid _ from h)
  have HB := (show Hid _ from hB)
  have hm1 : ¬ RM g (w.heap.size + 1) w.heap.size := fun e => by
    rcases e with e | e
    · omega
    · have := Gh.low h _ e; omega
  have hmlt : g.mb < w.heap.size := Gh.low h _ (Or.inl rfl)
  have hmn1 : ¬ g.mb = w.heap.size := by omega
  have hmn2 : ¬ g.mb = w.heap.size + 1 := by omega
  have hmn3 : ¬ w.heap.size = g.mb := by omega
  have HK : Hid (∀ w2, (∃ g2, Gh.Next ((w.alloc zeroOut).alloc (newRun g.mb F)) g g2 ∧ RunAt (fun k => N k ∨ w.heap.size ≤ k ∧ k ≤ w.heap.size + 1) g2 (w.heap.size + 1) F t w2 ∧ Kept (RM g (w.heap.size + 1)) ((w.alloc zeroOut).alloc (newRun g.mb F)) w2) → ∃ sa sn sc, Beh N g F t w ((w.alloc zeroOut).alloc (newRun g.mb F)) w2 sa sn sc) := fun w2 hk => beh_of b6 hm1 hk
  have HU : Hid (zeroOut = .cells #[.int .i64 0, .string ⟨#[]⟩, .int .i64 0, .int .i64 0, .slice none 0 0] 34) := rfl
  unfold newRun ptrV at *
  clear hx hs hs0 htab hout hout' h h0 b6 hsz hB hshow HC
  generalize hW : ((w.alloc zeroOut).alloc (Obj.cells #[Value.pointer (some { block := g.mb, off := 0 }), Value.int IntKind.i64 F, Value.int IntKind.i64 0, Value.nilIface, Value.pointer none, Value.nilIface, Value.pointer none, Value.pointer none, Value.int IntKind.i64 0, Value.int IntKind.i64 0] 103)) = W0 at *
  have HW := (show Hid _ from hW)
  rw [HU.out] at HW
  clear hW
  go_enter Tryz.func28, Tryz.ntmps28
  go_wp2_with (first | (go_at_call 37; rw [HW.out]; refine HA.mono ?_; rintro e2 w2 ⟨rfl, hh2⟩; obtain ⟨sa, sn, sc, hbeh⟩ := HK.out _ hh2; have HBEH := (show Hid _ from hbeh); obtain ⟨y2, y1, z1, l1, l2, l3, at6, hall⟩ := hbeh; have HALL := (show Hid _ from hall); have HAT := (show Hid _ from at6); clear hall hh2; obtain ⟨x0, x1, x2, x3, x4, d0, d1, d2, d3, d4⟩ := six_of at6; clear at6; have n1 : w2.heap.size ≠ w.heap.size + 1 := (by omega); have n2 : w2.heap.size ≠ g.mb := (by omega); have n3 : w2.heap.size ≠ w.heap.size := (by omega)))
  obtain ⟨hRR, hcl⟩ := run_ends HH.out HB.out HBEH.out (HO.out _)
  have HRR := (show Hid _ from hRR)
  have f0 := cell_of_at hcl 0
  have f1 := cell_of_at hcl 1
  have f2 := cell_of_at hcl 2
  have f3 := cell_of_at hcl 3
  have f4 := cell_of_at hcl 4
  simp only [List.getElem?_toArray, List.getElem?_cons_zero, List.getElem?_cons_succ] at f0 f1 f2 f3 f4
  have HWE : Hid (((((((w2.setCell ⟨g.mb, 1, none⟩ (.slice none 0 0)).setCell ⟨w.heap.size, 0, none⟩ (.int .i64 ka)).setCell ⟨w.heap.size, 1, none⟩ (.string tb)).setCell ⟨w.heap.size, 2, none⟩ (.int .i64 wc)).setCell ⟨w.heap.size, 3, none⟩ (.int .i64 t.steps)).setCell ⟨w.heap.size, 4, none⟩ (.slice sa sn sc)).alloc (.cells #[.int .i64 ka, .string tb, .int .i64 wc, .int .i64 t.steps, .slice sa sn sc] 34) = runEnd w2 g.mb w.heap.size (.int .i64 ka) (.string tb) (.int .i64 wc) (.int .i64 t.steps) (.slice sa sn sc)) := rfl
  rw [HWE.out]
  refine bodyPost_ret (v := .agg #[.int .i64 ka, .string tb, .int .i64 wc, .int .i64 t.steps, .slice sa sn sc]) ?_ rfl HRR.out
  simp [results, Tryz.results28, go_sem, f0, f1, f2, f3, f4]
end Go.Proofs.YtodeeegbajgafaaGreatDoor

namespace Go.Proofs.YtodeeegbajgafaaGreatDoor
open Go.RowKit
open Mc

set_option maxHeartbeats 1000000 in
theorem atLeast_any (l : Int) (w : World) : Calls Tryz.prog 66 #[.int .i64 l] w fun e w' => e = .returned (.agg #[.int .i64 l, .int .i64 9223372036854775807]) ∧ w' = w.alloc (.cells #[.int .i64 l, .int .i64 9223372036854775807] 114) := by
  go_enter Tryz.func66, Tryz.ntmps66
  go_wp2
  refine bodyPost_ret (v := .agg #[.int .i64 l, .int .i64 9223372036854775807]) ?_ rfl ⟨rfl, rfl⟩
  simp [results, Tryz.results66, go_sem]
set_option maxHeartbeats 1000000 in
theorem exactly_any (l : Int) (w : World) : Calls Tryz.prog 71 #[.int .i64 l] w fun e w' => e = .returned (.agg #[.int .i64 l, .int .i64 l]) ∧ w' = w.alloc (.cells #[.int .i64 l, .int .i64 l] 114) := by
  go_enter Tryz.func71, Tryz.ntmps71
  go_wp2
  refine bodyPost_ret (v := .agg #[.int .i64 l, .int .i64 l]) ?_ rfl ⟨rfl, rfl⟩
  simp [results, Tryz.results71, go_sem]
set_option maxHeartbeats 1000000 in
theorem ofNumbers67 (f : Fn) (w : World) : Calls Tryz.prog 67 #[.func f #[] #[]] w fun e w' => e = .returned (.func (.func 115) #[] #[.pointer (some ⟨w.heap.size, 0, none⟩)]) ∧ w' = w.alloc (.cells #[.func f #[] #[]] 142) := by
  have hmf : ∀ fn first cap w, (Instr.makeFunc fn first cap).run Tryz.prog w = .ok (.func fn first cap) w := fun _ _ _ _ => rfl
  go_enter Tryz.func67, Tryz.ntmps67
  go_wp2
  go_ret
  exact ⟨rfl, rfl⟩
set_option maxHeartbeats 1000000 in
theorem ofPair78 (f : Fn) (w : World) : Calls Tryz.prog 78 #[.func f #[] #[]] w fun e w' => e = .returned (.func (.func 127) #[] #[.pointer (some ⟨w.heap.size, 0, none⟩)]) ∧ w' = w.alloc (.cells #[.func f #[] #[]] 144) := by
  have hmf : ∀ fn first cap w, (Instr.makeFunc fn first cap).run Tryz.prog w = .ok (.func fn first cap) w := fun _ _ _ _ => rfl
  go_enter Tryz.func78, Tryz.ntmps78
  go_wp2
  go_ret
  exact ⟨rfl, rfl⟩
set_option maxHeartbeats 1000000 in
theorem display90 (f : Fn) (xs : Array Value) (w : World) : Calls Tryz.prog 90 #[.func f xs #[]] w fun e w' => e = .returned (.func (.func 129) #[] #[.pointer (some ⟨w.heap.size, 0, none⟩)]) ∧ w' = w.alloc (.cells #[.func f xs #[]] 110) := by
  have hmf : ∀ fn first cap w, (Instr.makeFunc fn first cap).run Tryz.prog w = .ok (.func fn first cap) w := fun _ _ _ _ => rfl
  go_enter Tryz.func90, Tryz.ntmps90
  go_wp2
  go_ret
  exact ⟨rfl, rfl⟩

/-- Many blocks are laid. -/
def allocs (w : World) : List Obj → World
  | [] => w
  | o :: os => allocs (w.alloc o) os
theorem allocs_below : ∀ (os : List Obj) (w : World) (B : Nat), B ≤ w.heap.size → Below B w (allocs w os)
  | [], w, B, _ => Below.refl _ _
  | o :: os, w, B, h => ((Below.refl B w).alloc h o).trans (allocs_below os (w.alloc o) B (by simp; omega))
theorem allocs_at : ∀ (os : List Obj) (w : World) (i : Nat) (o : Obj), os[i]? = some o → (allocs w os).heap[w.heap.size + i]? = some o
  | [], _, _, _, h => by simp at h
  | o :: os, w, 0, o', h => by
    simp only [List.getElem?_cons_zero, Option.some.injEq] at h
    subst h
    exact (allocs_below os (w.alloc o) (w.heap.size + 1) (by simp)).block _ (by omega) |>.trans (at_new w o)
  | o :: os, w, i + 1, o', h => by
    have := allocs_at os (w.alloc o) i o' (by simpa using h)
    have hs : (w.alloc o).heap.size = w.heap.size + 1 := by simp
    rw [hs] at this
    rw [show w.heap.size + (i + 1) = w.heap.size + 1 + i from by omega]
    exact this

/-- What All lays. -/
def allObjs (mb n : Nat) : List Obj := [
  .cells #[.int .i64 0, .int .i64 9223372036854775807] 114,
  .cells #[fnV 68] 142,
  .cells #[.int .i64 0, .int .i64 9223372036854775807, .string ⟨#[43]⟩, capFn 115 [n + 1]] 119,
  .cells #[.int .i64 0, .int .i64 9223372036854775807] 114,
  .cells #[fnV 69] 142,
  .cells #[.int .i64 0, .int .i64 9223372036854775807, .string ⟨#[42]⟩, capFn 115 [n + 4]] 119,
  .cells #[.int .i64 1, .int .i64 9223372036854775807] 114,
  .cells #[fnV 70] 142,
  .cells #[.int .i64 1, .int .i64 9223372036854775807, .string ⟨#[45]⟩, capFn 115 [n + 7]] 119,
  .cells #[.int .i64 2, .int .i64 2] 114,
  .cells #[fnV 72] 142,
  .cells #[.int .i64 2, .int .i64 2, .string ⟨#[113, 117, 111, 116, 105, 101, 110, 116]⟩, capFn 115 [n + 10]] 119,
  .cells #[.int .i64 2, .int .i64 2] 114,
  .cells #[fnV 73] 142,
  .cells #[.int .i64 2, .int .i64 2, .string ⟨#[114, 101, 109, 97, 105, 110, 100, 101, 114]⟩, capFn 115 [n + 13]] 119,
  .cells #[.int .i64 1, .int .i64 9223372036854775807] 114,
  .cells #[fnV 74] 142,
  .cells #[.int .i64 1, .int .i64 9223372036854775807, .string ⟨#[60]⟩, capFn 115 [n + 16]] 119,
  .cells #[.int .i64 1, .int .i64 9223372036854775807] 114,
  .cells #[fnV 75] 142,
  .cells #[.int .i64 1, .int .i64 9223372036854775807, .string ⟨#[62]⟩, capFn 115 [n + 19]] 119,
  .cells #[.int .i64 1, .int .i64 9223372036854775807] 114,
  .cells #[fnV 76] 142,
  .cells #[.int .i64 1, .int .i64 9223372036854775807, .string ⟨#[61]⟩, capFn 115 [n + 22]] 119,
  .cells #[.int .i64 2, .int .i64 2] 114,
  .cells #[.int .i64 2, .int .i64 2, .string ⟨#[99, 111, 110, 115]⟩, fnV 77] 119,
  .cells #[.int .i64 1, .int .i64 1] 114,
  .cells #[fnV 79] 144,
  .cells #[.int .i64 1, .int .i64 1, .string ⟨#[99, 97, 114]⟩, capFn 127 [n + 27]] 119,
  .cells #[.int .i64 1, .int .i64 1] 114,
  .cells #[fnV 80] 144,
  .cells #[.int .i64 1, .int .i64 1, .string ⟨#[99, 100, 114]⟩, capFn 127 [n + 30]] 119,
  .cells #[.int .i64 0, .int .i64 9223372036854775807] 114,
  .cells #[.int .i64 0, .int .i64 9223372036854775807, .string ⟨#[108, 105, 115, 116]⟩, fnV 81] 119,
  .cells #[.int .i64 1, .int .i64 1] 114,
  .cells #[.int .i64 1, .int .i64 1, .string ⟨#[112, 97, 105, 114, 63]⟩, fnV 82] 119,
  .cells #[.int .i64 1, .int .i64 1] 114,
  .cells #[.int .i64 1, .int .i64 1, .string ⟨#[110, 117, 108, 108, 63]⟩, fnV 83] 119,
  .cells #[.int .i64 1, .int .i64 1] 114,
  .cells #[.int .i64 1, .int .i64 1, .string ⟨#[110, 117, 109, 98, 101, 114, 63]⟩, fnV 84] 119,
  .cells #[.int .i64 1, .int .i64 1] 114,
  .cells #[.int .i64 1, .int .i64 1, .string ⟨#[115, 121, 109, 98, 111, 108, 63]⟩, fnV 85] 119,
  .cells #[.int .i64 1, .int .i64 1] 114,
  .cells #[.int .i64 1, .int .i64 1, .string ⟨#[112, 114, 111, 99, 101, 100, 117, 114, 101, 63]⟩, fnV 86] 119,
  .cells #[.int .i64 1, .int .i64 1] 114,
  .cells #[.int .i64 1, .int .i64 1, .string ⟨#[98, 111, 111, 108, 101, 97, 110, 63]⟩, fnV 87] 119,
  .cells #[.int .i64 2, .int .i64 2] 114,
  .cells #[.int .i64 2, .int .i64 2, .string ⟨#[101, 113, 63]⟩, fnV 88] 119,
  .cells #[.int .i64 1, .int .i64 1] 114,
  .cells #[.int .i64 1, .int .i64 1, .string ⟨#[110, 111, 116]⟩, fnV 89] 119,
  .cells #[.int .i64 1, .int .i64 1] 114,
  .cells #[.func (.func 39) #[ptrV mb] #[]] 110,
  .cells #[.int .i64 1, .int .i64 1, .string ⟨#[100, 105, 115, 112, 108, 97, 121]⟩, capFn 129 [n + 51]] 119,
  .cells #[ptrV (n + 2), ptrV (n + 5), ptrV (n + 8), ptrV (n + 11), ptrV (n + 14), ptrV (n + 17), ptrV (n + 20), ptrV (n + 23), ptrV (n + 25), ptrV (n + 28), ptrV (n + 31), ptrV (n + 33), ptrV (n + 35), ptrV (n + 37), ptrV (n + 39), ptrV (n + 41), ptrV (n + 43), ptrV (n + 45), ptrV (n + 47), ptrV (n + 49), ptrV (n + 52)] 111]

def basicAt : Nat → Nat
  | 0 => 2
  | 1 => 5
  | 2 => 8
  | 3 => 11
  | 4 => 14
  | 5 => 17
  | 6 => 20
  | 7 => 23
  | 8 => 25
  | 9 => 28
  | 10 => 31
  | 11 => 33
  | 12 => 35
  | 13 => 37
  | 14 => 39
  | 15 => 41
  | 16 => 43
  | 17 => 45
  | 18 => 47
  | 19 => 49
  | _ => 52

set_option maxHeartbeats 16000000 in
set_option maxRecDepth 40000 in
theorem all38 (mb : Nat) (w : World) : Calls Tryz.prog 38 #[.func (.func 39) #[.pointer (some ⟨mb, 0, none⟩)] #[]] w fun e w' => e = .returned (.slice (some ⟨w.heap.size + 53, 0, none⟩) 21 21) ∧ w' = allocs w (allObjs mb w.heap.size) := by
  have h66 := atLeast_any
  have h71 := exactly_any
  have h67 := ofNumbers67
  have h78 := ofPair78
  have h90 := display90
  have H66 := (show Hid _ from h66)
  have H71 := (show Hid _ from h71)
  have H67 := (show Hid _ from h67)
  have H78 := (show Hid _ from h78)
  have H90 := (show Hid _ from h90)
  clear h66 h71 h67 h78 h90
  go_enter Tryz.func38, Tryz.ntmps38
  go_wp2_with (first | (go_at_call 66; refine (H66.out _ _).mono ?_; rintro e2 w2 ⟨rfl, rfl⟩) | (go_at_call 71; refine (H71.out _ _).mono ?_; rintro e2 w2 ⟨rfl, rfl⟩) | (go_at_call 67; refine (H67.out _ _).mono ?_; rintro e2 w2 ⟨rfl, rfl⟩) | (go_at_call 78; refine (H78.out _ _).mono ?_; rintro e2 w2 ⟨rfl, rfl⟩) | (go_at_call 90; refine (H90.out _ _ _).mono ?_; rintro e2 w2 ⟨rfl, rfl⟩))
  go_ret
  exact ⟨rfl, rfl⟩
end Go.Proofs.YtodeeegbajgafaaGreatDoor

namespace Go.Proofs.YtodeeegbajgafaaGreatDoor
open Go.RowKit
open Mc

theorem basicAt_lt : ∀ i, basicAt i < 53 := by
  intro i
  unfold basicAt
  split <;> omega
/-- A procedure of All's. -/
structure BasAt (mb m i : Nat) (W : World) : Prop where
  cell : W.cell? ⟨m + 53, i, none⟩ = some (.pointer (some ⟨m + basicAt i, 0, none⟩))
  blk : ∃ l k fv, W.heap[m + basicAt i]? = some (.cells #[l, k, .string ⟨(nameAt i).toArray⟩, fv] 119 (0, 0))
  rep : RepM mb (fun k => (m ≤ k ∧ k < m + 54) ∨ k = tabBlock) W (.iface 111 (.pointer (some ⟨m + basicAt i, 0, none⟩))) (.val (.basic i))
set_option maxRecDepth 20000 in
theorem bas_at (mb : Nat) (w : World) (htab : TabOk w) : ∀ i, i < 21 → BasAt mb w.heap.size i (allocs w (allObjs mb w.heap.size)) := by
  have hsl := allocs_at (allObjs mb w.heap.size) w 53 _ rfl
  have ht' : TabOk (allocs w (allObjs mb w.heap.size)) := htab.on ((allocs_below _ _ _ (Nat.le_refl _)).block _ htab.lt)
  intro i hi
  match i, hi with
  | 0, _ => exact ⟨cell_of_at hsl 0, ⟨_, _, _, allocs_at (allObjs mb w.heap.size) w 2 _ rfl⟩, by have := basicAt_lt 0; unfold basicAt at this ⊢; exact .basic1 0 _ (w.heap.size + 1) _ _ _ _ (Or.inl ⟨by omega, by omega⟩) (Or.inl ⟨by omega, by omega⟩) rfl (allocs_at (allObjs mb w.heap.size) w 2 _ rfl) (allocs_at (allObjs mb w.heap.size) w 1 _ rfl) (fun e => absurd e (by decide))⟩
  | 1, _ => exact ⟨cell_of_at hsl 1, ⟨_, _, _, allocs_at (allObjs mb w.heap.size) w 5 _ rfl⟩, by have := basicAt_lt 1; unfold basicAt at this ⊢; exact .basic1 1 _ (w.heap.size + 4) _ _ _ _ (Or.inl ⟨by omega, by omega⟩) (Or.inl ⟨by omega, by omega⟩) rfl (allocs_at (allObjs mb w.heap.size) w 5 _ rfl) (allocs_at (allObjs mb w.heap.size) w 4 _ rfl) (fun e => absurd e (by decide))⟩
  | 2, _ => exact ⟨cell_of_at hsl 2, ⟨_, _, _, allocs_at (allObjs mb w.heap.size) w 8 _ rfl⟩, by have := basicAt_lt 2; unfold basicAt at this ⊢; exact .basic1 2 _ (w.heap.size + 7) _ _ _ _ (Or.inl ⟨by omega, by omega⟩) (Or.inl ⟨by omega, by omega⟩) rfl (allocs_at (allObjs mb w.heap.size) w 8 _ rfl) (allocs_at (allObjs mb w.heap.size) w 7 _ rfl) (fun e => absurd e (by decide))⟩
  | 3, _ => exact ⟨cell_of_at hsl 3, ⟨_, _, _, allocs_at (allObjs mb w.heap.size) w 11 _ rfl⟩, by have := basicAt_lt 3; unfold basicAt at this ⊢; exact .basic1 3 _ (w.heap.size + 10) _ _ _ _ (Or.inl ⟨by omega, by omega⟩) (Or.inl ⟨by omega, by omega⟩) rfl (allocs_at (allObjs mb w.heap.size) w 11 _ rfl) (allocs_at (allObjs mb w.heap.size) w 10 _ rfl) (fun e => absurd e (by decide))⟩
  | 4, _ => exact ⟨cell_of_at hsl 4, ⟨_, _, _, allocs_at (allObjs mb w.heap.size) w 14 _ rfl⟩, by have := basicAt_lt 4; unfold basicAt at this ⊢; exact .basic1 4 _ (w.heap.size + 13) _ _ _ _ (Or.inl ⟨by omega, by omega⟩) (Or.inl ⟨by omega, by omega⟩) rfl (allocs_at (allObjs mb w.heap.size) w 14 _ rfl) (allocs_at (allObjs mb w.heap.size) w 13 _ rfl) (fun e => absurd e (by decide))⟩
  | 5, _ => exact ⟨cell_of_at hsl 5, ⟨_, _, _, allocs_at (allObjs mb w.heap.size) w 17 _ rfl⟩, by have := basicAt_lt 5; unfold basicAt at this ⊢; exact .basic1 5 _ (w.heap.size + 16) _ _ _ _ (Or.inl ⟨by omega, by omega⟩) (Or.inl ⟨by omega, by omega⟩) rfl (allocs_at (allObjs mb w.heap.size) w 17 _ rfl) (allocs_at (allObjs mb w.heap.size) w 16 _ rfl) (fun e => absurd e (by decide))⟩
  | 6, _ => exact ⟨cell_of_at hsl 6, ⟨_, _, _, allocs_at (allObjs mb w.heap.size) w 20 _ rfl⟩, by have := basicAt_lt 6; unfold basicAt at this ⊢; exact .basic1 6 _ (w.heap.size + 19) _ _ _ _ (Or.inl ⟨by omega, by omega⟩) (Or.inl ⟨by omega, by omega⟩) rfl (allocs_at (allObjs mb w.heap.size) w 20 _ rfl) (allocs_at (allObjs mb w.heap.size) w 19 _ rfl) (fun e => absurd e (by decide))⟩
  | 7, _ => exact ⟨cell_of_at hsl 7, ⟨_, _, _, allocs_at (allObjs mb w.heap.size) w 23 _ rfl⟩, by have := basicAt_lt 7; unfold basicAt at this ⊢; exact .basic1 7 _ (w.heap.size + 22) _ _ _ _ (Or.inl ⟨by omega, by omega⟩) (Or.inl ⟨by omega, by omega⟩) rfl (allocs_at (allObjs mb w.heap.size) w 23 _ rfl) (allocs_at (allObjs mb w.heap.size) w 22 _ rfl) (fun e => absurd e (by decide))⟩
  | 8, _ => exact ⟨cell_of_at hsl 8, ⟨_, _, _, allocs_at (allObjs mb w.heap.size) w 25 _ rfl⟩, by have := basicAt_lt 8; unfold basicAt at this ⊢; exact .basic0 8 _ _ _ (Or.inl ⟨by omega, by omega⟩) rfl (allocs_at (allObjs mb w.heap.size) w 25 _ rfl)⟩
  | 9, _ => exact ⟨cell_of_at hsl 9, ⟨_, _, _, allocs_at (allObjs mb w.heap.size) w 28 _ rfl⟩, by have := basicAt_lt 9; unfold basicAt at this ⊢; exact .basic1 9 _ (w.heap.size + 27) _ _ _ _ (Or.inl ⟨by omega, by omega⟩) (Or.inl ⟨by omega, by omega⟩) rfl (allocs_at (allObjs mb w.heap.size) w 28 _ rfl) (allocs_at (allObjs mb w.heap.size) w 27 _ rfl) (fun e => absurd e (by decide))⟩
  | 10, _ => exact ⟨cell_of_at hsl 10, ⟨_, _, _, allocs_at (allObjs mb w.heap.size) w 31 _ rfl⟩, by have := basicAt_lt 10; unfold basicAt at this ⊢; exact .basic1 10 _ (w.heap.size + 30) _ _ _ _ (Or.inl ⟨by omega, by omega⟩) (Or.inl ⟨by omega, by omega⟩) rfl (allocs_at (allObjs mb w.heap.size) w 31 _ rfl) (allocs_at (allObjs mb w.heap.size) w 30 _ rfl) (fun e => absurd e (by decide))⟩
  | 11, _ => exact ⟨cell_of_at hsl 11, ⟨_, _, _, allocs_at (allObjs mb w.heap.size) w 33 _ rfl⟩, by have := basicAt_lt 11; unfold basicAt at this ⊢; exact .basic0 11 _ _ _ (Or.inl ⟨by omega, by omega⟩) rfl (allocs_at (allObjs mb w.heap.size) w 33 _ rfl)⟩
  | 12, _ => exact ⟨cell_of_at hsl 12, ⟨_, _, _, allocs_at (allObjs mb w.heap.size) w 35 _ rfl⟩, by have := basicAt_lt 12; unfold basicAt at this ⊢; exact .basic0 12 _ _ _ (Or.inl ⟨by omega, by omega⟩) rfl (allocs_at (allObjs mb w.heap.size) w 35 _ rfl)⟩
  | 13, _ => exact ⟨cell_of_at hsl 13, ⟨_, _, _, allocs_at (allObjs mb w.heap.size) w 37 _ rfl⟩, by have := basicAt_lt 13; unfold basicAt at this ⊢; exact .basic0 13 _ _ _ (Or.inl ⟨by omega, by omega⟩) rfl (allocs_at (allObjs mb w.heap.size) w 37 _ rfl)⟩
  | 14, _ => exact ⟨cell_of_at hsl 14, ⟨_, _, _, allocs_at (allObjs mb w.heap.size) w 39 _ rfl⟩, by have := basicAt_lt 14; unfold basicAt at this ⊢; exact .basic0 14 _ _ _ (Or.inl ⟨by omega, by omega⟩) rfl (allocs_at (allObjs mb w.heap.size) w 39 _ rfl)⟩
  | 15, _ => exact ⟨cell_of_at hsl 15, ⟨_, _, _, allocs_at (allObjs mb w.heap.size) w 41 _ rfl⟩, by have := basicAt_lt 15; unfold basicAt at this ⊢; exact .basic0 15 _ _ _ (Or.inl ⟨by omega, by omega⟩) rfl (allocs_at (allObjs mb w.heap.size) w 41 _ rfl)⟩
  | 16, _ => exact ⟨cell_of_at hsl 16, ⟨_, _, _, allocs_at (allObjs mb w.heap.size) w 43 _ rfl⟩, by have := basicAt_lt 16; unfold basicAt at this ⊢; exact .basic0 16 _ _ _ (Or.inl ⟨by omega, by omega⟩) rfl (allocs_at (allObjs mb w.heap.size) w 43 _ rfl)⟩
  | 17, _ => exact ⟨cell_of_at hsl 17, ⟨_, _, _, allocs_at (allObjs mb w.heap.size) w 45 _ rfl⟩, by have := basicAt_lt 17; unfold basicAt at this ⊢; exact .basic0 17 _ _ _ (Or.inl ⟨by omega, by omega⟩) rfl (allocs_at (allObjs mb w.heap.size) w 45 _ rfl)⟩
  | 18, _ => exact ⟨cell_of_at hsl 18, ⟨_, _, _, allocs_at (allObjs mb w.heap.size) w 47 _ rfl⟩, by have := basicAt_lt 18; unfold basicAt at this ⊢; exact .basic0 18 _ _ _ (Or.inl ⟨by omega, by omega⟩) rfl (allocs_at (allObjs mb w.heap.size) w 47 _ rfl)⟩
  | 19, _ => exact ⟨cell_of_at hsl 19, ⟨_, _, _, allocs_at (allObjs mb w.heap.size) w 49 _ rfl⟩, by have := basicAt_lt 19; unfold basicAt at this ⊢; exact .basic0 19 _ _ _ (Or.inl ⟨by omega, by omega⟩) rfl (allocs_at (allObjs mb w.heap.size) w 49 _ rfl)⟩
  | 20, _ => exact ⟨cell_of_at hsl 20, ⟨_, _, _, allocs_at (allObjs mb w.heap.size) w 52 _ rfl⟩, by have := basicAt_lt 20; unfold basicAt at this ⊢; exact .basic1 20 _ (w.heap.size + 51) _ _ _ _ (Or.inl ⟨by omega, by omega⟩) (Or.inl ⟨by omega, by omega⟩) rfl (allocs_at (allObjs mb w.heap.size) w 52 _ rfl) (allocs_at (allObjs mb w.heap.size) w 51 _ rfl) (fun _ => ⟨Or.inr rfl, ht'⟩)⟩
  | n + 21, h => exact absurd h (by omega)

theorem find_take : ∀ i : Fin 21, (find? (nameAt i) (G0.take i)).isNone = true := by decide +kernel
theorem G0_take (i : Nat) (hi : i < 21) : G0.take i ++ [(nameAt i, .basic i)] = G0.take (i + 1) := by
  have h : G0[i]? = some (nameAt i, .basic i) := by simp [G0, hi]
  rw [List.take_add_one, h]
  rfl
end Go.Proofs.YtodeeegbajgafaaGreatDoor
