/- What is known of slices of data that are laid together. The reader reads a list, with or without a dot, or meets a token that may not stand. The reader reads a list with a dot. The reader reads a list with a dot, and meets a token that may not stand. -/
import Derived.Test.YtodeeegbajgafaaGreatDoorQ23
import Derived.Deep.AppendLies
namespace Go.Proofs.YtodeeegbajgafaaGreatDoor
open Go.RowKit
theorem RawS.kept {B bd : Nat} {w w' : World} {po : Option Addr} {n c : Nat} (h : RawS B bd w po n c) (hw : ∀ k, B ≤ k → k < w.heap.size → w'.heap[k]? = w.heap[k]?) : RawS B bd w' po n c := by
  rcases h with h | ⟨g, o, news, h1, h2, h3, h4, h5, h6, h7, h8⟩
  · exact Or.inl h
  · exact Or.inr ⟨g, o, news, h1, h2, h3, h4, h5, h6, fun j u hj => (World.cell?_of_block (hw g h2 (World.block_lt_of_cell? w _ (h7 j u hj)))).trans (h7 j u hj), h8⟩
theorem RawS.low {B B' bd : Nat} {w : World} {po : Option Addr} {n c : Nat} (h : RawS B bd w po n c) (hb : B' ≤ B) : RawS B' bd w po n c := by
  rcases h with h | ⟨g, o, news, h1, h2, h3⟩
  · exact Or.inl h
  · exact Or.inr ⟨g, o, news, h1, Nat.le_trans hb h2, h3⟩
/-- The cells of data that lie there are these data. -/
theorem raw_rep {ok : Nat → Prop} {w : World} {p : Nat} {g o n c : Nat} {x : Value} {dd : Rd.D} {news : List Value} (hd : RepD ok w (.agg #[.int .i64 p, .slice (some ⟨g, o, none⟩) n c, x]) dd) (hl : news.length = n * 3) (hc : ∀ j u, news[j]? = some u → w.cell? ⟨g, o + j, none⟩ = some u) :
    dd.parts.length = n ∧ x = aV dd.en ∧ ∀ i (hi : i < dd.parts.length), RepD ok w (el3 news i) dd.parts[i] := by
  cases hd with
  | node _ en _ _ _ c0 T ds va vb vc hg hh hn hcs hs =>
    refine ⟨rfl, rfl, fun i hi => ?_⟩
    obtain ⟨q0, q1, q2⟩ := hcs i hi
    have key : ∀ j v, c0[o + j]? = some v → j < ds.length * 3 → news.getD j undef = v := fun j v hv hj => by
      have h1 : news[j]? = some (news.getD j undef) := by rw [List.getD_eq_getElem?_getD, List.getElem?_eq_getElem (by omega)]; rfl
      have h2 := hc j _ h1
      rw [cell_of_at hh, hv] at h2
      exact (Option.some.inj h2).symm
    have hi' : i < ds.length := hi
    have e : el3 news i = .agg #[va i, vb i, vc i] := by
      unfold el3
      rw [key (3 * i) _ q0 (by show 3 * i < ds.length * 3; omega), key (3 * i + 1) _ (by rw [← Nat.add_assoc]; exact q1) (by show 3 * i + 1 < ds.length * 3; omega), key (3 * i + 2) _ (by rw [← Nat.add_assoc]; exact q2) (by show 3 * i + 2 < ds.length * 3; omega)]
    rw [e]
    exact hs i hi
theorem raw_none {ok : Nat → Prop} {w : World} {p : Nat} {x : Value} {dd : Rd.D} (hd : RepD ok w (.agg #[.int .i64 p, .slice none 0 0, x]) dd) : dd.parts = [] ∧ x = aV dd.en := by
  cases hd with
  | leaf _ en => exact ⟨rfl, rfl⟩
/-- An own row as a slice whose cells are there. -/
theorem own_raw {B n bd : Nat} {w : World} {po : Option Addr} {k c : Nat} {xs : List Value} (h : w.ownsRow B 62 3 (.slice po k c) n xs) (hn : n ≤ bd) (h1 : ∀ u ∈ xs, u.oneCell' = true) (hnil : n = 0 → Value.slice po k c = .slice none 0 0) : RawS B bd w po k c := by
  obtain ⟨hx, ⟨e, h0⟩ | ⟨g, cap, cur, e, hg, hh, hnc, hcap, hcs, htk⟩⟩ := h
  · cases e
    exact Or.inl ⟨rfl, rfl, rfl⟩
  · cases e
    by_cases h0 : n = 0
    · have := hnil h0
      cases this
    · refine Or.inr ⟨g, 0, xs, rfl, hg, by omega, hnc, hn, hx, fun j u hj => ?_, h1⟩
      have hjl : j < n * 3 := by
        have := (List.getElem?_eq_some_iff.1 hj).1
        omega
      have h2 : (cur.toList.take (n * 3))[j]? = xs[j]? := by rw [htk]
      rw [List.getElem?_take, if_pos hjl] at h2
      rw [Nat.zero_add, cell_of_at hh, ← Array.getElem?_toList, h2]
      exact hj
theorem RepD.one {ok : Nat → Prop} {w : World} {a b c : Value} {dd : Rd.D} (h : RepD ok w (.agg #[a, b, c]) dd) : a.oneCell' = true ∧ b.oneCell' = true ∧ c.oneCell' = true := by
  cases h with
  | leaf p en => exact ⟨rfl, rfl, by cases en <;> rfl⟩
  | node p en => exact ⟨rfl, rfl, by cases en <;> rfl⟩
theorem own_one {B : Nat} {w : World} {v : Value} {ds : List Rd.D} {xs : List Value} {ok : Nat → Prop} (h : w.ownsRow B 62 3 v ds.length xs) (hs : ∀ i (hi : i < ds.length), RepD ok w (el3 xs i) ds[i]) : ∀ u ∈ xs, u.oneCell' = true := by
  intro u hu
  obtain ⟨j, hj, rfl⟩ := List.getElem_of_mem hu
  have hl := h.1
  have h1 := (hs (j / 3) (by omega)).one
  have e : ∀ i (hi : i < xs.length), xs.getD i undef = xs[i] := fun i hi => by rw [List.getD_eq_getElem?_getD, List.getElem?_eq_getElem hi]; rfl
  have hm : j % 3 = 0 ∨ j % 3 = 1 ∨ j % 3 = 2 := by omega
  rcases hm with hm | hm | hm
  · have := h1.1
    rw [e (3 * (j / 3)) (by omega)] at this
    simpa [show 3 * (j / 3) = j from by omega] using this
  · have := h1.2.1
    rw [e (3 * (j / 3) + 1) (by omega)] at this
    simpa [show 3 * (j / 3) + 1 = j from by omega] using this
  · have := h1.2.2
    rw [e (3 * (j / 3) + 2) (by omega)] at this
    simpa [show 3 * (j / 3) + 2 = j from by omega] using this
theorem cell_set3_drew {w : World} {k g o : Nat} (a b c : Value) (h : g ≠ k) : (((w.setCell ⟨k, 0, none⟩ a).setCell ⟨k, 1, none⟩ b).setCell ⟨k, 2, none⟩ c).drew.cell? ⟨g, o, none⟩ = w.cell? ⟨g, o, none⟩ := by
  show (((w.setCell ⟨k, 0, none⟩ a).setCell ⟨k, 1, none⟩ b).setCell ⟨k, 2, none⟩ c).cell? ⟨g, o, none⟩ = w.cell? ⟨g, o, none⟩
  exact World.cell?_of_block (by rw [Below.heap_setCell _ _ _ _ h, Below.heap_setCell _ _ _ _ h, Below.heap_setCell _ _ _ _ h])
theorem raw_set {B B' n bd : Nat} {w w' : World} {po : Option Addr} {k c h0 : Nat} {xs : List Value} (h : RawS B bd w po k c) (ho : w.ownsRow B' 62 3 (.slice po k c) n xs) (hb : h0 < B') (hw : ∀ k, k ≠ h0 → w'.heap[k]? = w.heap[k]?) : RawS B bd w' po k c := by
  rcases h with h | ⟨g, o, news, h1, h2, h3, h4, h5, h6, h7, h8⟩
  · exact Or.inl h
  · subst h1
    have hg := (ownBlock_of ho g rfl).1
    exact Or.inr ⟨g, o, news, rfl, h2, h3, h4, h5, h6, fun j u hj => (World.cell?_of_block (hw g (by omega))).trans (h7 j u hj), h8⟩
end Go.Proofs.YtodeeegbajgafaaGreatDoor

namespace Go.Proofs.YtodeeegbajgafaaGreatDoor
open Go.RowKit
/-- What a list's reading begins with. -/
def ListT (rb : Nat) (s : ByteArray) (d bd dep : Nat) (w : World) (R : Rd.RR Rd.D) : Prop := Calls Tryz.prog 95 #[.pointer (some ⟨rb, 0, none⟩), .int .i64 dep] w (DatR rb s d bd R w)
set_option maxHeartbeats 4000000 in
set_option maxRecDepth 100000 in
theorem list_c1 (f : Nat) (HD : DataT f) (rb : Nat) (s : ByteArray) (l : List UInt8) (d dep : Nat) (w : World) (hs : s.size ≤ 500) (hl : l <:+ s.data.toList) (hr : RdAt rb s l d w) (hE : ErrsAt w) (hrb5 : 5 < rb) (hk : Rd.kindAt l = 1) (hen : 2 * l.length ≤ f) (hdep : dep + f ≤ 4000) {l' : List UInt8} (hres : Rd.tL f s.size dep (Rd.skip (Rd.behind l)) = .bad l') :
    ListT rb s d (l.length + 1) dep w (.bad l') := by
  unfold ListT
  have hm : s.size ≤ maxLen := by unfold maxLen; omega
  obtain ⟨T, hr1⟩ := id hr
  have c2 : w.cell? ⟨rb, 2, none⟩ = some (.int .i64 (s.size - l.length : Nat)) := cell_of_at hr1 2
  have c4 : w.cell? ⟨rb, 4, none⟩ = some (.int .i64 d) := cell_of_at hr1 4
  have f4 := free_of_at hr1 4
  have hlt := lt_of_at hr1
  have hne : w.heap.size ≠ rb := by omega
  clear hr1
  have hl1 : Rd.skip (Rd.behind l) <:+ s.data.toList := (Rd.next_suffix l).trans hl
  have hll := Rd.next_lt (l := l) (by omega)
  have hl500 : l.length ≤ 500 := by have := hl.length_le; simp at this; omega
  generalize hpl : s.size - l.length = pl at *
  have HK := (show Hid _ from hk)
  clear hk hpl
  have HMX : Hid ((max (d : Int) (dep : Int)) = ((max d dep : Nat) : Int)) := by unfold Hid; omega
  go_enter Tryz.func95, Tryz.ntmps95
  go_wp2_with fail
  rw [HMX.out]
  refine (pass_yes rb s l ((max d dep : Nat) : Int) 1 _ hm hl (RdAt.alloc (hr.deep _) _) HK.out).mono ?_
  rintro e w1 ⟨rfl, hr1, hk1⟩
  have hn1 : w1.heap[w.heap.size]? = some (.cells #[.int .i64 0, .slice none 0 0, .nilIface] 62 (0, 0)) := by
    have h := hk1.at (by simpa [World.setCell] using hne) (at_new (w.setCell ⟨rb, 4, none⟩ (.int .i64 ((max d dep : Nat) : Int))) _)
    simpa [World.setCell] using h
  have hsz1 : w.heap.size + 1 ≤ w1.heap.size := by have := hk1.size; simpa [World.setCell] using this
  have hkA : Kept (· = rb) w w1 := ((kept_set w rb 4 _).alloc _).trans hk1
  have HDK := HD rb s _ (max d dep) dep w1 hs hl1 hr1 (hE.kept hkA (by omega) (by omega)) hrb5 (by omega) hdep
  unfold DataR at HDK
  rw [hres] at HDK
  simp only at HDK
  clear HD hres
  go_wp2_with (first | (go_at_call 31; refine Calls.mono HDK ?_; rintro e w2 ⟨d1, rfl, hr2, hk2⟩; have hn2 := hk2.at (by simpa using hne) hn1; have hs2 := hk2.size; obtain ⟨c20, c21, c22, f20, f21, f22⟩ := cells3 hn2))
  have hst := stored3 hn2 (.int .i64 0) (.slice none 0 0) .nilIface
  obtain ⟨d0, d1', d2, _, _, _⟩ := cells3 hst
  refine bodyPost_ret (v := .tuple #[.agg #[.int .i64 0, .slice none 0 0, .nilIface], .bool false]) ?_ rfl ⟨0, none, 0, 0, .nilIface, d1, rfl, Or.inl ⟨rfl, rfl, rfl⟩, Or.inl rfl, ?_, kept_stored3 (hkA.trans hk2) (fun h => absurd h (Nat.lt_irrefl _)) _ _ _⟩
  · simp [results, Tryz.results95, go_sem, d0, d1', d2]
  · obtain ⟨T2, h2⟩ := hr2
    exact ⟨T2, at_stored3 h2 (by omega) _ _ _⟩
set_option maxHeartbeats 4000000 in
set_option maxRecDepth 100000 in
theorem list_c2 (f : Nat) (HD : DataT f) (rb : Nat) (s : ByteArray) (l : List UInt8) (d dep : Nat) (w : World) (hs : s.size ≤ 500) (hl : l <:+ s.data.toList) (hr : RdAt rb s l d w) (hE : ErrsAt w) (hrb5 : 5 < rb) (hk : Rd.kindAt l = 1) (hen : 2 * l.length ≤ f) (hdep : dep + f ≤ 4000) {ds : List Rd.D} {l' : List UInt8} {m : Nat} (hres : Rd.tL f s.size dep (Rd.skip (Rd.behind l)) = .ok ds l' m) (hnd : ¬ (0 < ds.length ∧ Rd.kindAt l' = 3)) (hk2 : Rd.kindAt l' = 2) :
    ListT rb s d (l.length + 1) dep w (.ok (.mk (s.size - l.length) ds .empty) (Rd.skip (Rd.behind l')) (max dep m)) := by
  unfold ListT
  have HK2 := (show Hid _ from hk2)
  clear hk2
  have hm : s.size ≤ maxLen := by unfold maxLen; omega
  obtain ⟨T, hr1⟩ := id hr
  have c2 : w.cell? ⟨rb, 2, none⟩ = some (.int .i64 (s.size - l.length : Nat)) := cell_of_at hr1 2
  have c4 : w.cell? ⟨rb, 4, none⟩ = some (.int .i64 d) := cell_of_at hr1 4
  have f4 := free_of_at hr1 4
  have hlt := lt_of_at hr1
  have hne : w.heap.size ≠ rb := by omega
  clear hr1
  have hl1 : Rd.skip (Rd.behind l) <:+ s.data.toList := (Rd.next_suffix l).trans hl
  have hll := Rd.next_lt (l := l) (by omega)
  have hl500 : l.length ≤ 500 := by have := hl.length_le; simp at this; omega
  generalize hpl : s.size - l.length = pl at *
  have HK := (show Hid _ from hk)
  clear hk hpl
  have HMX : Hid ((max (d : Int) (dep : Int)) = ((max d dep : Nat) : Int)) := by unfold Hid; omega
  go_enter Tryz.func95, Tryz.ntmps95
  go_wp2_with fail
  rw [HMX.out]
  refine (pass_yes rb s l ((max d dep : Nat) : Int) 1 _ hm hl (RdAt.alloc (hr.deep _) _) HK.out).mono ?_
  rintro e w1 ⟨rfl, hr1, hk1⟩
  have hn1 : w1.heap[w.heap.size]? = some (.cells #[.int .i64 0, .slice none 0 0, .nilIface] 62 (0, 0)) := by
    have h := hk1.at (by simpa [World.setCell] using hne) (at_new (w.setCell ⟨rb, 4, none⟩ (.int .i64 ((max d dep : Nat) : Int))) _)
    simpa [World.setCell] using h
  have hsz1 : w.heap.size + 1 ≤ w1.heap.size := by have := hk1.size; simpa [World.setCell] using this
  have hkA : Kept (· = rb) w w1 := ((kept_set w rb 4 _).alloc _).trans hk1
  have HDK := HD rb s _ (max d dep) dep w1 hs hl1 hr1 (hE.kept hkA (by omega) (by omega)) hrb5 (by omega) hdep
  unfold DataR at HDK
  rw [hres] at HDK
  simp only at HDK
  go_wp2_with fail
  refine Calls.mono HDK ?_
  rintro e w2 ⟨sl, xs, rfl, hown, hels, hnil, hr2, hk2⟩
  have hob := ownBlock_of hown
  obtain ⟨pb, pn, pc, rfl⟩ : ∃ a k c, sl = .slice a k c := by
    obtain ⟨_, ⟨rfl, _⟩ | ⟨g, cap, cur, rfl, _⟩⟩ := hown
    · exact ⟨_, _, _, rfl⟩
    · exact ⟨_, _, _, rfl⟩
  obtain ⟨hpn, hpc⟩ : pn = ds.length ∧ ds.length ≤ pc := by
    obtain ⟨_, ⟨e, h0⟩ | ⟨g, cap, cur, e, _, _, h1, _⟩⟩ := hown
    · cases e; exact ⟨h0.symm, by omega⟩
    · cases e; exact ⟨rfl, h1⟩
  subst hpn
  have hn2 := hk2.at (by simpa [World.setCell] using hne) hn1
  have hkB := hkA.trans hk2
  have hsz2 := hk2.size
  have hleft := Rd.tL_left f s.size dep (Rd.skip (Rd.behind l))
  rw [hres] at hleft
  obtain ⟨lf1, lf2, lf3⟩ := hleft
  have lf3 : ds.length + l'.length ≤ (Rd.skip (Rd.behind l)).length := lf3
  have hl2 : l' <:+ s.data.toList := lf1.trans hl1
  have hn3 := at_alloc hn2 (.cells #[.int .i64 0, .slice none 0 0, .iface 146 (.agg #[])] 62)
  have hr3 := hr2.alloc (.cells #[.int .i64 0, .slice none 0 0, .iface 146 (.agg #[])] 62)
  obtain ⟨c20, c21, c22, f20, f21, f22⟩ := cells3 hn3
  have ht3 := at_new w2 (.cells #[.int .i64 0, .slice none 0 0, .iface 146 (.agg #[])] 62)
  obtain ⟨t20, t21, t22, _, _, _⟩ := cells3 ht3
  have hne2 : w2.heap.size ≠ rb := by omega
  have hne3 : w2.heap.size ≠ w.heap.size := by omega
  have hkC := hkB.alloc (.cells #[.int .i64 0, .slice none 0 0, .iface 146 (.agg #[])] 62)
  have hown3 := hown.alloc (.cells #[.int .i64 0, .slice none 0 0, .iface 146 (.agg #[])] 62)
  have hels3 : ∀ i (hi : i < ds.length), RepD (fun k => w1.heap.size ≤ k ∧ some k ≠ (Value.slice pb ds.length pc).ownBlock) (w2.alloc (.cells #[.int .i64 0, .slice none 0 0, .iface 146 (.agg #[])] 62)) (el3 xs i) ds[i] := fun i hi => (hels i hi).mono fun k hk h => ⟨h, Below.heap_alloc _ _ _ hk⟩
  have hcl : ∀ w4 : World, Kept (· = rb) (w2.alloc (.cells #[.int .i64 0, .slice none 0 0, .iface 146 (.agg #[])] 62)) w4 → w4.ownsRow w1.heap.size 62 3 (.slice pb ds.length pc) ds.length xs ∧ ∀ i (hi : i < ds.length), RepD (fun k => w1.heap.size ≤ k ∧ some k ≠ (Value.slice pb ds.length pc).ownBlock) w4 (el3 xs i) ds[i] := fun w4 hk4 => ⟨ownsRow_kept (M := (· = rb)) hown3 hk4 (fun g hg e => by omega), fun i hi => (hels3 i hi).mono fun k hk h => ⟨h, hk4.block k hk (fun e => by omega)⟩⟩
  have HCL := (show Hid _ from hcl)
  have HND : Hid (0 < ds.length → Rd.kindAt l' ≠ 3) := fun h0 h3 => hnd ⟨h0, h3⟩
  have HNIL := (show Hid _ from hnil)
  clear hcl hown hown3 hels hels3 hnd hres HDK HD hob hnil
  rcases (Decidable.em ((0 : Int) < (ds.length : Int))) with t0 | t0 <;>
  (go_wp2_with (first | (go_at_call_of 32 (Value.int IntKind.i64 3); refine (pass_no rb s l' _ 3 _ hr3 (HND.out (by omega))).mono ?_; rintro e w3 ⟨rfl, rfl⟩))
   clear hn1 hn2 hr1 hr2 hkA hkB hk1 hk2 hr c2 c4 f4
   generalize hT : w2.heap.size = tb at *
   generalize hG : w2.alloc (.cells #[.int .i64 0, .slice none 0 0, .iface 146 (.agg #[])] 62) = W3 at *
   go_region_held3 (fun x => x.cell? ⟨tb, 1, none⟩ = some (.slice none 0 0) ∧ x.cell? ⟨tb, 2, none⟩ = some (.iface 146 (.agg #[]))) (first | (go_keep; done) | (constructor <;> (rw [cell_stored3_ne _ _ _ _ hne3]; assumption)) | (exact ⟨(cell_set3_drew (w := W3) (.int .i64 pl) (.slice pb ds.length pc) (.iface 146 (.agg #[])) hne3).trans t21, (cell_set3_drew (w := W3) (.int .i64 pl) (.slice pb ds.length pc) (.iface 146 (.agg #[])) hne3).trans t22⟩)) (first | (refine step_append_none rfl (.tmp 52) (.tmp 54) 55 rfl pb ds.length pc (by simp [Act.eval]) (by simp [Act.eval]) (app_none _ _ _ _ _ hpc) ?_) | (go_at_call 32; refine (pass_yes rb s l' _ 2 _ hm hl2 (hr3.kept ((Below.refl _ _).drew)) HK2.out).mono ?_; rintro e w4 ⟨rfl, hr4, hk4⟩; obtain ⟨e20, e21, e22, g20, g21, g22⟩ := cells3 (hk4.at (by simpa using hne) (at_drew hn3)); obtain ⟨t40, t41, t42, _, _, _⟩ := cells3 (hk4.at (by simpa using hne2) (at_drew ht3))))
   go_wp2
   have hkW : Kept (· = rb) W3 w4 := ((Kept.refl _ W3).drew).trans hk4
   have hkD : Kept (· = rb) w w4 := hkC.drew.trans hk4
   have hst := stored3 (hk4.at (by simpa using hne) (at_drew hn3)) (.int .i64 pl) (.slice pb ds.length pc) (.iface 146 (.agg #[]))
   obtain ⟨d0, d1, d2, _, _, _⟩ := cells3 hst
   obtain ⟨hown4, hels4⟩ := HCL.out _ hkW
   have hone : ∀ u ∈ xs, u.oneCell' = true := own_one hown4 hels4
   have hraw : RawS w.heap.size (l.length + 1) w4 pb ds.length pc := (own_raw hown4 (by omega) hone HNIL.out).low (by omega)
   have hob4 := ownBlock_of hown4
   have hcw : ∀ k, k ≠ w.heap.size → (((w4.setCell ⟨w.heap.size, 0, none⟩ (.int .i64 pl)).setCell ⟨w.heap.size, 1, none⟩ (.slice pb ds.length pc)).setCell ⟨w.heap.size, 2, none⟩ (.iface 146 (.agg #[]))).heap[k]? = w4.heap[k]? := fun k hk => by show (((w4.setCell ⟨w.heap.size, 0, none⟩ (.int .i64 pl)).setCell ⟨w.heap.size, 1, none⟩ (.slice pb ds.length pc)).setCell ⟨w.heap.size, 2, none⟩ (.iface 146 (.agg #[]))).heap[k]? = w4.heap[k]?; rw [Below.heap_setCell _ _ _ _ hk, Below.heap_setCell _ _ _ _ hk, Below.heap_setCell _ _ _ _ hk]
   refine bodyPost_ret (v := .tuple #[.agg #[.int .i64 pl, .slice pb ds.length pc, .iface 146 (.agg #[])], .bool true]) ?_ rfl ?_
   · simp [results, Tryz.results95, go_sem, d0, d1, d2]
   · refine ⟨pl, pb, ds.length, pc, 146, .agg #[], rfl, ?_, raw_set hraw hown4 (by omega) hcw, ?_, kept_stored3 hkD (fun h => absurd h (Nat.lt_irrefl _)) _ _ _⟩
     · refine RepS.datum (en := .empty) ?_ pl
       exact (own_reps hown4 hels4).mono fun k hk hge => ⟨by omega, hcw k (by omega)⟩
     · obtain ⟨T2, h2⟩ := hr4
       have e : max (max d dep) m = max d (max dep m) := by omega
       rw [e] at h2
       exact ⟨T2, (hcw rb (by omega)).trans h2⟩)
set_option maxHeartbeats 4000000 in
set_option maxRecDepth 100000 in
theorem list_c3 (f : Nat) (HD : DataT f) (rb : Nat) (s : ByteArray) (l : List UInt8) (d dep : Nat) (w : World) (hs : s.size ≤ 500) (hl : l <:+ s.data.toList) (hr : RdAt rb s l d w) (hE : ErrsAt w) (hrb5 : 5 < rb) (hk : Rd.kindAt l = 1) (hen : 2 * l.length ≤ f) (hdep : dep + f ≤ 4000) {ds : List Rd.D} {l' : List UInt8} {m : Nat} (hres : Rd.tL f s.size dep (Rd.skip (Rd.behind l)) = .ok ds l' m) (hnd : ¬ (0 < ds.length ∧ Rd.kindAt l' = 3)) (hk2 : Rd.kindAt l' ≠ 2) :
    ListT rb s d (l.length + 1) dep w (.bad l') := by
  unfold ListT
  have HK2 := (show Hid _ from hk2)
  clear hk2
  have hm : s.size ≤ maxLen := by unfold maxLen; omega
  obtain ⟨T, hr1⟩ := id hr
  have c2 : w.cell? ⟨rb, 2, none⟩ = some (.int .i64 (s.size - l.length : Nat)) := cell_of_at hr1 2
  have c4 : w.cell? ⟨rb, 4, none⟩ = some (.int .i64 d) := cell_of_at hr1 4
  have f4 := free_of_at hr1 4
  have hlt := lt_of_at hr1
  have hne : w.heap.size ≠ rb := by omega
  clear hr1
  have hl1 : Rd.skip (Rd.behind l) <:+ s.data.toList := (Rd.next_suffix l).trans hl
  have hll := Rd.next_lt (l := l) (by omega)
  have hl500 : l.length ≤ 500 := by have := hl.length_le; simp at this; omega
  generalize hpl : s.size - l.length = pl at *
  have HK := (show Hid _ from hk)
  clear hk hpl
  have HMX : Hid ((max (d : Int) (dep : Int)) = ((max d dep : Nat) : Int)) := by unfold Hid; omega
  go_enter Tryz.func95, Tryz.ntmps95
  go_wp2_with fail
  rw [HMX.out]
  refine (pass_yes rb s l ((max d dep : Nat) : Int) 1 _ hm hl (RdAt.alloc (hr.deep _) _) HK.out).mono ?_
  rintro e w1 ⟨rfl, hr1, hk1⟩
  have hn1 : w1.heap[w.heap.size]? = some (.cells #[.int .i64 0, .slice none 0 0, .nilIface] 62 (0, 0)) := by
    have h := hk1.at (by simpa [World.setCell] using hne) (at_new (w.setCell ⟨rb, 4, none⟩ (.int .i64 ((max d dep : Nat) : Int))) _)
    simpa [World.setCell] using h
  have hsz1 : w.heap.size + 1 ≤ w1.heap.size := by have := hk1.size; simpa [World.setCell] using this
  have hkA : Kept (· = rb) w w1 := ((kept_set w rb 4 _).alloc _).trans hk1
  have HDK := HD rb s _ (max d dep) dep w1 hs hl1 hr1 (hE.kept hkA (by omega) (by omega)) hrb5 (by omega) hdep
  unfold DataR at HDK
  rw [hres] at HDK
  simp only at HDK
  go_wp2_with fail
  refine Calls.mono HDK ?_
  rintro e w2 ⟨sl, xs, rfl, hown, hels, hnil, hr2, hk2⟩
  have hob := ownBlock_of hown
  obtain ⟨pb, pn, pc, rfl⟩ : ∃ a k c, sl = .slice a k c := by
    obtain ⟨_, ⟨rfl, _⟩ | ⟨g, cap, cur, rfl, _⟩⟩ := hown
    · exact ⟨_, _, _, rfl⟩
    · exact ⟨_, _, _, rfl⟩
  obtain ⟨hpn, hpc⟩ : pn = ds.length ∧ ds.length ≤ pc := by
    obtain ⟨_, ⟨e, h0⟩ | ⟨g, cap, cur, e, _, _, h1, _⟩⟩ := hown
    · cases e; exact ⟨h0.symm, by omega⟩
    · cases e; exact ⟨rfl, h1⟩
  subst hpn
  have hn2 := hk2.at (by simpa [World.setCell] using hne) hn1
  have hkB := hkA.trans hk2
  have hsz2 := hk2.size
  have hleft := Rd.tL_left f s.size dep (Rd.skip (Rd.behind l))
  rw [hres] at hleft
  obtain ⟨lf1, lf2, lf3⟩ := hleft
  have lf3 : ds.length + l'.length ≤ (Rd.skip (Rd.behind l)).length := lf3
  have hl2 : l' <:+ s.data.toList := lf1.trans hl1
  have hn3 := at_alloc hn2 (.cells #[.int .i64 0, .slice none 0 0, .iface 146 (.agg #[])] 62)
  have hr3 := hr2.alloc (.cells #[.int .i64 0, .slice none 0 0, .iface 146 (.agg #[])] 62)
  obtain ⟨c20, c21, c22, f20, f21, f22⟩ := cells3 hn3
  have ht3 := at_new w2 (.cells #[.int .i64 0, .slice none 0 0, .iface 146 (.agg #[])] 62)
  obtain ⟨t20, t21, t22, _, _, _⟩ := cells3 ht3
  have hne2 : w2.heap.size ≠ rb := by omega
  have hne3 : w2.heap.size ≠ w.heap.size := by omega
  have hkC := hkB.alloc (.cells #[.int .i64 0, .slice none 0 0, .iface 146 (.agg #[])] 62)
  have hown3 := hown.alloc (.cells #[.int .i64 0, .slice none 0 0, .iface 146 (.agg #[])] 62)
  have hels3 : ∀ i (hi : i < ds.length), RepD (fun k => w1.heap.size ≤ k ∧ some k ≠ (Value.slice pb ds.length pc).ownBlock) (w2.alloc (.cells #[.int .i64 0, .slice none 0 0, .iface 146 (.agg #[])] 62)) (el3 xs i) ds[i] := fun i hi => (hels i hi).mono fun k hk h => ⟨h, Below.heap_alloc _ _ _ hk⟩
  have hcl : ∀ w4 : World, Kept (· = rb) (w2.alloc (.cells #[.int .i64 0, .slice none 0 0, .iface 146 (.agg #[])] 62)) w4 → w4.ownsRow w1.heap.size 62 3 (.slice pb ds.length pc) ds.length xs ∧ ∀ i (hi : i < ds.length), RepD (fun k => w1.heap.size ≤ k ∧ some k ≠ (Value.slice pb ds.length pc).ownBlock) w4 (el3 xs i) ds[i] := fun w4 hk4 => ⟨ownsRow_kept (M := (· = rb)) hown3 hk4 (fun g hg e => by omega), fun i hi => (hels3 i hi).mono fun k hk h => ⟨h, hk4.block k hk (fun e => by omega)⟩⟩
  have HCL := (show Hid _ from hcl)
  have HND : Hid (0 < ds.length → Rd.kindAt l' ≠ 3) := fun h0 h3 => hnd ⟨h0, h3⟩
  have HNIL := (show Hid _ from hnil)
  clear hcl hown hown3 hels hels3 hnd hres HDK HD hob hnil
  rcases (Decidable.em ((0 : Int) < (ds.length : Int))) with t0 | t0 <;>
  (go_wp2_with (first | (go_at_call_of 32 (Value.int IntKind.i64 3); refine (pass_no rb s l' _ 3 _ hr3 (HND.out (by omega))).mono ?_; rintro e w3 ⟨rfl, rfl⟩))
   clear hn1 hn2 hr1 hr2 hkA hkB hk1 hk2 hr c2 c4 f4
   generalize hT : w2.heap.size = tb at *
   generalize hG : w2.alloc (.cells #[.int .i64 0, .slice none 0 0, .iface 146 (.agg #[])] 62) = W3 at *
   go_region_held3 (fun x => x.cell? ⟨tb, 1, none⟩ = some (.slice none 0 0) ∧ x.cell? ⟨tb, 2, none⟩ = some (.iface 146 (.agg #[]))) (first | (go_keep; done) | (constructor <;> (rw [cell_stored3_ne _ _ _ _ hne3]; assumption)) | (exact ⟨(cell_set3_drew (w := W3) (.int .i64 pl) (.slice pb ds.length pc) (.iface 146 (.agg #[])) hne3).trans t21, (cell_set3_drew (w := W3) (.int .i64 pl) (.slice pb ds.length pc) (.iface 146 (.agg #[])) hne3).trans t22⟩)) (first | (refine step_append_none rfl (.tmp 52) (.tmp 54) 55 rfl pb ds.length pc (by simp [Act.eval]) (by simp [Act.eval]) (app_none _ _ _ _ _ hpc) ?_) | (go_at_call 32; refine (pass_no rb s l' _ 2 _ (hr3.kept ((Below.refl _ _).drew)) HK2.out).mono ?_; rintro e w4 ⟨rfl, rfl⟩))
   go_wp2
   have hr4 := hr3
   have hkW : Kept (· = rb) W3 W3 := Kept.refl _ W3
   have hst := at_drew (stored3 hn3 (.int .i64 pl) (.slice pb ds.length pc) (.iface 146 (.agg #[])))
   obtain ⟨d0, d1, d2, _, _, _⟩ := cells3 hst
   obtain ⟨hown4, hels4⟩ := HCL.out _ hkW
   have hone : ∀ u ∈ xs, u.oneCell' = true := own_one hown4 hels4
   have hraw : RawS w.heap.size (l.length + 1) W3 pb ds.length pc := (own_raw hown4 (by omega) hone HNIL.out).low (by omega)
   have hob4 := ownBlock_of hown4
   have hcw : ∀ k, k ≠ w.heap.size → (((W3.setCell ⟨w.heap.size, 0, none⟩ (.int .i64 pl)).setCell ⟨w.heap.size, 1, none⟩ (.slice pb ds.length pc)).setCell ⟨w.heap.size, 2, none⟩ (.iface 146 (.agg #[]))).drew.heap[k]? = W3.heap[k]? := fun k hk => by show (((W3.setCell ⟨w.heap.size, 0, none⟩ (.int .i64 pl)).setCell ⟨w.heap.size, 1, none⟩ (.slice pb ds.length pc)).setCell ⟨w.heap.size, 2, none⟩ (.iface 146 (.agg #[]))).heap[k]? = W3.heap[k]?; rw [Below.heap_setCell _ _ _ _ hk, Below.heap_setCell _ _ _ _ hk, Below.heap_setCell _ _ _ _ hk]
   refine bodyPost_ret (v := .tuple #[.agg #[.int .i64 pl, .slice pb ds.length pc, .iface 146 (.agg #[])], .bool false]) ?_ rfl ?_
   · simp [results, Tryz.results95, go_sem, d0, d1, d2]
   · refine ⟨pl, pb, ds.length, pc, .iface 146 (.agg #[]), max (max d dep) m, rfl, raw_set hraw hown4 (by omega) hcw, Or.inr ⟨_, _, rfl⟩, ?_, (kept_stored3 hkC (fun h => absurd h (Nat.lt_irrefl _)) _ _ _).drew⟩
     obtain ⟨T2, h2⟩ := hr4
     exact ⟨T2, (hcw rb (by omega)).trans h2⟩)
end Go.Proofs.YtodeeegbajgafaaGreatDoor

namespace Go.Proofs.YtodeeegbajgafaaGreatDoor
open Go.RowKit
/-- What is known where a list's parts and its tail have been read. -/
structure Tailed (bd rb : Nat) (s : ByteArray) (B1 tb : Nat) (ds : List Rd.D) (xs : List Value) (pb : Option Addr) (pc : Nat) (l : List UInt8) (dd : Nat) (w X : World) (pp : Int) (po : Option Addr) (pn2 pc2 : Nat) (x : Value) : Prop where
  zero : X.heap[w.heap.size]? = some (.cells #[.int .i64 0, .slice none 0 0, .nilIface] 62 (0, 0))
  tail : X.heap[tb]? = some (.cells #[.int .i64 pp, .slice po pn2 pc2, x] 62 (0, 0))
  rd : RdAt rb s l dd X
  own : X.ownsRow B1 62 3 (.slice pb ds.length pc) ds.length xs
  els : ∀ i (hi : i < ds.length), RepD (fun k => B1 ≤ k ∧ some k ≠ (Value.slice pb ds.length pc).ownBlock) X (el3 xs i) ds[i]
  kept : Kept (· = rb) w X
  raw : RawS (tb + 1) bd X po pn2 pc2
  ob : ∀ g, (Value.slice pb ds.length pc).ownBlock = some g → g < tb
  b1 : w.heap.size + 1 ≤ B1
  b2 : B1 ≤ tb
  rbl : rb < w.heap.size
theorem Tailed.of {bd rb : Nat} {s : ByteArray} {B1 tb : Nat} {ds : List Rd.D} {xs : List Value} {pb : Option Addr} {pc : Nat} {l : List UInt8} {dd : Nat} {w W3 w5 : World} {pp : Int} {po : Option Addr} {pn2 pc2 : Nat} {x : Value} {a b c : Value} (hz : W3.heap[w.heap.size]? = some (.cells #[.int .i64 0, .slice none 0 0, .nilIface] 62 (0, 0))) (ht : W3.heap[tb]? = some (.cells #[a, b, c] 62 (0, 0))) (ho : W3.ownsRow B1 62 3 (.slice pb ds.length pc) ds.length xs) (_he : ∀ i (hi : i < ds.length), RepD (fun k => B1 ≤ k ∧ some k ≠ (Value.slice pb ds.length pc).ownBlock) W3 (el3 xs i) ds[i]) (hk : Kept (· = rb) w W3)
    (hob : ∀ g, (Value.slice pb ds.length pc).ownBlock = some g → g < tb) (heb : ∀ i (hi : i < ds.length), RepD (fun k => (B1 ≤ k ∧ some k ≠ (Value.slice pb ds.length pc).ownBlock) ∧ k < tb) W3 (el3 xs i) ds[i]) (b1 : w.heap.size + 1 ≤ B1) (b2 : B1 ≤ tb) (hW : W3.heap.size = tb + 1) (hrbl : rb < w.heap.size) (hk5 : Kept (· = rb) W3 w5) (hr5 : RdAt rb s l dd w5) (hraw : RawS W3.heap.size bd w5 po pn2 pc2) :
    Tailed bd rb s B1 tb ds xs pb pc l dd w (((w5.setCell ⟨tb, 0, none⟩ (.int .i64 pp)).setCell ⟨tb, 1, none⟩ (.slice po pn2 pc2)).setCell ⟨tb, 2, none⟩ x) pp po pn2 pc2 x := by
  have hne : ∀ k, k ≠ tb → (((w5.setCell ⟨tb, 0, none⟩ (.int .i64 pp)).setCell ⟨tb, 1, none⟩ (.slice po pn2 pc2)).setCell ⟨tb, 2, none⟩ x).heap[k]? = w5.heap[k]? := fun k hk => by rw [Below.heap_setCell _ _ _ _ hk, Below.heap_setCell _ _ _ _ hk, Below.heap_setCell _ _ _ _ hk]
  have _hkS : Kept (fun k => k = tb) w5 (((w5.setCell ⟨tb, 0, none⟩ (.int .i64 pp)).setCell ⟨tb, 1, none⟩ (.slice po pn2 pc2)).setCell ⟨tb, 2, none⟩ x) := (((Kept.refl (fun k => k = tb) w5).setCell (p := ⟨tb, 0, none⟩) (fun _ => rfl) _).setCell (p := ⟨tb, 1, none⟩) (fun _ => rfl) _).setCell (p := ⟨tb, 2, none⟩) (fun _ => rfl) _
  have hz5 := hk5.at (show ¬ w.heap.size = rb by omega) hz
  have ht5 := hk5.at (show ¬ tb = rb by omega) ht
  refine ⟨(hne _ (by omega)).trans hz5, stored3 ht5 _ _ _, ?_, ?_, ?_, ?_, ?_, hob, b1, b2, hrbl⟩
  · obtain ⟨T, h⟩ := hr5
    exact ⟨T, (hne rb (by omega)).trans h⟩
  · have h1 := ownsRow_kept (M := (· = rb)) ho hk5 (fun g hg e => by omega)
    obtain ⟨e1, e2 | ⟨g, cap, cur, hv, hB, hh, r⟩⟩ := h1
    · exact ⟨e1, Or.inl e2⟩
    · have := hob g (by rw [hv]; rfl)
      exact ⟨e1, Or.inr ⟨g, cap, cur, hv, hB, (hne g (by omega)).trans hh, r⟩⟩
  · exact fun i hi => (heb i hi).mono fun k hk' h => ⟨h.1, (hne k (by omega)).trans (hk5.block k hk' (by omega))⟩
  · exact (((hk.trans hk5).setCell (p := ⟨tb, 0, none⟩) (fun h => absurd h (by simp only; omega)) _).setCell (p := ⟨tb, 1, none⟩) (fun h => absurd h (by simp only; omega)) _).setCell (p := ⟨tb, 2, none⟩) (fun h => absurd h (by simp only; omega)) _
  · rw [hW] at hraw
    exact hraw.kept fun k h1 h2 => hne k (by omega)
theorem add_eq (g o j : Nat) : (⟨g, o, none⟩ : Addr).add j = ⟨g, o + j, none⟩ := by
  unfold Addr.add
  split
  · rename_i h0
    subst h0
    rfl
  · simp
theorem join_own {B1 tb : Nat} {ds tp : List Rd.D} {xs news : List Value} {v : Value} {X w6 : World} {g cap : Nat} (hown : X.ownsRow B1 62 3 v ds.length xs) (hels : ∀ i (hi : i < ds.length), RepD (fun k => B1 ≤ k ∧ some k ≠ v.ownBlock) X (el3 xs i) ds[i]) (hob : ∀ g, v.ownBlock = some g → g < tb) (hb : B1 ≤ tb) (hparts : ∀ i (hi : i < tp.length), RepD (fun k => tb + 1 ≤ k) X (el3 news i) tp[i]) (_hnl : news.length = tp.length * 3)
    (hg : X.drew.grownBy w6 v.ownBlock) (hat : v.ownBlock = some g ∨ g = X.heap.size) (_htb : tb < X.heap.size) : ∀ i (hi : i < (ds ++ tp).length), RepD (fun k => B1 ≤ k ∧ some k ≠ (Value.slice (some ⟨g, 0, none⟩) (ds.length + tp.length) cap).ownBlock) w6 (el3 (xs ++ news) i) (ds ++ tp)[i] := by
  intro i hi
  have hxl : xs.length = ds.length * 3 := hown.1
  have hblk : ∀ k, k < X.heap.size → some k ≠ v.ownBlock → w6.heap[k]? = X.heap[k]? := fun k hk hn => hg.block k hk hn
  have hne : ∀ k, k < X.heap.size → some k ≠ v.ownBlock → some k ≠ (Value.slice (some ⟨g, 0, none⟩) (ds.length + tp.length) cap).ownBlock := fun k hk hn e => by
    have e' : k = g := by injection e
    subst e'
    rcases hat with h | h
    · exact hn h.symm
    · omega
  by_cases hl : i < ds.length
  · have e1 : el3 (xs ++ news) i = el3 xs i := by
      unfold el3
      simp only [List.getD_eq_getElem?_getD]
      rw [List.getElem?_append_left (by omega), List.getElem?_append_left (by omega), List.getElem?_append_left (by omega)]
    rw [e1, List.getElem_append_left hl]
    exact (hels i hl).mono fun k hk h => ⟨⟨h.1, hne k hk h.2⟩, hblk k hk h.2⟩
  · simp only [List.length_append] at hi
    have e1 : el3 (xs ++ news) i = el3 news (i - ds.length) := by
      unfold el3
      simp only [List.getD_eq_getElem?_getD]
      rw [List.getElem?_append_right (by omega), List.getElem?_append_right (by omega), List.getElem?_append_right (by omega), show 3 * i - xs.length = 3 * (i - ds.length) from by omega, show 3 * i + 1 - xs.length = 3 * (i - ds.length) + 1 from by omega, show 3 * i + 2 - xs.length = 3 * (i - ds.length) + 2 from by omega]
    rw [e1, List.getElem_append_right (by omega)]
    refine (hparts (i - ds.length) (by omega)).mono fun k hk h => ?_
    have hno : some k ≠ v.ownBlock := fun e => by have := hob k e.symm; omega
    exact ⟨⟨by omega, hne k hk hno⟩, hblk k hk hno⟩
set_option maxHeartbeats 4000000 in
set_option maxRecDepth 100000 in
theorem list_c4 (f : Nat) (HD : DataT f) (rb : Nat) (s : ByteArray) (l : List UInt8) (d dep : Nat) (w : World) (hs : s.size ≤ 500) (hl : l <:+ s.data.toList) (hr : RdAt rb s l d w) (hE : ErrsAt w) (hrb5 : 5 < rb) (hk : Rd.kindAt l = 1) (hen : 2 * l.length ≤ f) (hdep : dep + f ≤ 4000) (HT4 : DatumT f) {ds : List Rd.D} {l' : List UInt8} {m : Nat} (hres : Rd.tL f s.size dep (Rd.skip (Rd.behind l)) = .ok ds l' m) (h0 : 0 < ds.length) (hk3 : Rd.kindAt l' = 3) {t : Rd.D} {l'' : List UInt8} {m' : Nat} (htail : Rd.tD f s.size dep (Rd.skip (Rd.behind l')) = .ok t l'' m') (hk2 : Rd.kindAt l'' = 2) :
    ListT rb s d (l.length + 1) dep w (.ok (.mk (s.size - l.length) (ds ++ t.parts) t.en) (Rd.skip (Rd.behind l'')) (max dep (max m m'))) := by
  unfold ListT
  have HK2 := (show Hid _ from hk2)
  obtain ⟨i0, hi, hz0, hz1, hz2⟩ := info_parts Tryz.info62
  have HK3 := (show Hid _ from hk3)
  clear hk2
  have hm : s.size ≤ maxLen := by unfold maxLen; omega
  obtain ⟨T, hr1⟩ := id hr
  have c2 : w.cell? ⟨rb, 2, none⟩ = some (.int .i64 (s.size - l.length : Nat)) := cell_of_at hr1 2
  have c4 : w.cell? ⟨rb, 4, none⟩ = some (.int .i64 d) := cell_of_at hr1 4
  have f4 := free_of_at hr1 4
  have hlt := lt_of_at hr1
  have hne : w.heap.size ≠ rb := by omega
  clear hr1
  have hl1 : Rd.skip (Rd.behind l) <:+ s.data.toList := (Rd.next_suffix l).trans hl
  have hll := Rd.next_lt (l := l) (by omega)
  have hl500 : l.length ≤ 500 := by have := hl.length_le; simp at this; omega
  generalize hpl : s.size - l.length = pl at *
  have HK := (show Hid _ from hk)
  clear hk hpl
  have HMX : Hid ((max (d : Int) (dep : Int)) = ((max d dep : Nat) : Int)) := by unfold Hid; omega
  go_enter Tryz.func95, Tryz.ntmps95
  go_wp2_with fail
  rw [HMX.out]
  refine (pass_yes rb s l ((max d dep : Nat) : Int) 1 _ hm hl (RdAt.alloc (hr.deep _) _) HK.out).mono ?_
  rintro e w1 ⟨rfl, hr1, hk1⟩
  have hn1 : w1.heap[w.heap.size]? = some (.cells #[.int .i64 0, .slice none 0 0, .nilIface] 62 (0, 0)) := by
    have h := hk1.at (by simpa [World.setCell] using hne) (at_new (w.setCell ⟨rb, 4, none⟩ (.int .i64 ((max d dep : Nat) : Int))) _)
    simpa [World.setCell] using h
  have hsz1 : w.heap.size + 1 ≤ w1.heap.size := by have := hk1.size; simpa [World.setCell] using this
  have hkA : Kept (· = rb) w w1 := ((kept_set w rb 4 _).alloc _).trans hk1
  have HDK := HD rb s _ (max d dep) dep w1 hs hl1 hr1 (hE.kept hkA (by omega) (by omega)) hrb5 (by omega) hdep
  unfold DataR at HDK
  rw [hres] at HDK
  simp only at HDK
  go_wp2_with fail
  refine Calls.mono HDK ?_
  rintro e w2 ⟨sl, xs, rfl, hown, hels, hnil, hr2, hk2⟩
  have hob := ownBlock_of hown
  obtain ⟨pb, pn, pc, rfl⟩ : ∃ a k c, sl = .slice a k c := by
    obtain ⟨_, ⟨rfl, _⟩ | ⟨g, cap, cur, rfl, _⟩⟩ := hown
    · exact ⟨_, _, _, rfl⟩
    · exact ⟨_, _, _, rfl⟩
  obtain ⟨hpn, hpc⟩ : pn = ds.length ∧ ds.length ≤ pc := by
    obtain ⟨_, ⟨e, h0⟩ | ⟨g, cap, cur, e, _, _, h1, _⟩⟩ := hown
    · cases e; exact ⟨h0.symm, by omega⟩
    · cases e; exact ⟨rfl, h1⟩
  subst hpn
  have hn2 := hk2.at (by simpa [World.setCell] using hne) hn1
  have hkB := hkA.trans hk2
  have hsz2 := hk2.size
  have hleft := Rd.tL_left f s.size dep (Rd.skip (Rd.behind l))
  rw [hres] at hleft
  obtain ⟨lf1, lf2, lf3⟩ := hleft
  have lf3 : ds.length + l'.length ≤ (Rd.skip (Rd.behind l)).length := lf3
  have hl2 : l' <:+ s.data.toList := lf1.trans hl1
  have hn3 := at_alloc hn2 (.cells #[.int .i64 0, .slice none 0 0, .iface 146 (.agg #[])] 62)
  have hr3 := hr2.alloc (.cells #[.int .i64 0, .slice none 0 0, .iface 146 (.agg #[])] 62)
  obtain ⟨c20, c21, c22, f20, f21, f22⟩ := cells3 hn3
  have ht3 := at_new w2 (.cells #[.int .i64 0, .slice none 0 0, .iface 146 (.agg #[])] 62)
  obtain ⟨t20, t21, t22, _, _, _⟩ := cells3 ht3
  have hne2 : w2.heap.size ≠ rb := by omega
  have hne3 : w2.heap.size ≠ w.heap.size := by omega
  have hkC := hkB.alloc (.cells #[.int .i64 0, .slice none 0 0, .iface 146 (.agg #[])] 62)
  have hown3 := hown.alloc (.cells #[.int .i64 0, .slice none 0 0, .iface 146 (.agg #[])] 62)
  have hels3 : ∀ i (hi : i < ds.length), RepD (fun k => w1.heap.size ≤ k ∧ some k ≠ (Value.slice pb ds.length pc).ownBlock) (w2.alloc (.cells #[.int .i64 0, .slice none 0 0, .iface 146 (.agg #[])] 62)) (el3 xs i) ds[i] := fun i hi => (hels i hi).mono fun k hk h => ⟨h, Below.heap_alloc _ _ _ hk⟩
  have t0 : (0 : Int) < (ds.length : Int) := by omega
  have hl3 : Rd.skip (Rd.behind l') <:+ s.data.toList := (Rd.next_suffix l').trans hl2
  have hll2 := Rd.next_lt (l := l') (by omega)
  have HT5 : Hid (∀ w4, RdAt rb s (Rd.skip (Rd.behind l')) (max (max d dep) m : Nat) w4 → Kept (· = rb) (w2.alloc (.cells #[.int .i64 0, .slice none 0 0, .iface 146 (.agg #[])] 62)) w4 → Calls Tryz.prog 44 #[.pointer (some ⟨rb, 0, none⟩), .int .i64 dep] w4 (DatR rb s (max (max d dep) m) ((Rd.skip (Rd.behind l')).length + 1) (Rd.tD f s.size dep (Rd.skip (Rd.behind l'))) w4)) := fun w4 h1 h2 => HT4 rb s _ (max (max d dep) m) dep w4 hs hl3 h1 (hE.kept (hkC.trans h2) (by omega) (by omega)) hrb5 (by omega) hdep
  have heb : ∀ i (hi : i < ds.length), RepD (fun k => (w1.heap.size ≤ k ∧ some k ≠ (Value.slice pb ds.length pc).ownBlock) ∧ k < w2.heap.size) (w2.alloc (.cells #[.int .i64 0, .slice none 0 0, .iface 146 (.agg #[])] 62)) (el3 xs i) ds[i] := fun i hi => (hels i hi).mono fun k hk h => ⟨⟨h, hk⟩, Below.heap_alloc _ _ _ hk⟩
  have HTL : Hid (∀ (w4 w5 : World) (l3 : List UInt8) (dd : Nat) (pp : Int) (po : Option Addr) (pn2 pc2 : Nat) (x : Value), Kept (· = rb) (w2.alloc (.cells #[.int .i64 0, .slice none 0 0, .iface 146 (.agg #[])] 62)) w4 → Kept (· = rb) w4 w5 → RdAt rb s l3 dd w5 → RawS w4.heap.size ((Rd.skip (Rd.behind l')).length + 1) w5 po pn2 pc2 → Tailed ((Rd.skip (Rd.behind l')).length + 1) rb s w1.heap.size w2.heap.size ds xs pb pc l3 dd w (((w5.setCell ⟨w2.heap.size, 0, none⟩ (.int .i64 pp)).setCell ⟨w2.heap.size, 1, none⟩ (.slice po pn2 pc2)).setCell ⟨w2.heap.size, 2, none⟩ x) pp po pn2 pc2 x) := fun w4 w5 l3 dd pp po pn2 pc2 x h1 h2 h3 h4 => Tailed.of hn3 ht3 hown3 hels3 hkC (fun g e => (hob g e).2) heb (by omega) (by omega) (by simp) hlt (h1.trans h2) h3 (h4.low h1.size)
  have HNIL := (show Hid _ from hnil)
  have hl1500 : ds.length ≤ 500 := by omega
  have hl4 : l'' <:+ s.data.toList := by
    have := Rd.tD_left f s.size dep (Rd.skip (Rd.behind l'))
    rw [htail] at this
    exact this.1.trans hl3
  unfold DatR at HT5
  rw [htail] at HT5
  simp only at HT5
  clear hown hown3 hels hels3 heb hres HDK HD HT4 htail hnil
  go_wp2_with (first | (go_at_call 32; refine (pass_yes rb s l' _ 3 _ hm hl2 hr3 HK3.out).mono ?_; rintro e w4 ⟨rfl, hr4, hk4⟩; have hn4 := hk4.at (by simpa using hne) hn3; have ht4 := hk4.at (by simpa using hne2) ht3; have hs4 := hk4.size) | (go_at_call 44; refine Calls.mono (HT5.out _ hr4 hk4) ?_; rintro e w5 ⟨pp, po, pn2, pc2, ti, xv, rfl, hrep, hraw, hr5, hk5⟩; have hn5 := hk5.at (by simpa using hne) hn4; have ht5 := hk5.at (by simpa using hne2) ht4; obtain ⟨y20, y21, y22, x20, x21, x22⟩ := cells3 ht5; have hTd := HTL.out w4 w5 _ _ pp po pn2 pc2 (.iface ti xv) hk4 hk5 hr5 hraw; have HTD := (show Hid _ from hTd); clear hTd))
  have hs45 := hk5.size
  have hrepX : RepD (fun k => w2.heap.size + 1 ≤ k) (((w5.setCell ⟨w2.heap.size, 0, none⟩ (.int .i64 pp)).setCell ⟨w2.heap.size, 1, none⟩ (.slice po pn2 pc2)).setCell ⟨w2.heap.size, 2, none⟩ (.iface ti xv)) (.agg #[.int .i64 pp, .slice po pn2 pc2, .iface ti xv]) t := hrep.mono fun k hk h => by
    have hk' : w2.heap.size + 1 ≤ k := by simp at hs4; omega
    refine ⟨hk', ?_⟩
    rw [Below.heap_setCell _ _ _ _ (by show k ≠ w2.heap.size; omega), Below.heap_setCell _ _ _ _ (by show k ≠ w2.heap.size; omega), Below.heap_setCell _ _ _ _ (by show k ≠ w2.heap.size; omega)]
  have hszX : w2.heap.size < (((w5.setCell ⟨w2.heap.size, 0, none⟩ (.int .i64 pp)).setCell ⟨w2.heap.size, 1, none⟩ (.slice po pn2 pc2)).setCell ⟨w2.heap.size, 2, none⟩ (.iface ti xv)).heap.size := by
    have := lt_of_at ht5
    simpa [World.setCell] using this
  generalize hX : ((w5.setCell ⟨w2.heap.size, 0, none⟩ (.int .i64 pp)).setCell ⟨w2.heap.size, 1, none⟩ (.slice po pn2 pc2)).setCell ⟨w2.heap.size, 2, none⟩ (.iface ti xv) = X at *
  have HREPX := (show Hid _ from hrepX)
  have HSX : Hid (w2.heap.size < X.heap.size) := hszX
  clear hX hrepX hszX hrep hraw hr5 hk5 hn5 ht5 y20 y21 y22 x20 x21 x22 hn4 ht4 hr4 hk4 hn3 ht3 hr3 c20 c21 c22 f20 f21 f22 t20 t21 t22 hkC hkB hkA hn2 hn1 hr2 hr1 hk1 hk2 hr c2 c4 f4 HT5 HTL hs4 hs45 hob hl3
  generalize w2.heap.size = tb at *
  obtain ⟨z0, z1, z2, v0, v1, v2⟩ := cells3 HTD.out.tail
  obtain ⟨e20, e21, e22, g20, g21, g22⟩ := cells3 HTD.out.zero
  have hb1 := HTD.out.b1
  have hb2 := HTD.out.b2
  have hrbl := HTD.out.rbl
  have hnew : tb ≠ w.heap.size := by omega
  rcases HTD.out.raw with ⟨rfl, rfl, rfl⟩ | ⟨g2, o2, news, rfl, hg2, hn0, hnc, hn2k, hnl, hnews, hone2⟩
  · obtain ⟨hp0, hx0⟩ := raw_none HREPX.out
    have HX0 := (show Hid _ from hx0)
    have HP0 := (show Hid _ from hp0)
    have HRD : Hid (RdAt rb s l'' (max (max (max d dep) m) m' : Nat) X) := HTD.out.rd
    clear hx0 hp0
    go_region_held3 (fun x => x.cell? ⟨tb, 1, none⟩ = some (.slice none 0 0) ∧ x.cell? ⟨tb, 2, none⟩ = some (.iface ti xv)) (first | (go_keep; done) | (constructor <;> (rw [cell_stored3_ne _ _ _ _ hnew]; assumption))) (first | (refine step_append_none rfl (.tmp 52) (.tmp 54) 55 rfl pb ds.length pc (by simp [Act.eval]) (by simp [Act.eval]) (app_none _ _ _ _ _ hpc) ?_) | (go_at_call 32; refine (pass_yes rb s l'' _ 2 _ hm hl4 (HRD.out.kept ((Below.refl _ _).drew)) HK2.out).mono ?_; rintro e w7 ⟨rfl, hr7, hk7⟩; obtain ⟨e70, e71, e72, g70, g71, g72⟩ := cells3 (hk7.at (by simpa using hne) (at_drew HTD.out.zero)); obtain ⟨t70, t71, t72, _, _, _⟩ := cells3 (hk7.at (show ¬ tb = rb by omega) (at_drew HTD.out.tail))))
    go_wp2
    have hkW : Kept (· = rb) X w7 := ((Kept.refl _ X).drew).trans hk7
    have hkD : Kept (· = rb) w w7 := HTD.out.kept.trans hkW
    have hst := stored3 (hk7.at (by simpa using hne) (at_drew HTD.out.zero)) (.int .i64 pl) (.slice pb ds.length pc) (.iface ti xv)
    obtain ⟨d0, d1, d2, _, _, _⟩ := cells3 hst
    have hown7 := ownsRow_kept (M := (· = rb)) HTD.out.own hkW (fun g hg e => by omega)
    have hels7 : ∀ i (hi : i < ds.length), RepD (fun k => w1.heap.size ≤ k ∧ some k ≠ (Value.slice pb ds.length pc).ownBlock) w7 (el3 xs i) ds[i] := fun i hi => (HTD.out.els i hi).mono fun k hk h => ⟨h, hkW.block k hk (fun e => by omega)⟩
    have hraw7 : RawS w.heap.size (l.length + 1) w7 pb ds.length pc := (own_raw hown7 (by omega) (own_one hown7 hels7) HNIL.out).low (by omega)
    have hcw : ∀ k, k ≠ w.heap.size → (((w7.setCell ⟨w.heap.size, 0, none⟩ (.int .i64 pl)).setCell ⟨w.heap.size, 1, none⟩ (.slice pb ds.length pc)).setCell ⟨w.heap.size, 2, none⟩ (.iface ti xv)).heap[k]? = w7.heap[k]? := fun k hk => by rw [Below.heap_setCell _ _ _ _ hk, Below.heap_setCell _ _ _ _ hk, Below.heap_setCell _ _ _ _ hk]
    refine bodyPost_ret (v := .tuple #[.agg #[.int .i64 pl, .slice pb ds.length pc, .iface ti xv], .bool true]) ?_ rfl ?_
    · simp [results, Tryz.results95, go_sem, d0, d1, d2]
    · refine ⟨pl, pb, ds.length, pc, ti, xv, rfl, ?_, raw_set hraw7 hown7 (by omega) hcw, ?_, kept_stored3 hkD (fun h => absurd h (Nat.lt_irrefl _)) _ _ _⟩
      · have hS := ((own_reps hown7 hels7).mono (ok' := fun k => w.heap.size ≤ k) fun k hk hge => ⟨by omega, hcw k (by omega)⟩).datum pl t.en
        rw [HP0.out, List.append_nil]
        rw [← HX0.out] at hS
        exact hS
      · obtain ⟨T2, h2⟩ := hr7
        have e : max (max (max d dep) m) m' = max d (max dep (max m m')) := by omega
        rw [e] at h2
        exact ⟨T2, (hcw rb (by omega)).trans h2⟩
  · obtain ⟨hpl2, hx0, hparts⟩ := raw_rep HREPX.out hnl hnews
    have HX0 := (show Hid _ from hx0)
    have HPL2 : Hid (t.parts.length = pn2) := hpl2
    have HPARTS := (show Hid _ from hparts)
    have hnews2 : ∀ j u, news[j]? = some u → X.drew.cell? ((⟨g2, o2, none⟩ : Addr).add j) = some u := fun j u hj => by
      rw [add_eq]
      exact hnews j u hj
    have HNEWS := (show Hid _ from hnews2)
    have HOWN : Hid (X.drew.ownsRow w1.heap.size 62 3 (.slice pb ds.length pc) ds.length xs) := HTD.out.own
    have HG6 : Hid (∀ w6, X.drew.grownBy w6 (Value.slice pb ds.length pc).ownBlock → RdAt rb s l'' (max (max (max d dep) m) m' : Nat) w6 ∧ w6.heap[w.heap.size]? = some (.cells #[.int .i64 0, .slice none 0 0, .nilIface] 62 (0, 0)) ∧ w6.heap[tb]? = some (.cells #[.int .i64 pp, .slice (some ⟨g2, o2, none⟩) pn2 pc2, .iface ti xv] 62 (0, 0)) ∧ Kept (· = rb) w w6) := fun w6 hg => by
      have hown := HTD.out.own
      have hob := ownBlock_of hown
      have hbk : ∀ k, k < X.heap.size → some k ≠ (Value.slice pb ds.length pc).ownBlock → w6.heap[k]? = X.heap[k]? := fun k hk hn => hg.block k hk hn
      have h1 : some rb ≠ (Value.slice pb ds.length pc).ownBlock := fun e => by have := (hob rb e.symm).1; omega
      have h2 : some w.heap.size ≠ (Value.slice pb ds.length pc).ownBlock := fun e => by have := (hob _ e.symm).1; omega
      have h3 : some tb ≠ (Value.slice pb ds.length pc).ownBlock := fun e => by have := HTD.out.ob _ e.symm; omega
      obtain ⟨T, hrx⟩ := HTD.out.rd
      have hkx := HTD.out.kept
      refine ⟨⟨T, (hbk rb (lt_of_at hrx) h1).trans hrx⟩, (hbk _ (lt_of_at HTD.out.zero) h2).trans HTD.out.zero, (hbk _ (lt_of_at HTD.out.tail) h3).trans HTD.out.tail, ?_⟩
      exact ⟨hg.os.trans hkx.os, hg.tape.trans hkx.tape, hg.output.trans hkx.output, Nat.le_trans hkx.size hg.size, fun k hk hm => (hbk k (Nat.lt_of_lt_of_le hk hkx.size) (fun e => by have := (hob k e.symm).1; omega)).trans (hkx.block k hk hm)⟩
    have hbase : w1.heap.size ≤ X.drew.heap.size := Nat.le_trans hb2 (Nat.le_of_lt HSX.out)
    have hd1 : ds.length + pn2 ≤ 3000 := by omega
    clear hx0 hpl2 hparts hnews2 hnews
    go_region_held3 (fun x => x.cell? ⟨tb, 1, none⟩ = some (.slice (some ⟨g2, o2, none⟩) pn2 pc2) ∧ x.cell? ⟨tb, 2, none⟩ = some (.iface ti xv)) (first | (go_keep; done) | (constructor <;> (rw [cell_stored3_ne _ _ _ _ hnew]; assumption))) (first | (refine step_append_lies _ rfl (.tmp 52) (.tmp 54) 55 rfl w1.heap.size 62 i0 (.agg #[.int .i64 0, .slice none 0 0, .nilIface]) 3 48 Tryz.underlying55 hi hz0 hz1 hz2 rfl (by decide) (.slice pb ds.length pc) ds.length xs (by simp [Act.eval]) HOWN.out ⟨g2, o2, none⟩ pn2 pc2 news (by simp [Act.eval]) hnl HNEWS.out hone2 hn0 (by unfold maxLen; omega) (by omega) hbase X.heap.size rfl ?_; intro g6 cap6 w6 hown6 hgrow6 hat6 hlt6; obtain ⟨hr6, hz6, ht6, hk6⟩ := HG6.out _ hgrow6; obtain ⟨u0, u1, u2, _, _, _⟩ := cells3 ht6) | (go_at_call 32; refine (pass_yes rb s l'' _ 2 _ hm hl4 hr6 HK2.out).mono ?_; rintro e w7 ⟨rfl, hr7, hk7⟩; obtain ⟨e70, e71, e72, g70, g71, g72⟩ := cells3 (hk7.at (by simpa using hne) hz6); obtain ⟨t70, t71, t72, _, _, _⟩ := cells3 (hk7.at (show ¬ tb = rb by omega) ht6)))
    go_wp2
    obtain rfl := HPL2.out
    have hkD : Kept (· = rb) w w7 := hk6.trans hk7
    have hst := stored3 (hk7.at (by simpa using hne) hz6) (.int .i64 pl) (.slice (some ⟨g6, 0, none⟩) (ds.length + t.parts.length) cap6) (.iface ti xv)
    obtain ⟨d0, d1, d2, _, _, _⟩ := cells3 hst
    have hels6 := join_own (cap := cap6) HTD.out.own HTD.out.els HTD.out.ob hb2 HPARTS.out hnl hgrow6 hat6 HSX.out
    have hlen : (ds ++ t.parts).length = ds.length + t.parts.length := List.length_append
    have hown7 : w7.ownsRow w1.heap.size 62 3 (.slice (some ⟨g6, 0, none⟩) (ds.length + t.parts.length) cap6) (ds ++ t.parts).length (xs ++ news) := by
      rw [hlen]
      exact ownsRow_kept (M := (· = rb)) hown6 hk7 (fun g hg e => by omega)
    have hels7 : ∀ i (hi : i < (ds ++ t.parts).length), RepD (fun k => w1.heap.size ≤ k ∧ some k ≠ (Value.slice (some ⟨g6, 0, none⟩) (ds.length + t.parts.length) cap6).ownBlock) w7 (el3 (xs ++ news) i) (ds ++ t.parts)[i] := fun i hi => (hels6 i hi).mono fun k hk h => ⟨h, hk7.block k hk (fun e => by omega)⟩
    have hraw7 : RawS w.heap.size (l.length + 1) w7 (some ⟨g6, 0, none⟩) (ds.length + t.parts.length) cap6 := (own_raw hown7 (by omega) (own_one hown7 hels7) (fun e => by omega)).low (by omega)
    have hcw : ∀ k, k ≠ w.heap.size → (((w7.setCell ⟨w.heap.size, 0, none⟩ (.int .i64 pl)).setCell ⟨w.heap.size, 1, none⟩ (.slice (some ⟨g6, 0, none⟩) (ds.length + t.parts.length) cap6)).setCell ⟨w.heap.size, 2, none⟩ (.iface ti xv)).heap[k]? = w7.heap[k]? := fun k hk => by rw [Below.heap_setCell _ _ _ _ hk, Below.heap_setCell _ _ _ _ hk, Below.heap_setCell _ _ _ _ hk]
    refine bodyPost_ret (v := .tuple #[.agg #[.int .i64 pl, .slice (some ⟨g6, 0, none⟩) (ds.length + t.parts.length) cap6, .iface ti xv], .bool true]) ?_ rfl ?_
    · simp [results, Tryz.results95, go_sem, d0, d1, d2]
    · refine ⟨pl, some ⟨g6, 0, none⟩, ds.length + t.parts.length, cap6, ti, xv, rfl, ?_, raw_set hraw7 hown7 (by omega) hcw, ?_, kept_stored3 hkD (fun h => absurd h (Nat.lt_irrefl _)) _ _ _⟩
      · have hS := ((own_reps hown7 hels7).mono (ok' := fun k => w.heap.size ≤ k) fun k hk hge => ⟨by omega, hcw k (by omega)⟩).datum pl t.en
        rw [← HX0.out] at hS
        exact hS
      · obtain ⟨T2, h2⟩ := hr7
        have e : max (max (max d dep) m) m' = max d (max dep (max m m')) := by omega
        rw [e] at h2
        exact ⟨T2, (hcw rb (by omega)).trans h2⟩
end Go.Proofs.YtodeeegbajgafaaGreatDoor

namespace Go.Proofs.YtodeeegbajgafaaGreatDoor
open Go.RowKit
set_option maxHeartbeats 4000000 in
set_option maxRecDepth 100000 in
theorem list_c5 (f : Nat) (HD : DataT f) (rb : Nat) (s : ByteArray) (l : List UInt8) (d dep : Nat) (w : World) (hs : s.size ≤ 500) (hl : l <:+ s.data.toList) (hr : RdAt rb s l d w) (hE : ErrsAt w) (hrb5 : 5 < rb) (hk : Rd.kindAt l = 1) (hen : 2 * l.length ≤ f) (hdep : dep + f ≤ 4000) (HT4 : DatumT f) {ds : List Rd.D} {l' : List UInt8} {m : Nat} (hres : Rd.tL f s.size dep (Rd.skip (Rd.behind l)) = .ok ds l' m) (h0 : 0 < ds.length) (hk3 : Rd.kindAt l' = 3) {t : Rd.D} {l'' : List UInt8} {m' : Nat} (htail : Rd.tD f s.size dep (Rd.skip (Rd.behind l')) = .ok t l'' m') (hk2 : Rd.kindAt l'' ≠ 2) :
    ListT rb s d (l.length + 1) dep w (.bad l'') := by
  unfold ListT
  have HK2 := (show Hid _ from hk2)
  obtain ⟨i0, hi, hz0, hz1, hz2⟩ := info_parts Tryz.info62
  have HK3 := (show Hid _ from hk3)
  clear hk2
  have hm : s.size ≤ maxLen := by unfold maxLen; omega
  obtain ⟨T, hr1⟩ := id hr
  have c2 : w.cell? ⟨rb, 2, none⟩ = some (.int .i64 (s.size - l.length : Nat)) := cell_of_at hr1 2
  have c4 : w.cell? ⟨rb, 4, none⟩ = some (.int .i64 d) := cell_of_at hr1 4
  have f4 := free_of_at hr1 4
  have hlt := lt_of_at hr1
  have hne : w.heap.size ≠ rb := by omega
  clear hr1
  have hl1 : Rd.skip (Rd.behind l) <:+ s.data.toList := (Rd.next_suffix l).trans hl
  have hll := Rd.next_lt (l := l) (by omega)
  have hl500 : l.length ≤ 500 := by have := hl.length_le; simp at this; omega
  generalize hpl : s.size - l.length = pl at *
  have HK := (show Hid _ from hk)
  clear hk hpl
  have HMX : Hid ((max (d : Int) (dep : Int)) = ((max d dep : Nat) : Int)) := by unfold Hid; omega
  go_enter Tryz.func95, Tryz.ntmps95
  go_wp2_with fail
  rw [HMX.out]
  refine (pass_yes rb s l ((max d dep : Nat) : Int) 1 _ hm hl (RdAt.alloc (hr.deep _) _) HK.out).mono ?_
  rintro e w1 ⟨rfl, hr1, hk1⟩
  have hn1 : w1.heap[w.heap.size]? = some (.cells #[.int .i64 0, .slice none 0 0, .nilIface] 62 (0, 0)) := by
    have h := hk1.at (by simpa [World.setCell] using hne) (at_new (w.setCell ⟨rb, 4, none⟩ (.int .i64 ((max d dep : Nat) : Int))) _)
    simpa [World.setCell] using h
  have hsz1 : w.heap.size + 1 ≤ w1.heap.size := by have := hk1.size; simpa [World.setCell] using this
  have hkA : Kept (· = rb) w w1 := ((kept_set w rb 4 _).alloc _).trans hk1
  have HDK := HD rb s _ (max d dep) dep w1 hs hl1 hr1 (hE.kept hkA (by omega) (by omega)) hrb5 (by omega) hdep
  unfold DataR at HDK
  rw [hres] at HDK
  simp only at HDK
  go_wp2_with fail
  refine Calls.mono HDK ?_
  rintro e w2 ⟨sl, xs, rfl, hown, hels, hnil, hr2, hk2⟩
  have hob := ownBlock_of hown
  obtain ⟨pb, pn, pc, rfl⟩ : ∃ a k c, sl = .slice a k c := by
    obtain ⟨_, ⟨rfl, _⟩ | ⟨g, cap, cur, rfl, _⟩⟩ := hown
    · exact ⟨_, _, _, rfl⟩
    · exact ⟨_, _, _, rfl⟩
  obtain ⟨hpn, hpc⟩ : pn = ds.length ∧ ds.length ≤ pc := by
    obtain ⟨_, ⟨e, h0⟩ | ⟨g, cap, cur, e, _, _, h1, _⟩⟩ := hown
    · cases e; exact ⟨h0.symm, by omega⟩
    · cases e; exact ⟨rfl, h1⟩
  subst hpn
  have hn2 := hk2.at (by simpa [World.setCell] using hne) hn1
  have hkB := hkA.trans hk2
  have hsz2 := hk2.size
  have hleft := Rd.tL_left f s.size dep (Rd.skip (Rd.behind l))
  rw [hres] at hleft
  obtain ⟨lf1, lf2, lf3⟩ := hleft
  have lf3 : ds.length + l'.length ≤ (Rd.skip (Rd.behind l)).length := lf3
  have hl2 : l' <:+ s.data.toList := lf1.trans hl1
  have hn3 := at_alloc hn2 (.cells #[.int .i64 0, .slice none 0 0, .iface 146 (.agg #[])] 62)
  have hr3 := hr2.alloc (.cells #[.int .i64 0, .slice none 0 0, .iface 146 (.agg #[])] 62)
  obtain ⟨c20, c21, c22, f20, f21, f22⟩ := cells3 hn3
  have ht3 := at_new w2 (.cells #[.int .i64 0, .slice none 0 0, .iface 146 (.agg #[])] 62)
  obtain ⟨t20, t21, t22, _, _, _⟩ := cells3 ht3
  have hne2 : w2.heap.size ≠ rb := by omega
  have hne3 : w2.heap.size ≠ w.heap.size := by omega
  have hkC := hkB.alloc (.cells #[.int .i64 0, .slice none 0 0, .iface 146 (.agg #[])] 62)
  have hown3 := hown.alloc (.cells #[.int .i64 0, .slice none 0 0, .iface 146 (.agg #[])] 62)
  have hels3 : ∀ i (hi : i < ds.length), RepD (fun k => w1.heap.size ≤ k ∧ some k ≠ (Value.slice pb ds.length pc).ownBlock) (w2.alloc (.cells #[.int .i64 0, .slice none 0 0, .iface 146 (.agg #[])] 62)) (el3 xs i) ds[i] := fun i hi => (hels i hi).mono fun k hk h => ⟨h, Below.heap_alloc _ _ _ hk⟩
  have t0 : (0 : Int) < (ds.length : Int) := by omega
  have hl3 : Rd.skip (Rd.behind l') <:+ s.data.toList := (Rd.next_suffix l').trans hl2
  have hll2 := Rd.next_lt (l := l') (by omega)
  have HT5 : Hid (∀ w4, RdAt rb s (Rd.skip (Rd.behind l')) (max (max d dep) m : Nat) w4 → Kept (· = rb) (w2.alloc (.cells #[.int .i64 0, .slice none 0 0, .iface 146 (.agg #[])] 62)) w4 → Calls Tryz.prog 44 #[.pointer (some ⟨rb, 0, none⟩), .int .i64 dep] w4 (DatR rb s (max (max d dep) m) ((Rd.skip (Rd.behind l')).length + 1) (Rd.tD f s.size dep (Rd.skip (Rd.behind l'))) w4)) := fun w4 h1 h2 => HT4 rb s _ (max (max d dep) m) dep w4 hs hl3 h1 (hE.kept (hkC.trans h2) (by omega) (by omega)) hrb5 (by omega) hdep
  have heb : ∀ i (hi : i < ds.length), RepD (fun k => (w1.heap.size ≤ k ∧ some k ≠ (Value.slice pb ds.length pc).ownBlock) ∧ k < w2.heap.size) (w2.alloc (.cells #[.int .i64 0, .slice none 0 0, .iface 146 (.agg #[])] 62)) (el3 xs i) ds[i] := fun i hi => (hels i hi).mono fun k hk h => ⟨⟨h, hk⟩, Below.heap_alloc _ _ _ hk⟩
  have HTL : Hid (∀ (w4 w5 : World) (l3 : List UInt8) (dd : Nat) (pp : Int) (po : Option Addr) (pn2 pc2 : Nat) (x : Value), Kept (· = rb) (w2.alloc (.cells #[.int .i64 0, .slice none 0 0, .iface 146 (.agg #[])] 62)) w4 → Kept (· = rb) w4 w5 → RdAt rb s l3 dd w5 → RawS w4.heap.size ((Rd.skip (Rd.behind l')).length + 1) w5 po pn2 pc2 → Tailed ((Rd.skip (Rd.behind l')).length + 1) rb s w1.heap.size w2.heap.size ds xs pb pc l3 dd w (((w5.setCell ⟨w2.heap.size, 0, none⟩ (.int .i64 pp)).setCell ⟨w2.heap.size, 1, none⟩ (.slice po pn2 pc2)).setCell ⟨w2.heap.size, 2, none⟩ x) pp po pn2 pc2 x) := fun w4 w5 l3 dd pp po pn2 pc2 x h1 h2 h3 h4 => Tailed.of hn3 ht3 hown3 hels3 hkC (fun g e => (hob g e).2) heb (by omega) (by omega) (by simp) hlt (h1.trans h2) h3 (h4.low h1.size)
  have HNIL := (show Hid _ from hnil)
  have hl1500 : ds.length ≤ 500 := by omega
  have hl4 : l'' <:+ s.data.toList := by
    have := Rd.tD_left f s.size dep (Rd.skip (Rd.behind l'))
    rw [htail] at this
    exact this.1.trans hl3
  unfold DatR at HT5
  rw [htail] at HT5
  simp only at HT5
  clear hown hown3 hels hels3 heb hres HDK HD HT4 htail hnil
  go_wp2_with (first | (go_at_call 32; refine (pass_yes rb s l' _ 3 _ hm hl2 hr3 HK3.out).mono ?_; rintro e w4 ⟨rfl, hr4, hk4⟩; have hn4 := hk4.at (by simpa using hne) hn3; have ht4 := hk4.at (by simpa using hne2) ht3; have hs4 := hk4.size) | (go_at_call 44; refine Calls.mono (HT5.out _ hr4 hk4) ?_; rintro e w5 ⟨pp, po, pn2, pc2, ti, xv, rfl, hrep, hraw, hr5, hk5⟩; clear hrep; have hn5 := hk5.at (by simpa using hne) hn4; have ht5 := hk5.at (by simpa using hne2) ht4; obtain ⟨y20, y21, y22, x20, x21, x22⟩ := cells3 ht5; have hTd := HTL.out w4 w5 _ _ pp po pn2 pc2 (.iface ti xv) hk4 hk5 hr5 hraw; have HTD := (show Hid _ from hTd); clear hTd))
  have hs45 := hk5.size
  have hszX : w2.heap.size < (((w5.setCell ⟨w2.heap.size, 0, none⟩ (.int .i64 pp)).setCell ⟨w2.heap.size, 1, none⟩ (.slice po pn2 pc2)).setCell ⟨w2.heap.size, 2, none⟩ (.iface ti xv)).heap.size := by
    have := lt_of_at ht5
    simpa [World.setCell] using this
  generalize hX : ((w5.setCell ⟨w2.heap.size, 0, none⟩ (.int .i64 pp)).setCell ⟨w2.heap.size, 1, none⟩ (.slice po pn2 pc2)).setCell ⟨w2.heap.size, 2, none⟩ (.iface ti xv) = X at *
  have HSX : Hid (w2.heap.size < X.heap.size) := hszX
  clear hX hszX hraw hr5 hk5 hn5 ht5 y20 y21 y22 x20 x21 x22 hn4 ht4 hr4 hk4 hn3 ht3 hr3 c20 c21 c22 f20 f21 f22 t20 t21 t22 hkC hkB hkA hn2 hn1 hr2 hr1 hk1 hk2 hr c2 c4 f4 HT5 HTL hs4 hs45 hob hl3
  generalize w2.heap.size = tb at *
  obtain ⟨z0, z1, z2, v0, v1, v2⟩ := cells3 HTD.out.tail
  obtain ⟨e20, e21, e22, g20, g21, g22⟩ := cells3 HTD.out.zero
  have hb1 := HTD.out.b1
  have hb2 := HTD.out.b2
  have hrbl := HTD.out.rbl
  have hnew : tb ≠ w.heap.size := by omega
  have HRD : Hid (RdAt rb s l'' (max (max (max d dep) m) m' : Nat) X) := HTD.out.rd
  rcases HTD.out.raw with ⟨rfl, rfl, rfl⟩ | ⟨g2, o2, news, rfl, hg2, hn0, hnc, hn2k, hnl, hnews, hone2⟩
  · skip
    go_region_held3 (fun x => x.cell? ⟨tb, 1, none⟩ = some (.slice none 0 0) ∧ x.cell? ⟨tb, 2, none⟩ = some (.iface ti xv)) (first | (go_keep; done) | (constructor <;> (rw [cell_stored3_ne _ _ _ _ hnew]; assumption)) | (exact ⟨(cell_set3_drew (w := X) (.int .i64 pl) (.slice pb ds.length pc) (.iface ti xv) hnew).trans z1, (cell_set3_drew (w := X) (.int .i64 pl) (.slice pb ds.length pc) (.iface ti xv) hnew).trans z2⟩)) (first | (refine step_append_none rfl (.tmp 52) (.tmp 54) 55 rfl pb ds.length pc (by simp [Act.eval]) (by simp [Act.eval]) (app_none _ _ _ _ _ hpc) ?_) | (go_at_call 32; refine (pass_no rb s l'' _ 2 _ (HRD.out.kept ((Below.refl _ _).drew)) HK2.out).mono ?_; rintro e w7 ⟨rfl, rfl⟩))
    go_wp2
    have hst := at_drew (stored3 HTD.out.zero (.int .i64 pl) (.slice pb ds.length pc) (.iface ti xv))
    obtain ⟨d0, d1, d2, _, _, _⟩ := cells3 hst
    have hraw7 : RawS w.heap.size (l.length + 1) X pb ds.length pc := (own_raw HTD.out.own (by omega) (own_one HTD.out.own HTD.out.els) HNIL.out).low (by omega)
    have hcw : ∀ k, k ≠ w.heap.size → (((X.setCell ⟨w.heap.size, 0, none⟩ (.int .i64 pl)).setCell ⟨w.heap.size, 1, none⟩ (.slice pb ds.length pc)).setCell ⟨w.heap.size, 2, none⟩ (.iface ti xv)).drew.heap[k]? = X.heap[k]? := fun k hk => by show (((X.setCell ⟨w.heap.size, 0, none⟩ (.int .i64 pl)).setCell ⟨w.heap.size, 1, none⟩ (.slice pb ds.length pc)).setCell ⟨w.heap.size, 2, none⟩ (.iface ti xv)).heap[k]? = X.heap[k]?; rw [Below.heap_setCell _ _ _ _ hk, Below.heap_setCell _ _ _ _ hk, Below.heap_setCell _ _ _ _ hk]
    refine bodyPost_ret (v := .tuple #[.agg #[.int .i64 pl, .slice pb ds.length pc, .iface ti xv], .bool false]) ?_ rfl ?_
    · simp [results, Tryz.results95, go_sem, d0, d1, d2]
    · refine ⟨pl, pb, ds.length, pc, .iface ti xv, max (max (max d dep) m) m', rfl, raw_set hraw7 HTD.out.own (by omega) hcw, Or.inr ⟨_, _, rfl⟩, ?_, (kept_stored3 HTD.out.kept (fun h => absurd h (Nat.lt_irrefl _)) _ _ _).drew⟩
      obtain ⟨T2, h2⟩ := HRD.out
      exact ⟨T2, (hcw rb (by omega)).trans h2⟩
  · have hnews2 : ∀ j u, news[j]? = some u → X.drew.cell? ((⟨g2, o2, none⟩ : Addr).add j) = some u := fun j u hj => by
      rw [add_eq]
      exact hnews j u hj
    have HNEWS := (show Hid _ from hnews2)
    have HOWN : Hid (X.drew.ownsRow w1.heap.size 62 3 (.slice pb ds.length pc) ds.length xs) := HTD.out.own
    have HG6 : Hid (∀ w6, X.drew.grownBy w6 (Value.slice pb ds.length pc).ownBlock → RdAt rb s l'' (max (max (max d dep) m) m' : Nat) w6 ∧ w6.heap[w.heap.size]? = some (.cells #[.int .i64 0, .slice none 0 0, .nilIface] 62 (0, 0)) ∧ w6.heap[tb]? = some (.cells #[.int .i64 pp, .slice (some ⟨g2, o2, none⟩) pn2 pc2, .iface ti xv] 62 (0, 0)) ∧ Kept (· = rb) w w6) := fun w6 hg => by
      have hown := HTD.out.own
      have hob := ownBlock_of hown
      have hbk : ∀ k, k < X.heap.size → some k ≠ (Value.slice pb ds.length pc).ownBlock → w6.heap[k]? = X.heap[k]? := fun k hk hn => hg.block k hk hn
      have h1 : some rb ≠ (Value.slice pb ds.length pc).ownBlock := fun e => by have := (hob rb e.symm).1; omega
      have h2 : some w.heap.size ≠ (Value.slice pb ds.length pc).ownBlock := fun e => by have := (hob _ e.symm).1; omega
      have h3 : some tb ≠ (Value.slice pb ds.length pc).ownBlock := fun e => by have := HTD.out.ob _ e.symm; omega
      obtain ⟨T, hrx⟩ := HTD.out.rd
      have hkx := HTD.out.kept
      refine ⟨⟨T, (hbk rb (lt_of_at hrx) h1).trans hrx⟩, (hbk _ (lt_of_at HTD.out.zero) h2).trans HTD.out.zero, (hbk _ (lt_of_at HTD.out.tail) h3).trans HTD.out.tail, ?_⟩
      exact ⟨hg.os.trans hkx.os, hg.tape.trans hkx.tape, hg.output.trans hkx.output, Nat.le_trans hkx.size hg.size, fun k hk hm => (hbk k (Nat.lt_of_lt_of_le hk hkx.size) (fun e => by have := (hob k e.symm).1; omega)).trans (hkx.block k hk hm)⟩
    have hbase : w1.heap.size ≤ X.drew.heap.size := Nat.le_trans hb2 (Nat.le_of_lt HSX.out)
    have hd1 : ds.length + pn2 ≤ l.length + 1 := by omega
    clear hnews2 hnews
    go_region_held3 (fun x => x.cell? ⟨tb, 1, none⟩ = some (.slice (some ⟨g2, o2, none⟩) pn2 pc2) ∧ x.cell? ⟨tb, 2, none⟩ = some (.iface ti xv)) (first | (go_keep; done) | (constructor <;> (rw [cell_stored3_ne _ _ _ _ hnew]; assumption))) (first | (refine step_append_lies _ rfl (.tmp 52) (.tmp 54) 55 rfl w1.heap.size 62 i0 (.agg #[.int .i64 0, .slice none 0 0, .nilIface]) 3 48 Tryz.underlying55 hi hz0 hz1 hz2 rfl (by decide) (.slice pb ds.length pc) ds.length xs (by simp [Act.eval]) HOWN.out ⟨g2, o2, none⟩ pn2 pc2 news (by simp [Act.eval]) hnl HNEWS.out hone2 hn0 (by unfold maxLen; omega) (by omega) hbase X.heap.size rfl ?_; intro g6 cap6 w6 hown6 hgrow6 hat6 hlt6; obtain ⟨hr6, hz6, ht6, hk6⟩ := HG6.out _ hgrow6; obtain ⟨u0, u1, u2, _, _, _⟩ := cells3 ht6; obtain ⟨e60, e61, e62, g60, g61, g62⟩ := cells3 hz6) | (go_at_call 32; refine (pass_no rb s l'' _ 2 _ hr6 HK2.out).mono ?_; rintro e w7 ⟨rfl, hw7⟩; obtain rfl := hw7.symm))
    go_wp2
    have hst := stored3 hz6 (.int .i64 pl) (.slice (some ⟨g6, 0, none⟩) (ds.length + pn2) cap6) (.iface ti xv)
    obtain ⟨d0, d1, d2, _, _, _⟩ := cells3 hst
    have hraw7 : RawS w.heap.size (l.length + 1) w6 (some ⟨g6, 0, none⟩) (ds.length + pn2) cap6 := (own_raw hown6 (by omega) (fun u hu => by
      rcases List.mem_append.1 hu with hu | hu
      · exact own_one HTD.out.own HTD.out.els u hu
      · exact hone2 u hu) (fun e => by omega)).low (by omega)
    have hcw : ∀ k, k ≠ w.heap.size → (((w6.setCell ⟨w.heap.size, 0, none⟩ (.int .i64 pl)).setCell ⟨w.heap.size, 1, none⟩ (.slice (some ⟨g6, 0, none⟩) (ds.length + pn2) cap6)).setCell ⟨w.heap.size, 2, none⟩ (.iface ti xv)).heap[k]? = w6.heap[k]? := fun k hk => by rw [Below.heap_setCell _ _ _ _ hk, Below.heap_setCell _ _ _ _ hk, Below.heap_setCell _ _ _ _ hk]
    refine bodyPost_ret (v := .tuple #[.agg #[.int .i64 pl, .slice (some ⟨g6, 0, none⟩) (ds.length + pn2) cap6, .iface ti xv], .bool false]) ?_ rfl ?_
    · simp [results, Tryz.results95, go_sem, d0, d1, d2]
    · refine ⟨pl, some ⟨g6, 0, none⟩, ds.length + pn2, cap6, .iface ti xv, max (max (max d dep) m) m', rfl, raw_set hraw7 hown6 (by omega) hcw, Or.inr ⟨_, _, rfl⟩, ?_, kept_stored3 hk6 (fun h => absurd h (Nat.lt_irrefl _)) _ _ _⟩
      obtain ⟨T2, h2⟩ := hr6
      exact ⟨T2, (hcw rb (by omega)).trans h2⟩
end Go.Proofs.YtodeeegbajgafaaGreatDoor
