/- The reader reads a list with a dot, and what stands behind it may not stand. The reader reads one datum, or meets a token that may not stand. Reading any source: its data, or why it is refused and where. -/
import Derived.Test.YtodeeegbajgafaaGreatDoorQ37
import Derived.Test.YtodeeegbajgafaaGreatDoorQ23
import Derived.Deep.RegionLaw
namespace Go.Proofs.YtodeeegbajgafaaGreatDoor
open Go.RowKit
set_option maxHeartbeats 4000000 in
set_option maxRecDepth 100000 in
theorem list_c6 (f : Nat) (HD : DataT f) (rb : Nat) (s : ByteArray) (l : List UInt8) (d dep : Nat) (w : World) (hs : s.size ≤ 500) (hl : l <:+ s.data.toList) (hr : RdAt rb s l d w) (hE : ErrsAt w) (hrb5 : 5 < rb) (hk : Rd.kindAt l = 1) (hen : 2 * l.length ≤ f) (hdep : dep + f ≤ 4000) (HT4 : DatumT f) {ds : List Rd.D} {l' : List UInt8} {m : Nat} (hres : Rd.tL f s.size dep (Rd.skip (Rd.behind l)) = .ok ds l' m) (h0 : 0 < ds.length) (hk3 : Rd.kindAt l' = 3) {l'' : List UInt8} (htail : Rd.tD f s.size dep (Rd.skip (Rd.behind l')) = .bad l'') :
    ListT rb s d (l.length + 1) dep w (.bad l'') := by
  unfold ListT
  obtain ⟨i0, hi, hz0, hz1, hz2⟩ := info_parts Tryz.info62
  have HK3 := (show Hid _ from hk3)
  have hm : s.size ≤ maxLen := by unfold maxLen; omega
  obtain ⟨T, hr1⟩ := id hr
  have c2 : w.cell? ⟨rb, 2, none⟩ = some (.int .i64 (s.size - l.length : Nat)) := cell_of_at hr1 2
  have c4 : w.cell? ⟨rb, 4, none⟩ = some (.int .i64 d) := cell_of_at hr1 4
  have f4 := free_of_at hr1 4
  have hlt := lt_of_at hr1
  have hne : w.heap.size ≠ rb := by omega
  clear hr1
  have hl1 : Rd.skip (Rd.behind l) <:+ s.data.toList := (Rd.next_suffix l).trans hl
  have hll := Rd.next_lt (l := l) (by omega)
  have hl500 : l.length ≤ 500 := by have := hl.length_le; simp at this; omega
  generalize hpl : s.size - l.length = pl at *
  have HK := (show Hid _ from hk)
  clear hk hpl
  have HMX : Hid ((max (d : Int) (dep : Int)) = ((max d dep : Nat) : Int)) := by unfold Hid; omega
  go_enter Tryz.func95, Tryz.ntmps95
  go_wp2_with fail
  rw [HMX.out]
  refine (pass_yes rb s l ((max d dep : Nat) : Int) 1 _ hm hl (RdAt.alloc (hr.deep _) _) HK.out).mono ?_
  rintro e w1 ⟨rfl, hr1, hk1⟩
  have hn1 : w1.heap[w.heap.size]? = some (.cells #[.int .i64 0, .slice none 0 0, .nilIface] 62 (0, 0)) := by
    have h := hk1.at (by simpa [World.setCell] using hne) (at_new (w.setCell ⟨rb, 4, none⟩ (.int .i64 ((max d dep : Nat) : Int))) _)
    simpa [World.setCell] using h
  have hsz1 : w.heap.size + 1 ≤ w1.heap.size := by have := hk1.size; simpa [World.setCell] using this
  have hkA : Kept (· = rb) w w1 := ((kept_set w rb 4 _).alloc _).trans hk1
  have HDK := HD rb s _ (max d dep) dep w1 hs hl1 hr1 (hE.kept hkA (by omega) (by omega)) hrb5 (by omega) hdep
  unfold DataR at HDK
  rw [hres] at HDK
  simp only at HDK
  go_wp2_with fail
  refine Calls.mono HDK ?_
  rintro e w2 ⟨sl, xs, rfl, hown, hels, hnil, hr2, hk2⟩
  have hob := ownBlock_of hown
  obtain ⟨pb, pn, pc, rfl⟩ : ∃ a k c, sl = .slice a k c := by
    obtain ⟨_, ⟨rfl, _⟩ | ⟨g, cap, cur, rfl, _⟩⟩ := hown
    · exact ⟨_, _, _, rfl⟩
    · exact ⟨_, _, _, rfl⟩
  obtain ⟨hpn, hpc⟩ : pn = ds.length ∧ ds.length ≤ pc := by
    obtain ⟨_, ⟨e, h0⟩ | ⟨g, cap, cur, e, _, _, h1, _⟩⟩ := hown
    · cases e; exact ⟨h0.symm, by omega⟩
    · cases e; exact ⟨rfl, h1⟩
  subst hpn
  have hn2 := hk2.at (by simpa [World.setCell] using hne) hn1
  have hkB := hkA.trans hk2
  have hsz2 := hk2.size
  have hleft := Rd.tL_left f s.size dep (Rd.skip (Rd.behind l))
  rw [hres] at hleft
  obtain ⟨lf1, lf2, lf3⟩ := hleft
  have lf3 : ds.length + l'.length ≤ (Rd.skip (Rd.behind l)).length := lf3
  have hl2 : l' <:+ s.data.toList := lf1.trans hl1
  have hn3 := at_alloc hn2 (.cells #[.int .i64 0, .slice none 0 0, .iface 146 (.agg #[])] 62)
  have hr3 := hr2.alloc (.cells #[.int .i64 0, .slice none 0 0, .iface 146 (.agg #[])] 62)
  obtain ⟨c20, c21, c22, f20, f21, f22⟩ := cells3 hn3
  have ht3 := at_new w2 (.cells #[.int .i64 0, .slice none 0 0, .iface 146 (.agg #[])] 62)
  obtain ⟨t20, t21, t22, _, _, _⟩ := cells3 ht3
  have hne2 : w2.heap.size ≠ rb := by omega
  have hne3 : w2.heap.size ≠ w.heap.size := by omega
  have hkC := hkB.alloc (.cells #[.int .i64 0, .slice none 0 0, .iface 146 (.agg #[])] 62)
  have hown3 := hown.alloc (.cells #[.int .i64 0, .slice none 0 0, .iface 146 (.agg #[])] 62)
  have hels3 : ∀ i (hi : i < ds.length), RepD (fun k => w1.heap.size ≤ k ∧ some k ≠ (Value.slice pb ds.length pc).ownBlock) (w2.alloc (.cells #[.int .i64 0, .slice none 0 0, .iface 146 (.agg #[])] 62)) (el3 xs i) ds[i] := fun i hi => (hels i hi).mono fun k hk h => ⟨h, Below.heap_alloc _ _ _ hk⟩
  have t0 : (0 : Int) < (ds.length : Int) := by omega
  have hl3 : Rd.skip (Rd.behind l') <:+ s.data.toList := (Rd.next_suffix l').trans hl2
  have hll2 := Rd.next_lt (l := l') (by omega)
  have HT5 : Hid (∀ w4, RdAt rb s (Rd.skip (Rd.behind l')) (max (max d dep) m : Nat) w4 → Kept (· = rb) (w2.alloc (.cells #[.int .i64 0, .slice none 0 0, .iface 146 (.agg #[])] 62)) w4 → Calls Tryz.prog 44 #[.pointer (some ⟨rb, 0, none⟩), .int .i64 dep] w4 (DatR rb s (max (max d dep) m) ((Rd.skip (Rd.behind l')).length + 1) (Rd.tD f s.size dep (Rd.skip (Rd.behind l'))) w4)) := fun w4 h1 h2 => HT4 rb s _ (max (max d dep) m) dep w4 hs hl3 h1 (hE.kept (hkC.trans h2) (by omega) (by omega)) hrb5 (by omega) hdep
  have heb : ∀ i (hi : i < ds.length), RepD (fun k => (w1.heap.size ≤ k ∧ some k ≠ (Value.slice pb ds.length pc).ownBlock) ∧ k < w2.heap.size) (w2.alloc (.cells #[.int .i64 0, .slice none 0 0, .iface 146 (.agg #[])] 62)) (el3 xs i) ds[i] := fun i hi => (hels i hi).mono fun k hk h => ⟨⟨h, hk⟩, Below.heap_alloc _ _ _ hk⟩
  have HTL : Hid (∀ (w4 w5 : World) (l3 : List UInt8) (dd : Nat) (pp : Int) (po : Option Addr) (pn2 pc2 : Nat) (x : Value), Kept (· = rb) (w2.alloc (.cells #[.int .i64 0, .slice none 0 0, .iface 146 (.agg #[])] 62)) w4 → Kept (· = rb) w4 w5 → RdAt rb s l3 dd w5 → RawS w4.heap.size ((Rd.skip (Rd.behind l')).length + 1) w5 po pn2 pc2 → Tailed ((Rd.skip (Rd.behind l')).length + 1) rb s w1.heap.size w2.heap.size ds xs pb pc l3 dd w (((w5.setCell ⟨w2.heap.size, 0, none⟩ (.int .i64 pp)).setCell ⟨w2.heap.size, 1, none⟩ (.slice po pn2 pc2)).setCell ⟨w2.heap.size, 2, none⟩ x) pp po pn2 pc2 x) := fun w4 w5 l3 dd pp po pn2 pc2 x h1 h2 h3 h4 => Tailed.of hn3 ht3 hown3 hels3 hkC (fun g e => (hob g e).2) heb (by omega) (by omega) (by simp) hlt (h1.trans h2) h3 (h4.low h1.size)
  have HNIL := (show Hid _ from hnil)
  have hl1500 : ds.length ≤ 500 := by omega
  have hl4 : l'' <:+ s.data.toList := by
    have := Rd.tD_left f s.size dep (Rd.skip (Rd.behind l'))
    rw [htail] at this
    exact this.trans hl3
  unfold DatR at HT5
  rw [htail] at HT5
  simp only at HT5
  clear hown hown3 hels hels3 heb hres HDK HD HT4 htail hnil
  go_wp2_with (first | (go_at_call 32; refine (pass_yes rb s l' _ 3 _ hm hl2 hr3 HK3.out).mono ?_; rintro e w4 ⟨rfl, hr4, hk4⟩; have hn4 := hk4.at (by simpa using hne) hn3; have ht4 := hk4.at (by simpa using hne2) ht3; have hs4 := hk4.size) | (go_at_call 44; refine Calls.mono (HT5.out _ hr4 hk4) ?_; rintro e w5 ⟨pp, po, pn2, pc2, x, d1', rfl, hraw, hx, hr5, hk5⟩; have hn5 := hk5.at (by simpa using hne) hn4; have ht5 := hk5.at (by simpa using hne2) ht4; obtain ⟨y20, y21, y22, x20, x21, x22⟩ := cells3 ht5; have hTd := HTL.out w4 w5 _ _ pp po pn2 pc2 x hk4 hk5 hr5 hraw; have HTD := (show Hid _ from hTd); clear hTd; rcases hx with rfl | ⟨t0', x0', rfl⟩))
  · skip
    have hs45 := hk5.size
    have hszX : w2.heap.size < (((w5.setCell ⟨w2.heap.size, 0, none⟩ (.int .i64 pp)).setCell ⟨w2.heap.size, 1, none⟩ (.slice po pn2 pc2)).setCell ⟨w2.heap.size, 2, none⟩ (.nilIface)).heap.size := by
      have := lt_of_at ht5
      simpa [World.setCell] using this
    generalize hX : ((w5.setCell ⟨w2.heap.size, 0, none⟩ (.int .i64 pp)).setCell ⟨w2.heap.size, 1, none⟩ (.slice po pn2 pc2)).setCell ⟨w2.heap.size, 2, none⟩ (.nilIface) = X at *
    have HSX : Hid (w2.heap.size < X.heap.size) := hszX
    clear hX hszX hraw hr5 hk5 hn5 ht5 y20 y21 y22 x20 x21 x22 hn4 ht4 hr4 hk4 hn3 ht3 hr3 c20 c21 c22 f20 f21 f22 t20 t21 t22 hkC hkB hkA hn2 hn1 hr2 hr1 hk1 hk2 hr c2 c4 f4 HT5 HTL hs4 hs45 hob hl3
    generalize w2.heap.size = tb at *
    obtain ⟨z0, z1, z2, v0, v1, v2⟩ := cells3 HTD.out.tail
    obtain ⟨e20, e21, e22, g20, g21, g22⟩ := cells3 HTD.out.zero
    have hb1 := HTD.out.b1
    have hb2 := HTD.out.b2
    have hrbl := HTD.out.rbl
    have hnew : tb ≠ w.heap.size := by omega
    have HRD : Hid (RdAt rb s l'' (d1' : Nat) X) := HTD.out.rd
    rcases HTD.out.raw with ⟨rfl, rfl, rfl⟩ | ⟨g2, o2, news, rfl, hg2, hn0, hnc, hn2k, hnl, hnews, hone2⟩
    · skip
      refine wp_region_noPanic ?_
      first | (go_region_law (first | (refine step_append_none rfl (.tmp 52) (.tmp 54) 55 rfl pb ds.length pc (by simp [Act.eval]) (by simp [Act.eval]) (app_none _ _ _ _ _ hpc) ?_))) | fail
      all_goals
        refine NoPanic.normal ?_
        go_wp2
        have hst := at_drew (stored3 HTD.out.zero (.int .i64 pl) (.slice pb ds.length pc) (.nilIface))
        obtain ⟨d0, d1, d2, _, _, _⟩ := cells3 hst
        have hraw7 : RawS w.heap.size (l.length + 1) X pb ds.length pc := (own_raw HTD.out.own (by omega) (own_one HTD.out.own HTD.out.els) HNIL.out).low (by omega)
        have hcw : ∀ k, k ≠ w.heap.size → (((X.setCell ⟨w.heap.size, 0, none⟩ (.int .i64 pl)).setCell ⟨w.heap.size, 1, none⟩ (.slice pb ds.length pc)).setCell ⟨w.heap.size, 2, none⟩ (.nilIface)).drew.heap[k]? = X.heap[k]? := fun k hk => by show (((X.setCell ⟨w.heap.size, 0, none⟩ (.int .i64 pl)).setCell ⟨w.heap.size, 1, none⟩ (.slice pb ds.length pc)).setCell ⟨w.heap.size, 2, none⟩ (.nilIface)).heap[k]? = X.heap[k]?; rw [Below.heap_setCell _ _ _ _ hk, Below.heap_setCell _ _ _ _ hk, Below.heap_setCell _ _ _ _ hk]
        refine bodyPost_ret (v := .tuple #[.agg #[.int .i64 pl, .slice pb ds.length pc, .nilIface], .bool false]) ?_ rfl ?_
        · simp [results, Tryz.results95, go_sem, d0, d1, d2]
        · refine ⟨pl, pb, ds.length, pc, .nilIface, d1', rfl, raw_set hraw7 HTD.out.own (by omega) hcw, Or.inl rfl, ?_, (kept_stored3 HTD.out.kept (fun h => absurd h (Nat.lt_irrefl _)) _ _ _).drew⟩
          obtain ⟨T2, h2⟩ := HRD.out
          exact ⟨T2, (hcw rb (by omega)).trans h2⟩
    · have hnews2 : ∀ j u, news[j]? = some u → X.drew.cell? ((⟨g2, o2, none⟩ : Addr).add j) = some u := fun j u hj => by
        rw [add_eq]
        exact hnews j u hj
      have HNEWS := (show Hid _ from hnews2)
      have HOWN : Hid (X.drew.ownsRow w1.heap.size 62 3 (.slice pb ds.length pc) ds.length xs) := HTD.out.own
      have HG6 : Hid (∀ w6, X.drew.grownBy w6 (Value.slice pb ds.length pc).ownBlock → RdAt rb s l'' (d1' : Nat) w6 ∧ w6.heap[w.heap.size]? = some (.cells #[.int .i64 0, .slice none 0 0, .nilIface] 62 (0, 0)) ∧ w6.heap[tb]? = some (.cells #[.int .i64 pp, .slice (some ⟨g2, o2, none⟩) pn2 pc2, .nilIface] 62 (0, 0)) ∧ Kept (· = rb) w w6) := fun w6 hg => by
        have hown := HTD.out.own
        have hob := ownBlock_of hown
        have hbk : ∀ k, k < X.heap.size → some k ≠ (Value.slice pb ds.length pc).ownBlock → w6.heap[k]? = X.heap[k]? := fun k hk hn => hg.block k hk hn
        have h1 : some rb ≠ (Value.slice pb ds.length pc).ownBlock := fun e => by have := (hob rb e.symm).1; omega
        have h2 : some w.heap.size ≠ (Value.slice pb ds.length pc).ownBlock := fun e => by have := (hob _ e.symm).1; omega
        have h3 : some tb ≠ (Value.slice pb ds.length pc).ownBlock := fun e => by have := HTD.out.ob _ e.symm; omega
        obtain ⟨T, hrx⟩ := HTD.out.rd
        have hkx := HTD.out.kept
        refine ⟨⟨T, (hbk rb (lt_of_at hrx) h1).trans hrx⟩, (hbk _ (lt_of_at HTD.out.zero) h2).trans HTD.out.zero, (hbk _ (lt_of_at HTD.out.tail) h3).trans HTD.out.tail, ?_⟩
        exact ⟨hg.os.trans hkx.os, hg.tape.trans hkx.tape, hg.output.trans hkx.output, Nat.le_trans hkx.size hg.size, fun k hk hm => (hbk k (Nat.lt_of_lt_of_le hk hkx.size) (fun e => by have := (hob k e.symm).1; omega)).trans (hkx.block k hk hm)⟩
      have hbase : w1.heap.size ≤ X.drew.heap.size := Nat.le_trans hb2 (Nat.le_of_lt HSX.out)
      have hd1 : ds.length + pn2 ≤ l.length + 1 := by omega
      clear hnews2 hnews
      refine wp_region_noPanic ?_
      first | (go_region_law (first | (refine step_append_lies _ rfl (.tmp 52) (.tmp 54) 55 rfl w1.heap.size 62 i0 (.agg #[.int .i64 0, .slice none 0 0, .nilIface]) 3 48 Tryz.underlying55 hi hz0 hz1 hz2 rfl (by decide) (.slice pb ds.length pc) ds.length xs (by simp [Act.eval]) HOWN.out ⟨g2, o2, none⟩ pn2 pc2 news (by simp [Act.eval]) hnl HNEWS.out hone2 hn0 (by unfold maxLen; omega) (by omega) hbase X.heap.size rfl ?_; intro g6 cap6 w6 hown6 hgrow6 hat6 hlt6; obtain ⟨hr6, hz6, ht6, hk6⟩ := HG6.out _ hgrow6; obtain ⟨u0, u1, u2, _, _, _⟩ := cells3 ht6; obtain ⟨e60, e61, e62, g60, g61, g62⟩ := cells3 hz6))) | fail
      all_goals
        refine NoPanic.normal ?_
        go_wp2
        have hst := stored3 hz6 (.int .i64 pl) (.slice (some ⟨g6, 0, none⟩) (ds.length + pn2) cap6) (.nilIface)
        obtain ⟨d0, d1, d2, _, _, _⟩ := cells3 hst
        have hraw7 : RawS w.heap.size (l.length + 1) w6 (some ⟨g6, 0, none⟩) (ds.length + pn2) cap6 := (own_raw hown6 (by omega) (fun u hu => by
          rcases List.mem_append.1 hu with hu | hu
          · exact own_one HTD.out.own HTD.out.els u hu
          · exact hone2 u hu) (fun e => by omega)).low (by omega)
        have hcw : ∀ k, k ≠ w.heap.size → (((w6.setCell ⟨w.heap.size, 0, none⟩ (.int .i64 pl)).setCell ⟨w.heap.size, 1, none⟩ (.slice (some ⟨g6, 0, none⟩) (ds.length + pn2) cap6)).setCell ⟨w.heap.size, 2, none⟩ (.nilIface)).heap[k]? = w6.heap[k]? := fun k hk => by rw [Below.heap_setCell _ _ _ _ hk, Below.heap_setCell _ _ _ _ hk, Below.heap_setCell _ _ _ _ hk]
        refine bodyPost_ret (v := .tuple #[.agg #[.int .i64 pl, .slice (some ⟨g6, 0, none⟩) (ds.length + pn2) cap6, .nilIface], .bool false]) ?_ rfl ?_
        · simp [results, Tryz.results95, go_sem, d0, d1, d2]
        · refine ⟨pl, some ⟨g6, 0, none⟩, ds.length + pn2, cap6, .nilIface, d1', rfl, raw_set hraw7 hown6 (by omega) hcw, Or.inl rfl, ?_, kept_stored3 hk6 (fun h => absurd h (Nat.lt_irrefl _)) _ _ _⟩
          obtain ⟨T2, h2⟩ := hr6
          exact ⟨T2, (hcw rb (by omega)).trans h2⟩
  · skip
    have hs45 := hk5.size
    have hszX : w2.heap.size < (((w5.setCell ⟨w2.heap.size, 0, none⟩ (.int .i64 pp)).setCell ⟨w2.heap.size, 1, none⟩ (.slice po pn2 pc2)).setCell ⟨w2.heap.size, 2, none⟩ (.iface t0' x0')).heap.size := by
      have := lt_of_at ht5
      simpa [World.setCell] using this
    generalize hX : ((w5.setCell ⟨w2.heap.size, 0, none⟩ (.int .i64 pp)).setCell ⟨w2.heap.size, 1, none⟩ (.slice po pn2 pc2)).setCell ⟨w2.heap.size, 2, none⟩ (.iface t0' x0') = X at *
    have HSX : Hid (w2.heap.size < X.heap.size) := hszX
    clear hX hszX hraw hr5 hk5 hn5 ht5 y20 y21 y22 x20 x21 x22 hn4 ht4 hr4 hk4 hn3 ht3 hr3 c20 c21 c22 f20 f21 f22 t20 t21 t22 hkC hkB hkA hn2 hn1 hr2 hr1 hk1 hk2 hr c2 c4 f4 HT5 HTL hs4 hs45 hob hl3
    generalize w2.heap.size = tb at *
    obtain ⟨z0, z1, z2, v0, v1, v2⟩ := cells3 HTD.out.tail
    obtain ⟨e20, e21, e22, g20, g21, g22⟩ := cells3 HTD.out.zero
    have hb1 := HTD.out.b1
    have hb2 := HTD.out.b2
    have hrbl := HTD.out.rbl
    have hnew : tb ≠ w.heap.size := by omega
    have HRD : Hid (RdAt rb s l'' (d1' : Nat) X) := HTD.out.rd
    rcases HTD.out.raw with ⟨rfl, rfl, rfl⟩ | ⟨g2, o2, news, rfl, hg2, hn0, hnc, hn2k, hnl, hnews, hone2⟩
    · skip
      refine wp_region_noPanic ?_
      first | (go_region_law (first | (refine step_append_none rfl (.tmp 52) (.tmp 54) 55 rfl pb ds.length pc (by simp [Act.eval]) (by simp [Act.eval]) (app_none _ _ _ _ _ hpc) ?_))) | fail
      all_goals
        refine NoPanic.normal ?_
        go_wp2
        have hst := at_drew (stored3 HTD.out.zero (.int .i64 pl) (.slice pb ds.length pc) (.iface t0' x0'))
        obtain ⟨d0, d1, d2, _, _, _⟩ := cells3 hst
        have hraw7 : RawS w.heap.size (l.length + 1) X pb ds.length pc := (own_raw HTD.out.own (by omega) (own_one HTD.out.own HTD.out.els) HNIL.out).low (by omega)
        have hcw : ∀ k, k ≠ w.heap.size → (((X.setCell ⟨w.heap.size, 0, none⟩ (.int .i64 pl)).setCell ⟨w.heap.size, 1, none⟩ (.slice pb ds.length pc)).setCell ⟨w.heap.size, 2, none⟩ (.iface t0' x0')).drew.heap[k]? = X.heap[k]? := fun k hk => by show (((X.setCell ⟨w.heap.size, 0, none⟩ (.int .i64 pl)).setCell ⟨w.heap.size, 1, none⟩ (.slice pb ds.length pc)).setCell ⟨w.heap.size, 2, none⟩ (.iface t0' x0')).heap[k]? = X.heap[k]?; rw [Below.heap_setCell _ _ _ _ hk, Below.heap_setCell _ _ _ _ hk, Below.heap_setCell _ _ _ _ hk]
        refine bodyPost_ret (v := .tuple #[.agg #[.int .i64 pl, .slice pb ds.length pc, .iface t0' x0'], .bool false]) ?_ rfl ?_
        · simp [results, Tryz.results95, go_sem, d0, d1, d2]
        · refine ⟨pl, pb, ds.length, pc, .iface t0' x0', d1', rfl, raw_set hraw7 HTD.out.own (by omega) hcw, Or.inr ⟨_, _, rfl⟩, ?_, (kept_stored3 HTD.out.kept (fun h => absurd h (Nat.lt_irrefl _)) _ _ _).drew⟩
          obtain ⟨T2, h2⟩ := HRD.out
          exact ⟨T2, (hcw rb (by omega)).trans h2⟩
    · have hnews2 : ∀ j u, news[j]? = some u → X.drew.cell? ((⟨g2, o2, none⟩ : Addr).add j) = some u := fun j u hj => by
        rw [add_eq]
        exact hnews j u hj
      have HNEWS := (show Hid _ from hnews2)
      have HOWN : Hid (X.drew.ownsRow w1.heap.size 62 3 (.slice pb ds.length pc) ds.length xs) := HTD.out.own
      have HG6 : Hid (∀ w6, X.drew.grownBy w6 (Value.slice pb ds.length pc).ownBlock → RdAt rb s l'' (d1' : Nat) w6 ∧ w6.heap[w.heap.size]? = some (.cells #[.int .i64 0, .slice none 0 0, .nilIface] 62 (0, 0)) ∧ w6.heap[tb]? = some (.cells #[.int .i64 pp, .slice (some ⟨g2, o2, none⟩) pn2 pc2, .iface t0' x0'] 62 (0, 0)) ∧ Kept (· = rb) w w6) := fun w6 hg => by
        have hown := HTD.out.own
        have hob := ownBlock_of hown
        have hbk : ∀ k, k < X.heap.size → some k ≠ (Value.slice pb ds.length pc).ownBlock → w6.heap[k]? = X.heap[k]? := fun k hk hn => hg.block k hk hn
        have h1 : some rb ≠ (Value.slice pb ds.length pc).ownBlock := fun e => by have := (hob rb e.symm).1; omega
        have h2 : some w.heap.size ≠ (Value.slice pb ds.length pc).ownBlock := fun e => by have := (hob _ e.symm).1; omega
        have h3 : some tb ≠ (Value.slice pb ds.length pc).ownBlock := fun e => by have := HTD.out.ob _ e.symm; omega
        obtain ⟨T, hrx⟩ := HTD.out.rd
        have hkx := HTD.out.kept
        refine ⟨⟨T, (hbk rb (lt_of_at hrx) h1).trans hrx⟩, (hbk _ (lt_of_at HTD.out.zero) h2).trans HTD.out.zero, (hbk _ (lt_of_at HTD.out.tail) h3).trans HTD.out.tail, ?_⟩
        exact ⟨hg.os.trans hkx.os, hg.tape.trans hkx.tape, hg.output.trans hkx.output, Nat.le_trans hkx.size hg.size, fun k hk hm => (hbk k (Nat.lt_of_lt_of_le hk hkx.size) (fun e => by have := (hob k e.symm).1; omega)).trans (hkx.block k hk hm)⟩
      have hbase : w1.heap.size ≤ X.drew.heap.size := Nat.le_trans hb2 (Nat.le_of_lt HSX.out)
      have hd1 : ds.length + pn2 ≤ l.length + 1 := by omega
      clear hnews2 hnews
      refine wp_region_noPanic ?_
      first | (go_region_law (first | (refine step_append_lies _ rfl (.tmp 52) (.tmp 54) 55 rfl w1.heap.size 62 i0 (.agg #[.int .i64 0, .slice none 0 0, .nilIface]) 3 48 Tryz.underlying55 hi hz0 hz1 hz2 rfl (by decide) (.slice pb ds.length pc) ds.length xs (by simp [Act.eval]) HOWN.out ⟨g2, o2, none⟩ pn2 pc2 news (by simp [Act.eval]) hnl HNEWS.out hone2 hn0 (by unfold maxLen; omega) (by omega) hbase X.heap.size rfl ?_; intro g6 cap6 w6 hown6 hgrow6 hat6 hlt6; obtain ⟨hr6, hz6, ht6, hk6⟩ := HG6.out _ hgrow6; obtain ⟨u0, u1, u2, _, _, _⟩ := cells3 ht6; obtain ⟨e60, e61, e62, g60, g61, g62⟩ := cells3 hz6))) | fail
      all_goals
        refine NoPanic.normal ?_
        go_wp2
        have hst := stored3 hz6 (.int .i64 pl) (.slice (some ⟨g6, 0, none⟩) (ds.length + pn2) cap6) (.iface t0' x0')
        obtain ⟨d0, d1, d2, _, _, _⟩ := cells3 hst
        have hraw7 : RawS w.heap.size (l.length + 1) w6 (some ⟨g6, 0, none⟩) (ds.length + pn2) cap6 := (own_raw hown6 (by omega) (fun u hu => by
          rcases List.mem_append.1 hu with hu | hu
          · exact own_one HTD.out.own HTD.out.els u hu
          · exact hone2 u hu) (fun e => by omega)).low (by omega)
        have hcw : ∀ k, k ≠ w.heap.size → (((w6.setCell ⟨w.heap.size, 0, none⟩ (.int .i64 pl)).setCell ⟨w.heap.size, 1, none⟩ (.slice (some ⟨g6, 0, none⟩) (ds.length + pn2) cap6)).setCell ⟨w.heap.size, 2, none⟩ (.iface t0' x0')).heap[k]? = w6.heap[k]? := fun k hk => by rw [Below.heap_setCell _ _ _ _ hk, Below.heap_setCell _ _ _ _ hk, Below.heap_setCell _ _ _ _ hk]
        refine bodyPost_ret (v := .tuple #[.agg #[.int .i64 pl, .slice (some ⟨g6, 0, none⟩) (ds.length + pn2) cap6, .iface t0' x0'], .bool false]) ?_ rfl ?_
        · simp [results, Tryz.results95, go_sem, d0, d1, d2]
        · refine ⟨pl, some ⟨g6, 0, none⟩, ds.length + pn2, cap6, .iface t0' x0', d1', rfl, raw_set hraw7 hown6 (by omega) hcw, Or.inr ⟨_, _, rfl⟩, ?_, kept_stored3 hk6 (fun h => absurd h (Nat.lt_irrefl _)) _ _ _⟩
          obtain ⟨T2, h2⟩ := hr6
          exact ⟨T2, (hcw rb (by omega)).trans h2⟩
end Go.Proofs.YtodeeegbajgafaaGreatDoor

namespace Go.Proofs.YtodeeegbajgafaaGreatDoor
open Go.RowKit
theorem list_t (f : Nat) (HD : DataT f) (HT : DatumT f) (rb : Nat) (s : ByteArray) (l : List UInt8) (d dep : Nat) (w : World) (hs : s.size ≤ 500) (hl : l <:+ s.data.toList) (hr : RdAt rb s l d w) (hE : ErrsAt w) (hrb5 : 5 < rb) (hk : Rd.kindAt l = 1) (hen : 2 * l.length ≤ f) (hdep : dep + 1 + f ≤ 4000) :
    ListT rb s d (l.length + 1) (dep + 1) w (Rd.tD (f + 1) s.size dep l) := by
  rw [Rd.tD, if_neg (by omega), if_neg (by omega), if_pos hk]
  cases hres : Rd.tL f s.size (dep + 1) (Rd.skip (Rd.behind l)) with
  | bad l' => exact list_c1 f HD rb s l d (dep + 1) w hs hl hr hE hrb5 hk hen hdep hres
  | ok ds l' m =>
    simp only
    by_cases h3 : 0 < ds.length ∧ Rd.kindAt l' = 3
    · rw [if_pos h3]
      cases ht : Rd.tD f s.size (dep + 1) (Rd.skip (Rd.behind l')) with
      | bad l'' => exact list_c6 f HD rb s l d (dep + 1) w hs hl hr hE hrb5 hk hen hdep HT hres h3.1 h3.2 ht
      | ok t l'' m' =>
        rw [Rd.shutT]
        by_cases h2 : Rd.kindAt l'' = 2
        · rw [if_pos h2]; exact list_c4 f HD rb s l d (dep + 1) w hs hl hr hE hrb5 hk hen hdep HT hres h3.1 h3.2 ht h2
        · rw [if_neg h2]; exact list_c5 f HD rb s l d (dep + 1) w hs hl hr hE hrb5 hk hen hdep HT hres h3.1 h3.2 ht h2
    · rw [if_neg h3, Rd.shutL]
      by_cases h2 : Rd.kindAt l' = 2
      · rw [if_pos h2]; exact list_c2 f HD rb s l d (dep + 1) w hs hl hr hE hrb5 hk hen hdep hres h3 h2
      · rw [if_neg h2]; exact list_c3 f HD rb s l d (dep + 1) w hs hl hr hE hrb5 hk hen hdep hres h3 h2
theorem quote_t (f : Nat) (HT : DatumT f) (rb : Nat) (s : ByteArray) (l : List UInt8) (d dep : Nat) (w : World) (hs : s.size ≤ 500) (hl : l <:+ s.data.toList) (hr : RdAt rb s l d w) (hE : ErrsAt w) (hrb5 : 5 < rb) (hk : Rd.kindAt l = 4) (hen : 2 * l.length ≤ f + 1) (hdep : dep + 1 + f ≤ 4000) :
    Calls Tryz.prog 94 #[.pointer (some ⟨rb, 0, none⟩), .int .i64 (dep + 1 : Nat)] w (DatR rb s d (l.length + 1) (Rd.tD (f + 1) s.size dep l) w) := by
  rw [Rd.tD, if_neg (by omega), if_pos hk]
  exact quoted_t f HT rb s l d (dep + 1) w hs hl hr hE hrb5 hk hen hdep
theorem atom_t (f : Nat) (rb : Nat) (s : ByteArray) (l : List UInt8) (d dep : Nat) (w : World) (hs : s.size ≤ 500) (hl : l <:+ s.data.toList) (hr : RdAt rb s l d w) (hE : ErrsAt w) (hk : Rd.kindAt l = 5) :
    Calls Tryz.prog 93 #[.pointer (some ⟨rb, 0, none⟩)] w (DatR rb s d (l.length + 1) (Rd.tD (f + 1) s.size dep l) w) := by
  rw [Rd.tD, if_pos hk]
  cases ha : Rd.atomOf (Rd.textOf l) with
  | some a =>
    refine (rdAtom_any rb s l d a w hs hl hr hk ha).mono ?_
    rintro e w1 ⟨rfl, hr1, hk1⟩
    obtain ⟨ti, xv, hav⟩ := aV_iface a
    rw [hav]
    refine ⟨_, none, 0, 0, ti, xv, rfl, ?_, Or.inl ⟨rfl, rfl, rfl⟩, ?_, hk1⟩
    · rw [← hav]; exact .leaf _ _
    · rw [Nat.max_zero]; exact hr1
  | none =>
    refine (rdAtom_bad rb s l d w hs hl hr hk ha hE).mono ?_
    rintro e w1 ⟨v, hv, rfl, hr1, hk1⟩
    exact ⟨_, none, 0, 0, v, d, rfl, Or.inl ⟨rfl, rfl, rfl⟩, hv, hr1, hk1⟩
/-- What a callee gave is given on, through the variable of the result. -/
theorem datR_on {rb : Nat} {s : ByteArray} {d bd : Nat} {R : Rd.RR Rd.D} {w w1 : World} {o : Obj} {p : Int} {po : Option Addr} {n c : Nat} {x : Value} {b : Bool} (hlt : rb < w.heap.size) (h : DatR rb s d bd R (w.alloc o) (.returned (.tuple #[.agg #[.int .i64 p, .slice po n c, x], .bool b])) w1) :
    DatR rb s d bd R w (.returned (.tuple #[.agg #[.int .i64 p, .slice po n c, x], .bool b])) (((w1.setCell ⟨w.heap.size, 0, none⟩ (.int .i64 p)).setCell ⟨w.heap.size, 1, none⟩ (.slice po n c)).setCell ⟨w.heap.size, 2, none⟩ x) := by
  have hcw : ∀ k, k ≠ w.heap.size → (((w1.setCell ⟨w.heap.size, 0, none⟩ (.int .i64 p)).setCell ⟨w.heap.size, 1, none⟩ (.slice po n c)).setCell ⟨w.heap.size, 2, none⟩ x).heap[k]? = w1.heap[k]? := fun k hk => by rw [Below.heap_setCell _ _ _ _ hk, Below.heap_setCell _ _ _ _ hk, Below.heap_setCell _ _ _ _ hk]
  have hsz : (w.alloc o).heap.size = w.heap.size + 1 := by simp
  cases R with
  | ok dd l' m =>
    obtain ⟨p', po', n', c', ti, xv, he, hrep, hraw, hrd, hkp⟩ := h
    obtain ⟨⟨rfl, ⟨rfl, rfl, rfl⟩, rfl⟩, rfl⟩ := (by simpa using he : (p = (p' : Int) ∧ (po = po' ∧ n = n' ∧ c = c') ∧ x = .iface ti xv) ∧ b = true)
    refine ⟨p', po, n, c, ti, xv, rfl, ?_, ?_, ?_, kept_stored3 (((Kept.refl _ w).alloc o).trans hkp) (fun h => absurd h (Nat.lt_irrefl _)) _ _ _⟩
    · exact hrep.mono fun k hk hge => by
        rw [hsz] at hge
        exact ⟨by omega, hcw k (by omega)⟩
    · rw [hsz] at hraw
      exact (hraw.kept fun k hk _ => hcw k (by omega)).low (by omega)
    · obtain ⟨T, h2⟩ := hrd
      exact ⟨T, (hcw rb (by omega)).trans h2⟩
  | bad l' =>
    obtain ⟨p', po', n', c', x', d', he, hraw, hx, hrd, hkp⟩ := h
    obtain ⟨⟨rfl, ⟨rfl, rfl, rfl⟩, rfl⟩, rfl⟩ := (by simpa using he : (p = p' ∧ (po = po' ∧ n = n' ∧ c = c') ∧ x = x') ∧ b = false)
    refine ⟨p, po, n, c, x, d', rfl, ?_, hx, ?_, kept_stored3 (((Kept.refl _ w).alloc o).trans hkp) (fun h => absurd h (Nat.lt_irrefl _)) _ _ _⟩
    · rw [hsz] at hraw
      exact (hraw.kept fun k hk _ => hcw k (by omega)).low (by omega)
    · obtain ⟨T, h2⟩ := hrd
      exact ⟨T, (hcw rb (by omega)).trans h2⟩
/-- What a callee gave, in its form. -/
theorem datR_form {rb : Nat} {s : ByteArray} {d bd : Nat} {R : Rd.RR Rd.D} {w w1 : World} {e : Ending} (h : DatR rb s d bd R w e w1) : ∃ p po n c x b, e = .returned (.tuple #[.agg #[.int .i64 p, .slice po n c, x], .bool b]) ∧ (x = .nilIface ∨ ∃ t y, x = .iface t y) ∧ Kept (· = rb) w w1 := by
  cases R with
  | ok dd l' m =>
    obtain ⟨p', po', n', c', ti, xv, he, _, _, _, hkp⟩ := h
    exact ⟨p', po', n', c', _, _, he, Or.inr ⟨_, _, rfl⟩, hkp⟩
  | bad l' =>
    obtain ⟨p', po', n', c', x', d', he, _, hx, _, hkp⟩ := h
    exact ⟨p', po', n', c', _, _, he, hx, hkp⟩
set_option maxHeartbeats 2000000 in
theorem datum_t_step (f : Nat) (HD : DataT f) (HT : DatumT f) : DatumT (f + 1) := by
  intro rb s l d dep w hs hl hr hE hrb5 hen hdep
  obtain ⟨T, hr1⟩ := id hr
  have c1 : w.cell? ⟨rb, 1, none⟩ = some (.int .i64 (Rd.kindAt l : Nat)) := cell_of_at hr1 1
  have hlt := lt_of_at hr1
  have hne : w.heap.size ≠ rb := by omega
  clear hr1
  have hcase : Rd.kindAt l = 5 ∨ Rd.kindAt l = 4 ∨ Rd.kindAt l = 1 ∨ (Rd.kindAt l ≠ 5 ∧ Rd.kindAt l ≠ 4 ∧ Rd.kindAt l ≠ 1) := by omega
  rcases hcase with hK | hK | hK | ⟨h5, h4, h1⟩
  · rw [hK] at c1
    have HC : Hid (∀ W, RdAt rb s l d W → ErrsAt W → Calls Tryz.prog 93 #[.pointer (some ⟨rb, 0, none⟩)] W (DatR rb s d (l.length + 1) (Rd.tD (f + 1) s.size dep l) W)) := fun W hW hEW => atom_t f rb s l d dep W hs hl hW hEW hK
    have HR : Hid (RdAt rb s l d w) := hr
    have HEW : Hid (ErrsAt w) := hE
    have HLT : Hid (rb < w.heap.size) := hlt
    clear hr hE HD HT hK hs hl hrb5
    generalize Rd.tD (f + 1) s.size dep l = R at *
    go_enter Tryz.func44, Tryz.ntmps44
    go_wp2_with (go_at_call 93; go_loud (refine Calls.mono (HC.out _ (HR.out.alloc _) (HEW.out.kept ((Kept.refl (fun _ => False) w).alloc _) id id)) ?_; intro e w1 hR; obtain ⟨p, po, n, c, x, b, rfl, hx, hk1⟩ := datR_form hR; have hn1 := hk1.at (by simpa using hne) (at_new w _); obtain ⟨c20, c21, c22, f20, f21, f22⟩ := cells3 hn1; have HDR : Hid (DatR rb s d (l.length + 1) R w _ _) := datR_on HLT.out hR; clear hR; rcases hx with rfl | ⟨t0, x0, rfl⟩))
    · have hst := stored3 hn1 (.int .i64 p) (.slice po n c) .nilIface
      obtain ⟨d0, d1, d2, _, _, _⟩ := cells3 hst
      refine bodyPost_ret (v := .tuple #[.agg #[.int .i64 p, .slice po n c, .nilIface], .bool b]) ?_ rfl HDR.out
      simp [results, Tryz.results44, go_sem, d0, d1, d2]
    · have hst := stored3 hn1 (.int .i64 p) (.slice po n c) (.iface t0 x0)
      obtain ⟨d0, d1, d2, _, _, _⟩ := cells3 hst
      refine bodyPost_ret (v := .tuple #[.agg #[.int .i64 p, .slice po n c, .iface t0 x0], .bool b]) ?_ rfl HDR.out
      simp [results, Tryz.results44, go_sem, d0, d1, d2]
  · rw [hK] at c1
    have HC : Hid (∀ W, RdAt rb s l d W → ErrsAt W → Calls Tryz.prog 94 #[.pointer (some ⟨rb, 0, none⟩), .int .i64 (dep + 1 : Nat)] W (DatR rb s d (l.length + 1) (Rd.tD (f + 1) s.size dep l) W)) := fun W hW hEW => quote_t f HT rb s l d dep W hs hl hW hEW hrb5 hK (by omega) (by omega)
    have HR : Hid (RdAt rb s l d w) := hr
    have HEW : Hid (ErrsAt w) := hE
    have HLT : Hid (rb < w.heap.size) := hlt
    clear hr hE HD HT hK hs hl hrb5
    generalize Rd.tD (f + 1) s.size dep l = R at *
    have hb1 : (dep : Int) + 1 ≤ 4000 := by omega
    go_enter Tryz.func44, Tryz.ntmps44
    go_wp2_with (go_at_call 94; go_loud (refine Calls.mono (HC.out _ (HR.out.alloc _) (HEW.out.kept ((Kept.refl (fun _ => False) w).alloc _) id id)) ?_; intro e w1 hR; obtain ⟨p, po, n, c, x, b, rfl, hx, hk1⟩ := datR_form hR; have hn1 := hk1.at (by simpa using hne) (at_new w _); obtain ⟨c20, c21, c22, f20, f21, f22⟩ := cells3 hn1; have HDR : Hid (DatR rb s d (l.length + 1) R w _ _) := datR_on HLT.out hR; clear hR; rcases hx with rfl | ⟨t0, x0, rfl⟩))
    · have hst := stored3 hn1 (.int .i64 p) (.slice po n c) .nilIface
      obtain ⟨d0, d1, d2, _, _, _⟩ := cells3 hst
      refine bodyPost_ret (v := .tuple #[.agg #[.int .i64 p, .slice po n c, .nilIface], .bool b]) ?_ rfl HDR.out
      simp [results, Tryz.results44, go_sem, d0, d1, d2]
    · have hst := stored3 hn1 (.int .i64 p) (.slice po n c) (.iface t0 x0)
      obtain ⟨d0, d1, d2, _, _, _⟩ := cells3 hst
      refine bodyPost_ret (v := .tuple #[.agg #[.int .i64 p, .slice po n c, .iface t0 x0], .bool b]) ?_ rfl HDR.out
      simp [results, Tryz.results44, go_sem, d0, d1, d2]
  · rw [hK] at c1
    have HC : Hid (∀ W, RdAt rb s l d W → ErrsAt W → Calls Tryz.prog 95 #[.pointer (some ⟨rb, 0, none⟩), .int .i64 (dep + 1 : Nat)] W (DatR rb s d (l.length + 1) (Rd.tD (f + 1) s.size dep l) W)) := fun W hW hEW => list_t f HD HT rb s l d dep W hs hl hW hEW hrb5 hK (by omega) (by omega)
    have HR : Hid (RdAt rb s l d w) := hr
    have HEW : Hid (ErrsAt w) := hE
    have HLT : Hid (rb < w.heap.size) := hlt
    clear hr hE HD HT hK hs hl hrb5
    generalize Rd.tD (f + 1) s.size dep l = R at *
    have hb1 : (dep : Int) + 1 ≤ 4000 := by omega
    go_enter Tryz.func44, Tryz.ntmps44
    go_wp2_with (go_at_call 95; go_loud (refine Calls.mono (HC.out _ (HR.out.alloc _) (HEW.out.kept ((Kept.refl (fun _ => False) w).alloc _) id id)) ?_; intro e w1 hR; obtain ⟨p, po, n, c, x, b, rfl, hx, hk1⟩ := datR_form hR; have hn1 := hk1.at (by simpa using hne) (at_new w _); obtain ⟨c20, c21, c22, f20, f21, f22⟩ := cells3 hn1; have HDR : Hid (DatR rb s d (l.length + 1) R w _ _) := datR_on HLT.out hR; clear hR; rcases hx with rfl | ⟨t0, x0, rfl⟩))
    · have hst := stored3 hn1 (.int .i64 p) (.slice po n c) .nilIface
      obtain ⟨d0, d1, d2, _, _, _⟩ := cells3 hst
      refine bodyPost_ret (v := .tuple #[.agg #[.int .i64 p, .slice po n c, .nilIface], .bool b]) ?_ rfl HDR.out
      simp [results, Tryz.results44, go_sem, d0, d1, d2]
    · have hst := stored3 hn1 (.int .i64 p) (.slice po n c) (.iface t0 x0)
      obtain ⟨d0, d1, d2, _, _, _⟩ := cells3 hst
      refine bodyPost_ret (v := .tuple #[.agg #[.int .i64 p, .slice po n c, .iface t0 x0], .bool b]) ?_ rfl HDR.out
      simp [results, Tryz.results44, go_sem, d0, d1, d2]
  · have hres : Rd.tD (f + 1) s.size dep l = .bad l := by rw [Rd.tD, if_neg h5, if_neg h4, if_neg h1]
    rw [hres]
    have HR : Hid (RdAt rb s l d w) := hr
    have h5 : ((Rd.kindAt l : Nat) : Int) ≠ 5 := by omega
    have h4 : ((Rd.kindAt l : Nat) : Int) ≠ 4 := by omega
    have h1 : ((Rd.kindAt l : Nat) : Int) ≠ 1 := by omega
    clear hr hE HD HT hs hl hrb5 hres
    go_enter Tryz.func44, Tryz.ntmps44
    go_wp2_with fail
    refine bodyPost_ret (v := .tuple #[.agg #[.int .i64 0, .slice none 0 0, .nilIface], .bool false]) ?_ rfl ⟨0, none, 0, 0, .nilIface, d, rfl, Or.inl ⟨rfl, rfl, rfl⟩, Or.inl rfl, ?_, ?_⟩
    · simp [results, Tryz.results44, go_sem]
    · exact HR.out.alloc _
    · exact (Kept.refl _ w).alloc _
theorem datum_t : ∀ f, DatumT f := by
  intro f
  induction f using Nat.strongRecOn with
  | _ f ih =>
    cases f with
    | zero =>
      intro rb s l d dep w hs hl hr hE hrb5 hen
      omega
    | succ f => exact datum_t_step f (dataAhead_t f fun g hg => ih g (by omega)) (ih f (by omega))
theorem data_t (f : Nat) : DataT f := dataAhead_t f fun g _ => datum_t g
end Go.Proofs.YtodeeegbajgafaaGreatDoor

namespace Go.Proofs.YtodeeegbajgafaaGreatDoor
open Go.RowKit
namespace Rd
/-- What reading answers: data, or a reason with a place. -/
inductive RQ where
  | ok (ds : List D)
  | no (e p : Nat)
def readOf (n : Nat) : RR (List D) → RQ
  | .bad l => .no 2 (n - l.length)
  | .ok ds l m => if kindAt l = 0 then (if 20 < m then .no 3 0 else .ok ds) else .no 2 (n - l.length)
def readT (s : ByteArray) : RQ := if 500 < s.size then .no 1 0 else readOf s.size (tL 1002 s.size 0 (skip s.data.toList))
end Rd
def ReadR (r : Rd.RQ) (w : World) : Ending → World → Prop := fun e w' => match r with
  | .ok ds => ∃ sl, e = .returned (.tuple #[sl, .int .i64 0, .int .i64 0]) ∧ RepS (fun k => w.heap.size ≤ k) w' sl ds ∧ Below w.heap.size w w'
  | .no n p => e = .returned (.tuple #[.slice none 0 0, .int .i64 n, .int .i64 p]) ∧ Below w.heap.size w w'
theorem read_long (s : ByteArray) (w : World) (h : 500 < s.size) : Calls Tryz.prog 24 #[.string s] w (ReadR (.no 1 0) w) := by
  have h1 : (500 : Int) < (s.size : Int) := by omega
  go_enter Tryz.func24, Tryz.ntmps24
  go_wp2_with fail
  go_ret3
  exact ⟨rfl, Below.refl _ _⟩
set_option maxHeartbeats 2000000 in
theorem read_bad (s : ByteArray) (w : World) (hs : s.size ≤ 500) (hE : ErrsAt w) {l' : List UInt8} (hres : Rd.tL 1002 s.size 0 (Rd.skip s.data.toList) = .bad l') :
    Calls Tryz.prog 24 #[.string s] w (ReadR (.no 2 (s.size - l'.length)) w) := by
  have hm : s.size ≤ maxLen := by unfold maxLen; omega
  have hl0 : Rd.skip s.data.toList <:+ s.data.toList := Rd.skip_suffix _
  have hlen : (Rd.skip s.data.toList).length ≤ s.size := by have := hl0.length_le; simpa using this
  have HC : Hid (∀ W, Calls Tryz.prog 30 #[.string s, .int .i64 0] W fun e w' => e = .returned (tokV s.size (Rd.skip s.data.toList)) ∧ Below W.heap.size W w') := by
    intro W
    have := nextToken_any s 0 W (Nat.zero_le _) hm
    simpa using this
  have h5 : 5 < w.heap.size := by obtain ⟨_, t, p, c⟩ := hE; exact World.block_lt_of_cell? w _ c
  have hleft := Rd.tL_left 1002 s.size 0 (Rd.skip s.data.toList)
  rw [hres] at hleft
  have hsz : ¬ (500 : Int) < (s.size : Int) := by omega
  generalize hL : Rd.skip s.data.toList = L at *
  clear hL
  go_enter Tryz.func24, Tryz.ntmps24
  go_wp2_with (go_at_call 30; refine (HC.out _).mono ?_; rintro e w1 ⟨rfl, hb⟩; simp only [tokV])
  have hr2 : RdAt w1.heap.size s L (0 : Nat) (w1.alloc (.cells #[.string s, .int .i64 (Rd.kindAt L : Nat), .int .i64 (s.size - L.length : Nat), .string ⟨(Rd.textOf L).toArray⟩, .int .i64 0] 81)) := ⟨81, at_new _ _⟩
  have hsz1 := hb.size
  have hE2 : ErrsAt (w1.alloc (.cells #[.string s, .int .i64 (Rd.kindAt L : Nat), .int .i64 (s.size - L.length : Nat), .string ⟨(Rd.textOf L).toArray⟩, .int .i64 0] 81)) := hE.kept ((Kept.of_below hb (fun _ => False)).alloc _) id id
  have HDK := data_t 1002 w1.heap.size s L 0 0 _ hs hl0 hr2 hE2 (by omega) (by omega) (by omega)
  unfold DataR at HDK
  rw [hres] at HDK
  simp only at HDK
  refine Calls.mono HDK ?_
  rintro e w2 ⟨d', rfl, hr3, hk2⟩
  have hsz2 := hk2.size
  generalize hRB : w1.heap.size = rb at *
  have HM : Hid (rb = w1.heap.size) := hRB.symm
  clear hRB hE hE2 HDK
  obtain ⟨T4, hr5⟩ := hr3
  have c2 := cell_of_at hr5 2
  simp only [rdCells, List.getElem?_toArray, List.getElem?_cons_zero, List.getElem?_cons_succ] at c2
  go_wp2_with fail
  go_region_held3 (fun x => x.cell? ⟨rb, 2, none⟩ = some (.int .i64 (s.size - l'.length : Nat))) (go_keep) (fail)
  go_wp2
  go_ret3
  have h1 : Below w.heap.size w (w1.alloc (.cells #[.string s, .int .i64 (Rd.kindAt L : Nat), .int .i64 (s.size - L.length : Nat), .string ⟨(Rd.textOf L).toArray⟩, .int .i64 0] 81)) := hb.alloc (by have := HM.out; omega) _
  have hMe := HM.out
  exact ⟨rfl, (h1.trans (hk2.below (B := w.heap.size) (by simp; omega) (fun k (e : k = rb) => by omega))).drew⟩
set_option maxHeartbeats 2000000 in
theorem read_end (s : ByteArray) (w : World) (hs : s.size ≤ 500) (hE : ErrsAt w) {ds : List Rd.D} {l' : List UInt8} {m : Nat} (hres : Rd.tL 1002 s.size 0 (Rd.skip s.data.toList) = .ok ds l' m) (hk : Rd.kindAt l' ≠ 0) :
    Calls Tryz.prog 24 #[.string s] w (ReadR (.no 2 (s.size - l'.length)) w) := by
  have hm : s.size ≤ maxLen := by unfold maxLen; omega
  have hl0 : Rd.skip s.data.toList <:+ s.data.toList := Rd.skip_suffix _
  have hlen : (Rd.skip s.data.toList).length ≤ s.size := by have := hl0.length_le; simpa using this
  have HC : Hid (∀ W, Calls Tryz.prog 30 #[.string s, .int .i64 0] W fun e w' => e = .returned (tokV s.size (Rd.skip s.data.toList)) ∧ Below W.heap.size W w') := by
    intro W
    have := nextToken_any s 0 W (Nat.zero_le _) hm
    simpa using this
  have h5 : 5 < w.heap.size := by obtain ⟨_, t, p, c⟩ := hE; exact World.block_lt_of_cell? w _ c
  have hleft := Rd.tL_left 1002 s.size 0 (Rd.skip s.data.toList)
  rw [hres] at hleft
  have HK : Hid (Rd.kindAt l' ≠ 0) := hk
  clear hk
  have hsz : ¬ (500 : Int) < (s.size : Int) := by omega
  generalize hL : Rd.skip s.data.toList = L at *
  clear hL
  go_enter Tryz.func24, Tryz.ntmps24
  go_wp2_with (go_at_call 30; refine (HC.out _).mono ?_; rintro e w1 ⟨rfl, hb⟩; simp only [tokV])
  have hr2 : RdAt w1.heap.size s L (0 : Nat) (w1.alloc (.cells #[.string s, .int .i64 (Rd.kindAt L : Nat), .int .i64 (s.size - L.length : Nat), .string ⟨(Rd.textOf L).toArray⟩, .int .i64 0] 81)) := ⟨81, at_new _ _⟩
  have hsz1 := hb.size
  have hE2 : ErrsAt (w1.alloc (.cells #[.string s, .int .i64 (Rd.kindAt L : Nat), .int .i64 (s.size - L.length : Nat), .string ⟨(Rd.textOf L).toArray⟩, .int .i64 0] 81)) := hE.kept ((Kept.of_below hb (fun _ => False)).alloc _) id id
  have HDK := data_t 1002 w1.heap.size s L 0 0 _ hs hl0 hr2 hE2 (by omega) (by omega) (by omega)
  unfold DataR at HDK
  rw [hres] at HDK
  simp only at HDK
  refine Calls.mono HDK ?_
  rintro e w2 ⟨sl, xs, rfl, hown, hels, hnil, hr3, hk2⟩
  clear hown hels hnil
  have hsz2 := hk2.size
  generalize hRB : w1.heap.size = rb at *
  have HM : Hid (rb = w1.heap.size) := hRB.symm
  clear hRB hE hE2 HDK
  have HR3 : Hid (RdAt rb s l' (max 0 m : Nat) w2) := hr3
  obtain ⟨T4, hr5⟩ := hr3
  have c2 := cell_of_at hr5 2
  simp only [rdCells, List.getElem?_toArray, List.getElem?_cons_zero, List.getElem?_cons_succ] at c2
  go_wp2_with (go_at_call 32; refine (pass_no rb s l' _ 0 _ HR3.out HK.out).mono ?_; rintro e w3 ⟨rfl, hw3⟩; obtain rfl := hw3.symm)
  go_region_held3 (fun x => x.cell? ⟨rb, 2, none⟩ = some (.int .i64 (s.size - l'.length : Nat))) (go_keep) (fail)
  go_wp2
  go_ret3
  have h1 : Below w.heap.size w (w1.alloc (.cells #[.string s, .int .i64 (Rd.kindAt L : Nat), .int .i64 (s.size - L.length : Nat), .string ⟨(Rd.textOf L).toArray⟩, .int .i64 0] 81)) := hb.alloc (by have := HM.out; omega) _
  have hMe := HM.out
  exact ⟨rfl, (h1.trans (hk2.below (B := w.heap.size) (by simp; omega) (fun k (e : k = rb) => by omega))).drew⟩
set_option maxHeartbeats 2000000 in
theorem read_deep (s : ByteArray) (w : World) (hs : s.size ≤ 500) (hE : ErrsAt w) {ds : List Rd.D} {l' : List UInt8} {m : Nat} (hres : Rd.tL 1002 s.size 0 (Rd.skip s.data.toList) = .ok ds l' m) (hk : Rd.kindAt l' = 0) (hm20 : 20 < m) :
    Calls Tryz.prog 24 #[.string s] w (ReadR (.no 3 0) w) := by
  have hm : s.size ≤ maxLen := by unfold maxLen; omega
  have hl0 : Rd.skip s.data.toList <:+ s.data.toList := Rd.skip_suffix _
  have hlen : (Rd.skip s.data.toList).length ≤ s.size := by have := hl0.length_le; simpa using this
  have HC : Hid (∀ W, Calls Tryz.prog 30 #[.string s, .int .i64 0] W fun e w' => e = .returned (tokV s.size (Rd.skip s.data.toList)) ∧ Below W.heap.size W w') := by
    intro W
    have := nextToken_any s 0 W (Nat.zero_le _) hm
    simpa using this
  have h5 : 5 < w.heap.size := by obtain ⟨_, t, p, c⟩ := hE; exact World.block_lt_of_cell? w _ c
  have hleft := Rd.tL_left 1002 s.size 0 (Rd.skip s.data.toList)
  rw [hres] at hleft
  have HK : Hid (Rd.kindAt l' = 0) := hk
  clear hk
  have hl3 : l' <:+ s.data.toList := hleft.1.trans hl0
  have hsz : ¬ (500 : Int) < (s.size : Int) := by omega
  generalize hL : Rd.skip s.data.toList = L at *
  clear hL
  go_enter Tryz.func24, Tryz.ntmps24
  go_wp2_with (go_at_call 30; refine (HC.out _).mono ?_; rintro e w1 ⟨rfl, hb⟩; simp only [tokV])
  have hr2 : RdAt w1.heap.size s L (0 : Nat) (w1.alloc (.cells #[.string s, .int .i64 (Rd.kindAt L : Nat), .int .i64 (s.size - L.length : Nat), .string ⟨(Rd.textOf L).toArray⟩, .int .i64 0] 81)) := ⟨81, at_new _ _⟩
  have hsz1 := hb.size
  have hE2 : ErrsAt (w1.alloc (.cells #[.string s, .int .i64 (Rd.kindAt L : Nat), .int .i64 (s.size - L.length : Nat), .string ⟨(Rd.textOf L).toArray⟩, .int .i64 0] 81)) := hE.kept ((Kept.of_below hb (fun _ => False)).alloc _) id id
  have HDK := data_t 1002 w1.heap.size s L 0 0 _ hs hl0 hr2 hE2 (by omega) (by omega) (by omega)
  unfold DataR at HDK
  rw [hres] at HDK
  simp only at HDK
  refine Calls.mono HDK ?_
  rintro e w2 ⟨sl, xs, rfl, hown, hels, hnil, hr3, hk2⟩
  clear hown hels hnil
  have hd : (20 : Int) < ((max 0 m : Nat) : Int) := by omega
  have hsz2 := hk2.size
  generalize hRB : w1.heap.size = rb at *
  have HM : Hid (rb = w1.heap.size) := hRB.symm
  clear hRB hE hE2 HDK
  go_wp2_with (go_at_call 32; refine (pass_yes rb s l' _ 0 _ hm hl3 hr3 HK.out).mono ?_; rintro e w3 ⟨rfl, hr4, hk3⟩; obtain ⟨T4, hr5⟩ := hr4; have c4 := cell_of_at hr5 4; simp only [rdCells, List.getElem?_toArray, List.getElem?_cons_zero, List.getElem?_cons_succ] at c4)
  go_ret3
  have h1 : Below w.heap.size w (w1.alloc (.cells #[.string s, .int .i64 (Rd.kindAt L : Nat), .int .i64 (s.size - L.length : Nat), .string ⟨(Rd.textOf L).toArray⟩, .int .i64 0] 81)) := hb.alloc (by have := HM.out; omega) _
  have hMe := HM.out
  exact ⟨rfl, h1.trans ((hk2.trans hk3).below (B := w.heap.size) (by simp; omega) (fun k (e : k = rb) => by omega))⟩
set_option maxHeartbeats 2000000 in
theorem read_ok (s : ByteArray) (w : World) (hs : s.size ≤ 500) (hE : ErrsAt w) {ds : List Rd.D} {l' : List UInt8} {m : Nat} (hres : Rd.tL 1002 s.size 0 (Rd.skip s.data.toList) = .ok ds l' m) (hk : Rd.kindAt l' = 0) (hm20 : ¬ 20 < m) :
    Calls Tryz.prog 24 #[.string s] w (ReadR (.ok ds) w) := by
  have hm : s.size ≤ maxLen := by unfold maxLen; omega
  have hl0 : Rd.skip s.data.toList <:+ s.data.toList := Rd.skip_suffix _
  have hlen : (Rd.skip s.data.toList).length ≤ s.size := by have := hl0.length_le; simpa using this
  have HC : Hid (∀ W, Calls Tryz.prog 30 #[.string s, .int .i64 0] W fun e w' => e = .returned (tokV s.size (Rd.skip s.data.toList)) ∧ Below W.heap.size W w') := by
    intro W
    have := nextToken_any s 0 W (Nat.zero_le _) hm
    simpa using this
  have h5 : 5 < w.heap.size := by obtain ⟨_, t, p, c⟩ := hE; exact World.block_lt_of_cell? w _ c
  have hleft := Rd.tL_left 1002 s.size 0 (Rd.skip s.data.toList)
  rw [hres] at hleft
  have HK : Hid (Rd.kindAt l' = 0) := hk
  clear hk
  have hl3 : l' <:+ s.data.toList := hleft.1.trans hl0
  have hsz : ¬ (500 : Int) < (s.size : Int) := by omega
  generalize hL : Rd.skip s.data.toList = L at *
  clear hL
  go_enter Tryz.func24, Tryz.ntmps24
  go_wp2_with (go_at_call 30; refine (HC.out _).mono ?_; rintro e w1 ⟨rfl, hb⟩; simp only [tokV])
  have hr2 : RdAt w1.heap.size s L (0 : Nat) (w1.alloc (.cells #[.string s, .int .i64 (Rd.kindAt L : Nat), .int .i64 (s.size - L.length : Nat), .string ⟨(Rd.textOf L).toArray⟩, .int .i64 0] 81)) := ⟨81, at_new _ _⟩
  have hsz1 := hb.size
  have hE2 : ErrsAt (w1.alloc (.cells #[.string s, .int .i64 (Rd.kindAt L : Nat), .int .i64 (s.size - L.length : Nat), .string ⟨(Rd.textOf L).toArray⟩, .int .i64 0] 81)) := hE.kept ((Kept.of_below hb (fun _ => False)).alloc _) id id
  have HDK := data_t 1002 w1.heap.size s L 0 0 _ hs hl0 hr2 hE2 (by omega) (by omega) (by omega)
  unfold DataR at HDK
  rw [hres] at HDK
  simp only at HDK
  refine Calls.mono HDK ?_
  rintro e w2 ⟨sl, xs, rfl, hown, hels, hnil, hr3, hk2⟩
  have hrep := own_reps hown hels
  clear hown hels hnil
  have hd : ((max 0 m : Nat) : Int) ≤ 20 := by omega
  have hsz2 := hk2.size
  generalize hRB : w1.heap.size = rb at *
  have HM : Hid (rb = w1.heap.size) := hRB.symm
  clear hRB hE hE2 HDK
  go_wp2_with (go_at_call 32; refine (pass_yes rb s l' _ 0 _ hm hl3 hr3 HK.out).mono ?_; rintro e w3 ⟨rfl, hr4, hk3⟩; obtain ⟨T4, hr5⟩ := hr4; have c4 := cell_of_at hr5 4; simp only [rdCells, List.getElem?_toArray, List.getElem?_cons_zero, List.getElem?_cons_succ] at c4)
  go_ret3
  have h1 : Below w.heap.size w (w1.alloc (.cells #[.string s, .int .i64 (Rd.kindAt L : Nat), .int .i64 (s.size - L.length : Nat), .string ⟨(Rd.textOf L).toArray⟩, .int .i64 0] 81)) := hb.alloc (by have := HM.out; omega) _
  have hMe := HM.out
  refine ⟨sl, rfl, ?_, h1.trans ((hk2.trans hk3).below (B := w.heap.size) (by simp; omega) (fun k (e : k = rb) => by omega))⟩
  refine hrep.mono ?_
  intro k hk hge
  have hge : w1.heap.size + 1 ≤ k := by simpa using hge
  exact ⟨by omega, hk3.block k hk (fun (e' : k = rb) => by omega)⟩
/-- Reading any source. -/
theorem read_t (s : ByteArray) (w : World) (hE : ErrsAt w) : Calls Tryz.prog 24 #[.string s] w (ReadR (Rd.readT s) w) := by
  unfold Rd.readT
  by_cases h : 500 < s.size
  · rw [if_pos h]; exact read_long s w h
  · rw [if_neg h]
    have hs : s.size ≤ 500 := by omega
    cases hres : Rd.tL 1002 s.size 0 (Rd.skip s.data.toList) with
    | bad l' => exact read_bad s w hs hE hres
    | ok ds l' m =>
      rw [Rd.readOf]
      by_cases hk : Rd.kindAt l' = 0
      · rw [if_pos hk]
        by_cases hm : 20 < m
        · rw [if_pos hm]; exact read_deep s w hs hE hres hk hm
        · rw [if_neg hm]; exact read_ok s w hs hE hres hk hm
      · rw [if_neg hk]; exact read_end s w hs hE hres hk
end Go.Proofs.YtodeeegbajgafaaGreatDoor
