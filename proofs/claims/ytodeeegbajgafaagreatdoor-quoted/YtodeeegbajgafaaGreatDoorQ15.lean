/- The names that data are, all different. A word as a form: a constant, or a name. The rules of the keywords: begin, reset, or. The rules of shift, set!, quote. -/
import Derived.Test.YtodeeegbajgafaaGreatDoorQ14
import Derived.Maps.AppendAt
namespace Go.Proofs.YtodeeegbajgafaaGreatDoor
open Go.RowKit

set_option maxHeartbeats 1000000 in
theorem index_none (ok : Nat → Prop) (sl : Value) (ns : List Rd.Sym) (n : Rd.Sym) (w : World) (hn : RepN ok w sl ns) (hl : ns.length ≤ 100000) (hc : ns.contains n = false) :
    Calls Tryz.prog 157 #[sl, symV n] w fun e w' => e = .returned (.int .i64 (-1)) ∧ w' = w := by
  obtain ⟨nb, nc, rfl, hnc⟩ := hn.shape
  unfold symV
  go_enter Tryz.func157, Tryz.ntmps157
  go_wp2
  go_loop [8] (fun i => ∃ k : Nat, k ≤ ns.length ∧ i = .int .i64 k) (fun i => ns.length - (intOf i).toNat)
  case atStart => exact ⟨0, Nat.zero_le _, rfl⟩
  case round =>
    obtain ⟨k, hk, rfl⟩ := hrel
    by_cases hlt : k < ns.length
    · obtain ⟨g, cap', heq, _, _, hcell⟩ := hn.cell k hlt
      cases heq
      have hne : ns[k] ≠ n := by
        intro e
        have : n ∈ ns := by rw [← e]; exact List.getElem_mem hlt
        simp [this] at hc
      have hq : ((⟨n.toArray⟩ : ByteArray).toList == (⟨ns[k].toArray⟩ : ByteArray).toList) = false := by
        rw [bytes_toList, bytes_toList]; simpa using fun e => hne e.symm
      have hq' : ¬ (⟨n.toArray⟩ : ByteArray).toList = (⟨ns[k].toArray⟩ : ByteArray).toList := by
        rw [bytes_toList, bytes_toList]; exact fun e => hne e.symm
      simp only [symV] at hcell
      clear hn hc hne
      generalize hA : (⟨n.toArray⟩ : ByteArray) = A at *
      generalize hB : (⟨ns[k].toArray⟩ : ByteArray) = B at *
      go_wp2
      go_round
      case rel => exact ⟨k + 1, by omega, by go_num⟩
      case measure => simp [intOf]; omega
    · go_wp2
      go_ret
      exact ⟨rfl, rfl⟩

theorem contains_none (ok : Nat → Prop) (sl : Value) (ns : List Rd.Sym) (n : Rd.Sym) (w : World) (hn : RepN ok w sl ns) (hl : ns.length ≤ 100000) (hc : ns.contains n = false) :
    Calls Tryz.prog 136 #[sl, symV n] w fun e w' => e = .returned (.bool false) ∧ w' = w := by
  have HC := (show Hid _ from hc)
  clear hc
  obtain ⟨nb, nc, rfl, hnc⟩ := hn.shape
  unfold symV
  go_enter Tryz.func136, Tryz.ntmps136
  go_wp2_with (go_at_call 157; refine (index_none ok _ ns n _ hn hl HC.out).mono ?_; rintro e w1 ⟨rfl, rfl⟩)
  go_ret
  exact ⟨rfl, rfl⟩

theorem ownsRow_kept' {B : Nat} {e size n : Nat} {v : Value} {xs : List Value} {w w' : World} (h : w.ownsRow B e size v n xs) (hk : Below w.heap.size w w') : w'.ownsRow B e size v n xs := by
  obtain ⟨h1, h2 | ⟨g, cap, cur, hv, hg, hh, r⟩⟩ := h
  · exact ⟨h1, Or.inl h2⟩
  · exact ⟨h1, Or.inr ⟨g, cap, cur, hv, hg, Below.at hk hh, r⟩⟩
theorem PAt.grown {pb sb kb : Nat} {env : List (List Rd.Sym)} {w w' : World} {B : Nat} {row : Option Nat} (h : PAt pb sb kb env w) (hB : pb < B ∧ sb < B ∧ kb < B) (hg : w.grownBy w' row) (hr : ∀ k, row = some k → B ≤ k) : PAt pb sb kb env w' := by
  obtain ⟨⟨T, h1⟩, ⟨es, c, h2, h3⟩, ⟨fs, d, h4, h5⟩, h6⟩ := h
  have key : ∀ k, k < B → k < w.heap.size → w'.heap[k]? = w.heap[k]? := fun k hk hk' => hg.block k hk' (fun e => by have := hr k e.symm; omega)
  exact ⟨⟨T, (key pb hB.1 (lt_of_at h1)).trans h1⟩, ⟨es, c, (key sb hB.2.1 (lt_of_at h2)).trans h2, h3⟩, ⟨fs, d, (key kb hB.2.2 (lt_of_at h4)).trans h4, h5⟩, h6⟩
theorem ownBlock_of' {B : Nat} {e size n : Nat} {v : Value} {xs : List Value} {w : World} (h : w.ownsRow B e size v n xs) : ∀ g, v.ownBlock = some g → B ≤ g := by
  intro g hg
  obtain ⟨_, ⟨rfl, _⟩ | ⟨g', cap, cur, rfl, hB, hh, _⟩⟩ := h
  · cases hg
  · cases hg; exact hB

/-- The loop's relation: 'v' owns the names of the data that are passed. -/
structure Naming (pb sb kb : Nat) (env : List (List Rd.Sym)) (w : World) (acc : List Rd.Sym) (v : Value) (wr : World) : Prop where
  par : PAt pb sb kb env wr
  kept : Below w.heap.size w wr
  own : wr.ownsRow w.heap.size 115 1 v acc.length (acc.map symV)

theorem own_names {B : Nat} {w : World} {v : Value} {ns : List Rd.Sym} (h : w.ownsRow B 115 1 v ns.length (ns.map symV)) : RepN (fun k => B ≤ k) w v ns := by
  obtain ⟨hx, h | ⟨g, cap, cur, rfl, hg, hh, hn, hcap, hcs, htk⟩⟩ := h
  · obtain ⟨rfl, h0⟩ := h
    exact Or.inl ⟨rfl, List.length_eq_zero_iff.1 h0⟩
  · refine Or.inr ⟨g, cap, cur, 115, rfl, hg, hh, hn, fun i hi => ?_⟩
    have h1 : (cur.toList.take (ns.length * 1))[i]? = (ns.map symV)[i]? := by rw [htk]
    rw [List.getElem?_take, if_pos (by omega)] at h1
    rw [← Array.getElem?_toList, h1]
    simp [hi]

theorem Tryz.info115 : (Tryz.prog.info? 115).map (fun i => (i.zero, i.size, i.bytes)) = some (some (.string ⟨#[]⟩), 1, 16) := by kernel_rfl

theorem Rd.names_more' {d : Rd.D} {ds : List Rd.D} {acc r : List Rd.Sym} (h : Rd.names (d :: ds) acc = some r) : ∃ n, d.name = some n ∧ acc.contains n = false ∧ acc.length < 1000 ∧ Rd.names ds (acc ++ [n]) = some r := by
  rw [Rd.names] at h
  split at h
  · rename_i n hn
    split at h
    · cases h
    · rename_i hc
      simp only [Bool.or_eq_true, decide_eq_true_eq, not_or] at hc
      exact ⟨n, hn, by simpa using hc.1, by omega, h⟩
  · cases h
theorem Rd.names_more {d : Rd.D} {ds : List Rd.D} {acc r : List Rd.Sym} (h : Rd.names (d :: ds) acc = some r) : ∃ n, d.name = some n ∧ acc.contains n = false ∧ Rd.names ds (acc ++ [n]) = some r := by
  obtain ⟨n, h1, h2, _, h4⟩ := Rd.names_more' h
  exact ⟨n, h1, h2, h4⟩
theorem Rd.names_bound : ∀ (ds : List Rd.D) (acc r : List Rd.Sym), acc.length ≤ 1000 → Rd.names ds acc = some r → r.length ≤ 1000
  | [], acc, r, ha, h => by rw [Rd.names] at h; cases h; exact ha
  | d :: ds, acc, r, ha, h => by
    obtain ⟨n, _, _, h3, h4⟩ := Rd.names_more' h
    exact Rd.names_bound ds _ r (by simp; omega) h4
theorem Rd.names_length : ∀ (ds : List Rd.D) (acc r : List Rd.Sym), Rd.names ds acc = some r → r.length = acc.length + ds.length
  | [], acc, r, h => by rw [Rd.names] at h; cases h; simp
  | d :: ds, acc, r, h => by
    obtain ⟨n, _, _, h3⟩ := Rd.names_more h
    have := Rd.names_length ds _ r h3
    simp at this ⊢; omega
theorem Rd.names_differ : ∀ (ds : List Rd.D) (acc r : List Rd.Sym), Differ acc → Rd.names ds acc = some r → Differ r
  | [], acc, r, ha, h => by rw [Rd.names] at h; cases h; exact ha
  | d :: ds, acc, r, ha, h => by
    obtain ⟨n, _, h2, h3⟩ := Rd.names_more h
    refine Rd.names_differ ds _ r ?_ h3
    intro i j hi hj hij
    simp only [List.length_append, List.length_cons, List.length_nil] at hi hj
    rw [List.getElem_append_left (by omega)]
    by_cases e : j < acc.length
    · rw [List.getElem_append_left e]; exact ha i j (by omega) e hij
    · have : j = acc.length := by omega
      subst this
      simp only [List.getElem_append_right (Nat.le_refl _), Nat.sub_self, List.getElem_cons_zero]
      intro e'
      have hm : n ∈ acc := by rw [← e']; exact List.getElem_mem _
      simp [hm] at h2

set_option maxHeartbeats 1000000 in
set_option maxRecDepth 10000 in
theorem namesOf_any (pb sb kb : Nat) (env : List (List Rd.Sym)) (w : World) (ds : List Rd.D) (ns : List Rd.Sym) (sl : Value) (hp : PAt pb sb kb env w) (hsl : RepS (fun _ => True) w sl ds) (hns : Rd.names ds [] = some ns) (hl : ds.length ≤ 5000) :
    Calls Tryz.prog 103 #[.pointer (some ⟨pb, 0, none⟩), sl] w fun e w' => ∃ nv, e = .returned (.tuple #[nv, .bool true]) ∧ RepN (fun k => w.heap.size ≤ k) w' nv ns ∧ Below w.heap.size w w' := by
  obtain ⟨i0, hi, hz0, hz1, hz2⟩ := info_parts Tryz.info115
  obtain ⟨bb, cap, rfl, hcap⟩ : ∃ b cap, sl = .slice b ds.length cap ∧ ds.length ≤ cap := by
    rcases hsl with ⟨rfl, rfl⟩ | ⟨g, o, cap, c, T, va, vb, vc, rfl, _, _, hn, _⟩
    · exact ⟨none, 0, rfl, Nat.le_refl _⟩
    · exact ⟨_, cap, rfl, hn⟩
  have hN0 : Naming pb sb kb env w [] (.slice none 0 0) w := ⟨hp, Below.refl _ _, ⟨rfl, Or.inl ⟨rfl, rfl⟩⟩⟩
  have hlen := Rd.names_length _ _ _ hns
  have hlp := hp.lt
  go_enter Tryz.func103, Tryz.ntmps103
  go_wp2
  go_loopg [6, 13] ds.length (fun k v i wr => ∃ (j : Nat) (acc : List Rd.Sym), j + k = ds.length ∧ acc.length = j ∧ i = .int .i64 j ∧ Hid (Rd.names (ds.drop j) acc = some ns) ∧ Naming pb sb kb env w acc v wr)
  case atStart => exact ⟨0, [], by omega, rfl, rfl, by simpa [Hid] using hns, hN0⟩
  case round =>
    obtain ⟨j, acc, hj, hacc, rfl, HN, hN⟩ := hrel
    obtain ⟨hpar, hkept, hown⟩ := id hN
    by_cases hlt : j < ds.length
    · have hsr := hsl.mono (ok' := fun _ => True) (w' := wr) (fun k hk _ => ⟨trivial, hkept.block k hk⟩)
      obtain ⟨gd, od, cap', pp, po, pn, pc, ti, xv, heq, _, _, d0, d1, d2, hrepd⟩ := hsr.cells j hlt
      cases heq
      have hP := HN.out
      rw [List.drop_eq_getElem_cons hlt] at hP
      obtain ⟨n, hn1, hn2, hn3⟩ := Rd.names_more hP
      obtain ⟨p', hd', hkey⟩ := sym_of_name hn1
      rw [hd'] at hrepd
      obtain ⟨sl', hv', hsl'⟩ := hrepd.inv
      have hsl2 : sl' = .slice po pn pc ∧ pn = 0 := by
        simp only [Value.agg.injEq, Array.mk.injEq, List.cons.injEq, and_true] at hv'
        rcases hsl' with ⟨rfl, _⟩ | ⟨g, o, cap, c, T, va, vb, vc, rfl, _⟩
        · have := hv'.2.1
          simp at this
          exact ⟨by simp [this], this.2.1⟩
        · have := hv'.2.1
          simp at this
          exact ⟨by simp [this], this.2.1⟩
      obtain ⟨rfl, rfl⟩ := hsl2
      simp only [aV, Value.agg.injEq, Array.mk.injEq, List.cons.injEq, and_true, true_and, Value.iface.injEq] at hv'
      obtain ⟨_, rfl, rfl⟩ := hv'
      rw [Nat.mul_comm 3 j] at d0 d1 d2
      have hpar2 := hpar.kept ((Below.refl _ wr).alloc (Nat.le_refl _) (.cells #[.int .i64 pp, .slice po 0 pc, .iface 115 (.string ⟨n.toArray⟩)] 62))
      have HK := (show Hid _ from hkey)
      have HN2 := (show Hid _ from hn2)
      have HN3 := (show Hid _ from hn3)
      clear HN hP hn1 hn2 hn3 hkey hd' hrepd hsl' hsr hsl hns hN0 hp
      go_wp2_with (first | (go_at_call 105; refine (nameOf_any pb sb kb env _ po pc n _ hpar2 HK.out).mono ?_; rintro e w1 ⟨rfl, hb1⟩; simp only [symV]; have hkA : Below wr.heap.size wr w1 := ((Below.refl _ wr).alloc (Nat.le_refl _) _).trans (hb1.mono (by simp)); have hown1 := ownsRow_kept' hown hkA) | (go_at_call 136; refine (contains_none _ _ acc n _ (own_names hown1) (by omega) HN2.out).mono ?_; rintro e w2 ⟨rfl, rfl⟩) | (at_builtin; refine wpList_append_own_at _ rfl _ _ 170 rfl w.heap.size 115 i0 (.string ⟨#[]⟩) 1 16 Tryz.underlying170 hi hz0 hz1 hz2 rfl (by decide) u6 acc.length (acc.map symV) rfl ?h1 ⟨_, 0, none⟩ 1 1 [.string ⟨n.toArray⟩] rfl rfl ?h2 ?h3 ?h4 ?h5 ?h6 ?_))
      case h1 => exact ownsRow_kept' hown1 ((Below.refl _ _).alloc (Nat.le_refl _) _)
      case h2 => exact cell_one_new _ _ _
      case h3 => intro u hu; simp at hu; subst hu; rfl
      case h4 => unfold maxLen; omega
      case h5 => omega
      case h6 => have := hkA.size; have := hkept.size; simp; omega
      intro v' w3 hown' hgrow _ hat
      have hs1 := hkA.size
      have hs2 := hkept.size
      have hnx : Naming pb sb kb env w (acc ++ [n]) v' w3 := by
        refine ⟨?_, ?_, ?_⟩
        · exact ((hpar.kept hkA).kept ((Below.refl _ _).alloc (Nat.le_refl _) _)).grown (B := w.heap.size) hlp hgrow (fun k e => ownBlock_of' hown k e)
        · exact ((hkept.trans (hkA.mono (by omega))).alloc (by omega) _).grown hgrow (by simp; omega) (fun k e => ownBlock_of' hown k e)
        · simpa [symV, hacc] using hown'
      clear hown' hgrow hat hown hown1 hkA hkept hpar hpar2 hN
      go_wp2
      go_roundg (gk - 1)
      case measure => omega
      case rel => exact ⟨j + 1, acc ++ [n], by omega, by simp; omega, by go_num, HN3, hnx⟩
    · have hjl : j = ds.length := by omega
      have hP := HN.out
      rw [hjl, List.drop_length, Rd.names] at hP
      cases hP
      clear hsl hns hN0 hp HN
      go_wp2
      go_ret2
      exact ⟨u6, rfl, own_names hown, hkept⟩
end Go.Proofs.YtodeeegbajgafaaGreatDoor

namespace Go.Proofs.YtodeeegbajgafaaGreatDoor
open Go.RowKit

set_option maxHeartbeats 1000000 in
set_option maxRecDepth 10000 in
theorem patom_const (pb : Nat) (p : Int) (ad : Option Addr) (n c : Nat) (a : Rd.A) (w : World) (ha : (∃ i, a = .num i) ∨ ∃ b, a = .truth b) :
    Calls Tryz.prog 109 #[.pointer (some ⟨pb, 0, none⟩), .agg #[.int .i64 p, .slice ad n c, aV a]] w fun e w' => e = .returned (.iface 163 (.agg #[aV a])) ∧ Below w.heap.size w w' := by
  have t1 := ta_hit147
  have t2 := ta_hit150
  have t3 := fun v w => ta_miss147 150 v w (by decide)
  have t4 := fun v w => ta_miss150 147 v w (by decide)
  rcases ha with ⟨i, rfl⟩ | ⟨b, rfl⟩ <;> simp only [aV] <;>
  (go_enter Tryz.func109, Tryz.ntmps109
   go_wp2
   go_ret
   exact ⟨rfl, (Below.refl _ _).alloc (Nat.le_refl _) _⟩)

set_option maxHeartbeats 1000000 in
set_option maxRecDepth 10000 in
theorem patom_name (pb sb kb : Nat) (env : List (List Rd.Sym)) (p : Int) (ad : Option Addr) (c : Nat) (n : Rd.Sym) (w : World) (hp : PAt pb sb kb env w) (he : env.length ≤ 5000) (hk : Rd.keys.contains n = false) :
    Calls Tryz.prog 109 #[.pointer (some ⟨pb, 0, none⟩), .agg #[.int .i64 p, .slice ad 0 c, .iface 115 (symV n)]] w fun e w' => e = .returned (.iface 178 (nameV n (Rd.findName n env 0))) ∧ Below w.heap.size w w' := by
  have t1 := ta_hit115
  have t3 := fun v w => ta_miss147 115 v w (by decide)
  have t4 := fun v w => ta_miss150 115 v w (by decide)
  have hp2 := hp.kept ((Below.refl _ w).alloc (Nat.le_refl _) (.cells #[.int .i64 p, .slice ad 0 c, .iface 115 (symV n)] 62))
  simp only [symV] at hp2 ⊢
  obtain ⟨⟨T, h1⟩, _, hr, _⟩ := id hp2
  have c2 := cell_of_at h1 2
  simp only [List.getElem?_toArray, List.getElem?_cons_zero, List.getElem?_cons_succ] at c2
  have hlk := lookup_sym Tryz.underlying92 zero188 hr n
  rw [rules_none n hk] at hlk
  simp only [Option.map_none, Option.getD_none] at hlk
  have hq := eqf_nil
  clear h1 hr hk
  go_enter Tryz.func109, Tryz.ntmps109
  go_wp2_with (go_at_call 106; refine (find_any pb sb kb env n _ hp2 (by omega)).mono ?_; rintro e w1 ⟨rfl, hb⟩; simp only [nameV])
  go_ret
  exact ⟨by simp only [nameV]; rfl, ((Below.refl _ w).alloc (Nat.le_refl _) _).trans (hb.mono (by simp))⟩
end Go.Proofs.YtodeeegbajgafaaGreatDoor

namespace Go.Proofs.YtodeeegbajgafaaGreatDoor
open Go.RowKit

theorem RepS.drop {ok : Nat → Prop} {w : World} {g o cap n : Nat} {ds : List Rd.D} (h : RepS ok w (.slice (some ⟨g, o, none⟩) n cap) ds) (k : Nat) (hk : k ≤ ds.length) :
    RepS ok w (.slice (some ⟨g, o + 3 * k, none⟩) (ds.length - k) (cap - k)) (ds.drop k) := by
  rcases h with ⟨h, _⟩ | ⟨g', o', cap', c, T, va, vb, vc, h, hg, hh, hn, hc, hs⟩
  · cases h
  · simp only [Value.slice.injEq, Option.some.injEq, Addr.mk.injEq, and_true] at h
    obtain ⟨⟨rfl, rfl⟩, rfl, rfl⟩ := h
    refine Or.inr ⟨g, o + 3 * k, cap - k, c, T, fun i => va (k + i), fun i => vb (k + i), fun i => vc (k + i), by simp, hg, hh, by simp; omega, ?_, ?_⟩
    · intro i hi
      simp only [List.length_drop] at hi
      have := hc (k + i) (by omega)
      rw [show o + 3 * (k + i) = o + 3 * k + 3 * i by omega] at this
      exact this
    · intro i hi
      simp only [List.length_drop] at hi
      have := hs (k + i) (by omega)
      rw [List.getElem_drop]
      exact this
theorem RepS.len {ok : Nat → Prop} {w : World} {b : Option Addr} {cap n : Nat} {ds : List Rd.D} (h : RepS ok w (.slice b n cap) ds) : n = ds.length ∧ ds.length ≤ cap := by
  rcases h with ⟨h, rfl⟩ | ⟨g', o', cap', c, T, va, vb, vc, h, hg, hh, hn, hc, hs⟩
  · simp at h; exact ⟨h.2.1, Nat.zero_le _⟩
  · simp at h; exact ⟨h.2.1, by omega⟩

/-- What parsing a keyword's list comes to. -/
def RuleR (pb sb kb : Nat) (env : List (List Rd.Sym)) (w : World) (x : Rd.F) (e : Ending) (w' : World) : Prop :=
  ∃ fv, e = .returned fv ∧ RepF (fun k => w.heap.size ≤ k) w' fv x ∧ PAt pb sb kb env w' ∧ Kept (PM pb sb) w w'

/-- A list datum as a value. -/
def lsV (p : Int) (g o n cap : Nat) : Value := .agg #[.int .i64 p, .slice (some ⟨g, o, none⟩) n cap, .iface 146 (.agg #[])]

theorem fresh_of {w w' : World} {o : Obj} {x : Rd.F ⊕ List Rd.F} {fv : Value} (h : RepX (fun k => (w.alloc o).heap.size ≤ k) w' fv x) : RepX (fun k => w.heap.size ≤ k) w' fv x :=
  h.mono fun k _ hge => ⟨by have : w.heap.size + 1 ≤ k := by simpa using hge
                            omega, rfl⟩

set_option maxHeartbeats 1000000 in
set_option maxRecDepth 10000 in
theorem begin_any (f : Nat) (HF : FormsC f) (pb sb kb : Nat) (env : List (List Rd.Sym)) (w : World) (p : Int) (g o cap : Nat) (d0 : Rd.D) (rest : List Rd.D) (xs : List Rd.F) (hp : PAt pb sb kb env w) (hf : env.length + f ≤ 5000)
    (hs : RepS (fun k => ¬ PM pb sb k) w (.slice (some ⟨g, o, none⟩) (rest.length + 1) cap) (d0 :: rest)) (hr : rest ≠ []) (hx : Rd.pForms f env rest = some xs) :
    Calls Tryz.prog 52 #[.pointer (some ⟨pb, 0, none⟩), lsV p g o (rest.length + 1) cap] w (RuleR pb sb kb env w (.begin_ xs)) := by
  have hlen : 0 < rest.length := List.length_pos_iff.2 hr
  have hcap := hs.len.2
  simp only [List.length_cons] at hcap
  have hd := hs.drop 1 (by simp)
  simp only [List.length_cons, List.drop_one, List.tail_cons, Nat.add_sub_cancel, Nat.mul_one] at hd
  have hd2 := hd.mono (ok' := fun k => ¬ PM pb sb k) (w' := w.alloc (.cells #[.int .i64 p, .slice (some ⟨g, o, none⟩) (rest.length + 1) cap, .iface 146 (.agg #[])] 62)) (fun k hk h => ⟨h, Below.heap_alloc _ _ _ hk⟩)
  have hp2 := hp.kept ((Below.refl _ w).alloc (Nat.le_refl _) (.cells #[.int .i64 p, .slice (some ⟨g, o, none⟩) (rest.length + 1) cap, .iface 146 (.agg #[])] 62))
  have HX := (show Hid _ from hx)
  have hshort := (Rd.pForms_short _ _ _ _ hx).1
  clear hx hs hd
  unfold lsV
  go_enter Tryz.func52, Tryz.ntmps52
  go_wp2_with (go_at_call 101; refine (HF pb sb kb env _ rest xs _ hp2 hf hd2 HX.out hr).mono ?_; rintro e w1 ⟨fv, rfl, hrep, hp1, hk1⟩; obtain ⟨fa, fc, rfl, _, _⟩ := RepFs.shape hrep)
  go_ret
  exact ⟨_, rfl, .begin_ _ _ (fresh_of hrep), hp1, ((Kept.refl _ w).alloc _).trans hk1⟩

set_option maxHeartbeats 1000000 in
set_option maxRecDepth 10000 in
theorem reset_any (f : Nat) (HF : FormsC f) (pb sb kb : Nat) (env : List (List Rd.Sym)) (w : World) (p : Int) (g o cap : Nat) (d0 : Rd.D) (rest : List Rd.D) (xs : List Rd.F) (hp : PAt pb sb kb env w) (hf : env.length + f ≤ 5000)
    (hs : RepS (fun k => ¬ PM pb sb k) w (.slice (some ⟨g, o, none⟩) (rest.length + 1) cap) (d0 :: rest)) (hr : rest ≠ []) (hx : Rd.pForms f env rest = some xs) :
    Calls Tryz.prog 57 #[.pointer (some ⟨pb, 0, none⟩), lsV p g o (rest.length + 1) cap] w (RuleR pb sb kb env w (.reset xs)) := by
  have hlen : 0 < rest.length := List.length_pos_iff.2 hr
  have hcap := hs.len.2
  simp only [List.length_cons] at hcap
  have hd := hs.drop 1 (by simp)
  simp only [List.length_cons, List.drop_one, List.tail_cons, Nat.add_sub_cancel, Nat.mul_one] at hd
  have hd2 := hd.mono (ok' := fun k => ¬ PM pb sb k) (w' := w.alloc (.cells #[.int .i64 p, .slice (some ⟨g, o, none⟩) (rest.length + 1) cap, .iface 146 (.agg #[])] 62)) (fun k hk h => ⟨h, Below.heap_alloc _ _ _ hk⟩)
  have hp2 := hp.kept ((Below.refl _ w).alloc (Nat.le_refl _) (.cells #[.int .i64 p, .slice (some ⟨g, o, none⟩) (rest.length + 1) cap, .iface 146 (.agg #[])] 62))
  have HX := (show Hid _ from hx)
  have hshort := (Rd.pForms_short _ _ _ _ hx).1
  clear hx hs hd
  unfold lsV
  go_enter Tryz.func57, Tryz.ntmps57
  go_wp2_with (go_at_call 101; refine (HF pb sb kb env _ rest xs _ hp2 hf hd2 HX.out hr).mono ?_; rintro e w1 ⟨fv, rfl, hrep, hp1, hk1⟩; obtain ⟨fa, fc, rfl, _, _⟩ := RepFs.shape hrep)
  go_ret
  exact ⟨_, rfl, .reset _ _ (fresh_of hrep), hp1, ((Kept.refl _ w).alloc _).trans hk1⟩

set_option maxHeartbeats 1000000 in
set_option maxRecDepth 10000 in
theorem until_any (f : Nat) (HF : FormsC f) (pb sb kb : Nat) (env : List (List Rd.Sym)) (w : World) (p : Int) (g o cap : Nat) (d0 : Rd.D) (rest : List Rd.D) (xs : List Rd.F) (hp : PAt pb sb kb env w) (hf : env.length + f ≤ 5000)
    (hs : RepS (fun k => ¬ PM pb sb k) w (.slice (some ⟨g, o, none⟩) (rest.length + 1) cap) (d0 :: rest)) (hr : rest ≠ []) (hx : Rd.pForms f env rest = some xs) :
    Calls Tryz.prog 107 #[.pointer (some ⟨pb, 0, none⟩), .bool true, lsV p g o (rest.length + 1) cap] w (RuleR pb sb kb env w (.until_ true xs)) := by
  have hlen : 0 < rest.length := List.length_pos_iff.2 hr
  have hcap := hs.len.2
  simp only [List.length_cons] at hcap
  have hd := hs.drop 1 (by simp)
  simp only [List.length_cons, List.drop_one, List.tail_cons, Nat.add_sub_cancel, Nat.mul_one] at hd
  have hd2 := hd.mono (ok' := fun k => ¬ PM pb sb k) (w' := w.alloc (.cells #[.int .i64 p, .slice (some ⟨g, o, none⟩) (rest.length + 1) cap, .iface 146 (.agg #[])] 62)) (fun k hk h => ⟨h, Below.heap_alloc _ _ _ hk⟩)
  have hp2 := hp.kept ((Below.refl _ w).alloc (Nat.le_refl _) (.cells #[.int .i64 p, .slice (some ⟨g, o, none⟩) (rest.length + 1) cap, .iface 146 (.agg #[])] 62))
  have HX := (show Hid _ from hx)
  have hshort := (Rd.pForms_short _ _ _ _ hx).1
  clear hx hs hd
  unfold lsV
  go_enter Tryz.func107, Tryz.ntmps107
  go_wp2_with (go_at_call 101; refine (HF pb sb kb env _ rest xs _ hp2 hf hd2 HX.out hr).mono ?_; rintro e w1 ⟨fv, rfl, hrep, hp1, hk1⟩; obtain ⟨fa, fc, rfl, _, _⟩ := RepFs.shape hrep)
  go_ret
  exact ⟨_, rfl, .until_ _ _ _ (fresh_of hrep), hp1, ((Kept.refl _ w).alloc _).trans hk1⟩

set_option maxHeartbeats 1000000 in
theorem or_any (f : Nat) (HF : FormsC f) (pb sb kb : Nat) (env : List (List Rd.Sym)) (w : World) (p : Int) (g o cap : Nat) (d0 : Rd.D) (rest : List Rd.D) (xs : List Rd.F) (hp : PAt pb sb kb env w) (hf : env.length + f ≤ 5000)
    (hs : RepS (fun k => ¬ PM pb sb k) w (.slice (some ⟨g, o, none⟩) (rest.length + 1) cap) (d0 :: rest)) (hr : rest ≠ []) (hx : Rd.pForms f env rest = some xs) :
    Calls Tryz.prog 56 #[.pointer (some ⟨pb, 0, none⟩), lsV p g o (rest.length + 1) cap] w (RuleR pb sb kb env w (.until_ true xs)) := by
  have hd2 := hs.mono (ok' := fun k => ¬ PM pb sb k) (w' := w.alloc (.cells #[.int .i64 p, .slice (some ⟨g, o, none⟩) (rest.length + 1) cap, .iface 146 (.agg #[])] 62)) (fun k hk h => ⟨h, Below.heap_alloc _ _ _ hk⟩)
  have hp2 := hp.kept ((Below.refl _ w).alloc (Nat.le_refl _) (.cells #[.int .i64 p, .slice (some ⟨g, o, none⟩) (rest.length + 1) cap, .iface 146 (.agg #[])] 62))
  have HX := (show Hid _ from hx)
  clear hx
  unfold lsV
  go_enter Tryz.func56, Tryz.ntmps56
  go_wp2_with (go_at_call 107; refine (until_any f HF pb sb kb env _ p g o cap d0 rest xs hp2 hf hd2 hr HX.out).mono ?_; rintro e w1 ⟨fv, rfl, hrep, hp1, hk1⟩)
  go_ret
  exact ⟨_, rfl, fresh_of hrep, hp1, ((Kept.refl _ w).alloc _).trans hk1⟩
end Go.Proofs.YtodeeegbajgafaaGreatDoor

namespace Go.Proofs.YtodeeegbajgafaaGreatDoor
open Go.RowKit

/-- A part of a list that is a symbol: its three cells. -/
theorem RepS.symAt {ok : Nat → Prop} {w : World} {g o cap n : Nat} {ds : List Rd.D} (h : RepS ok w (.slice (some ⟨g, o, none⟩) n cap) ds) (i : Nat) (hi : i < ds.length) {p : Nat} {m : Rd.Sym} (hd : ds[i] = .mk p [] (.sym m)) :
    ∃ po pc, w.cell? ⟨g, o + 3 * i, none⟩ = some (.int .i64 p) ∧ w.cell? ⟨g, o + 3 * i + 1, none⟩ = some (.slice po 0 pc) ∧ w.cell? ⟨g, o + 3 * i + 2, none⟩ = some (.iface 115 (.string ⟨m.toArray⟩)) := by
  obtain ⟨g', o', cap', pp, po, pn, pc, ti, xv, heq, _, _, d0, d1, d2, hrep⟩ := h.cells i hi
  simp only [Value.slice.injEq, Option.some.injEq, Addr.mk.injEq, and_true] at heq
  obtain ⟨⟨rfl, rfl⟩, _, rfl⟩ := heq
  rw [hd] at hrep
  obtain ⟨sl', hv', hsl'⟩ := hrep.inv
  simp only [aV, Value.agg.injEq, Array.mk.injEq, List.cons.injEq, and_true, Value.iface.injEq] at hv'
  obtain ⟨h1, h2, rfl, rfl⟩ := hv'
  subst h2
  have := hsl'.len.1
  simp at this
  subst this
  exact ⟨po, pc, by rw [d0, h1], d1, d2⟩

theorem RepN.one (w : World) (n : Rd.Sym) (ok : Nat → Prop) (h : ok w.heap.size) : RepN ok (w.alloc (.cells #[.string ⟨n.toArray⟩] 115)) (.slice (some ⟨w.heap.size, 0, none⟩) 1 1) [n] :=
  Or.inr ⟨w.heap.size, 1, #[.string ⟨n.toArray⟩], 115, rfl, h, at_new _ _, Nat.le_refl _, fun i hi => by
    have : i = 0 := by simp at hi; exact hi
    subst this; rfl⟩
theorem differ_one (n : Rd.Sym) : Differ [n] := fun i j hi hj hij => by simp at hi hj; omega

set_option maxHeartbeats 1000000 in
set_option maxRecDepth 10000 in
theorem shift_any (f : Nat) (HF : FormsC f) (pb sb kb : Nat) (env : List (List Rd.Sym)) (w : World) (p : Int) (g o cap : Nat) (d0 nm : Rd.D) (rest : List Rd.D) (n : Rd.Sym) (xs : List Rd.F) (hp : PAt pb sb kb env w) (hf : env.length + 1 + f ≤ 5000)
    (hs : RepS (fun k => ¬ PM pb sb k) w (.slice (some ⟨g, o, none⟩) (rest.length + 2) cap) (d0 :: nm :: rest)) (hr : rest ≠ []) (hn : nm.name = some n) (hx : Rd.pForms f ([n] :: env) rest = some xs) :
    Calls Tryz.prog 58 #[.pointer (some ⟨pb, 0, none⟩), lsV p g o (rest.length + 2) cap] w (RuleR pb sb kb env w (.shift xs)) := by
  have hlen : 0 < rest.length := List.length_pos_iff.2 hr
  have hcap := hs.len.2
  simp only [List.length_cons] at hcap
  have hlp := hp.lt
  obtain ⟨p', hd', hkey⟩ := sym_of_name hn
  generalize hB : Obj.cells #[.int .i64 p, .slice (some ⟨g, o, none⟩) (rest.length + 2) cap, .iface 146 (.agg #[])] 62 = B
  have hs2 := hs.mono (ok' := fun k => ¬ PM pb sb k) (w' := w.alloc B) (fun k hk h => ⟨h, Below.heap_alloc _ _ _ hk⟩)
  obtain ⟨po, pc, e0, e1, e2⟩ := hs2.symAt 1 (by simp) (p := p') (m := n) hd'
  simp only [Nat.mul_one] at e0 e1 e2
  have hp2 := hp.kept ((Below.refl _ w).alloc (Nat.le_refl _) B)
  have hd := hs2.drop 2 (by simp)
  simp only [List.length_cons, List.drop_succ_cons, List.drop_zero, show rest.length + 1 + 1 - 2 = rest.length by omega, show 3 * 2 = 6 by omega] at hd
  have HX := (show Hid _ from hx)
  have HK := (show Hid _ from hkey)
  have hshort := (Rd.pForms_short _ _ _ _ hx).1
  subst hB
  clear hx hs hs2 hn hd' hkey
  unfold lsV
  go_enter Tryz.func58, Tryz.ntmps58
  go_wp2_with (first | (go_at_call 105; refine (nameOf_any pb sb kb env _ po pc n _ hp2 HK.out).mono ?_; rintro e w1 ⟨rfl, hb1⟩; simp only [symV]; have hsz1 : w.heap.size < w1.heap.size := (by have := hb1.size; simp at this; omega); obtain ⟨q0, q1, q2, _, _, _⟩ := cells3 (Below.at hb1 (at_new w _))))
  have hbA : Below (w.alloc (.cells #[.int .i64 p, .slice (some ⟨g, o, none⟩) (rest.length + 2) cap, .iface 146 (.agg #[])] 62)).heap.size (w.alloc (.cells #[.int .i64 p, .slice (some ⟨g, o, none⟩) (rest.length + 2) cap, .iface 146 (.agg #[])] 62)) (w1.alloc (.cells #[.string ⟨n.toArray⟩] 115)) := hb1.alloc hb1.size _
  have hd3 := hd.mono (ok' := fun k => ¬ PM pb sb k) (fun k hk h => ⟨h, hbA.block k hk⟩)
  refine (formsWithin_any f HF pb sb kb env _ [n] _ rest xs _ (hp2.kept hbA) hf (by simp) (RepN.one w1 n _ (fun h => by rcases h with h | h <;> omega)) (differ_one n) hd3 HX.out hr).mono ?_
  rintro e w2 ⟨fv, rfl, hrep, hp3, hk3⟩
  obtain ⟨fa, fc, rfl, _, _⟩ := RepFs.shape hrep
  go_wp2
  go_ret
  refine ⟨_, rfl, .shift _ _ (hrep.mono fun k _ hge => ⟨?_, rfl⟩), hp3, ?_⟩
  · have : w1.heap.size + 1 ≤ k := by simpa using hge
    omega
  · exact (Kept.of_below (((Below.refl _ w).alloc (Nat.le_refl _) _).trans (hbA.mono (by simp))) _).trans hk3

set_option maxHeartbeats 1000000 in
set_option maxRecDepth 10000 in
theorem quote_any (pb sb kb : Nat) (env : List (List Rd.Sym)) (w : World) (p : Int) (g o cap : Nat) (d0 : Rd.D) (q : Nat) (a : Rd.A) (hp : PAt pb sb kb env w)
    (hs : RepS (fun k => ¬ PM pb sb k) w (.slice (some ⟨g, o, none⟩) 2 cap) [d0, .mk q [] a]) :
    Calls Tryz.prog 49 #[.pointer (some ⟨pb, 0, none⟩), lsV p g o 2 cap] w (RuleR pb sb kb env w (.const a)) := by
  have hcap := hs.len.2
  simp only [List.length_cons, List.length_nil] at hcap
  have hs2 := hs.mono (ok' := fun k => ¬ PM pb sb k) (w' := w.alloc (.cells #[.int .i64 p, .slice (some ⟨g, o, none⟩) 2 cap, .iface 146 (.agg #[])] 62)) (fun k hk h => ⟨h, Below.heap_alloc _ _ _ hk⟩)
  obtain ⟨g', o', cap', pp, po, pn, pc, ti, xv, heq, _, _, e0, e1, e2, hrep⟩ := hs2.cells 1 (by simp)
  simp only [Value.slice.injEq, Option.some.injEq, Addr.mk.injEq, and_true] at heq
  obtain ⟨⟨rfl, rfl⟩, _, rfl⟩ := heq
  simp only [List.getElem_cons_succ, List.getElem_cons_zero] at hrep
  obtain ⟨sl', hv', hsl'⟩ := hrep.inv
  simp only [Value.agg.injEq, Array.mk.injEq, List.cons.injEq, and_true] at hv'
  obtain ⟨h1, h2, h3⟩ := hv'
  subst h2
  have := hsl'.len.1
  simp at this
  subst this
  simp only [Nat.mul_one] at e0 e1 e2
  have HV : Hid (∀ W, Calls Tryz.prog 25 #[.agg #[.int .i64 pp, .slice po 0 pc, .iface ti xv]] W fun e w' => e = .returned (.iface ti xv) ∧ Below W.heap.size W w') := by
    intro W
    rw [h3]
    exact value_leaf _ _ _ _ _
  have HA := (show Hid _ from h3)
  clear h1 h3 hsl' hrep hs hs2
  unfold lsV
  go_enter Tryz.func49, Tryz.ntmps49
  go_wp2_with (go_at_call 25; refine (HV.out _).mono ?_; rintro e w1 ⟨rfl, hb⟩)
  go_ret
  have hb2 : Below w.heap.size w w1 := ((Below.refl _ w).alloc (Nat.le_refl _) _).trans (hb.mono (by simp))
  refine ⟨_, rfl, ?_, hp.kept hb2, Kept.of_below hb2 _⟩
  show RepF _ _ (.iface 163 (.agg #[.iface ti xv])) _
  rw [HA.out]
  exact .const a
end Go.Proofs.YtodeeegbajgafaaGreatDoor
