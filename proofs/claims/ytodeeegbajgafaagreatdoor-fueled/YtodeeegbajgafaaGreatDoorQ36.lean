/- The parser notes a datum that is no form. The name that any datum is, and the names that any data are. The names that any data are, if all are names and different. Forms of data, one behind the other, whatever the data are. Forms in a scope of their own, whatever the data are. The rules of begin, reset, and, or, for any parts. Written by gen_krules.py. -/
import Derived.Test.YtodeeegbajgafaaGreatDoorQ14
import Derived.Test.YtodeeegbajgafaaGreatDoorQ01
import Derived.Test.YtodeeegbajgafaaGreatDoorQ18
import Derived.Test.YtodeeegbajgafaaGreatDoorQ15
import Derived.Deep.AppendLies
import Derived.Deep.RegionHeld3
import Derived.Deep.RegionLaw
namespace Go.Proofs.YtodeeegbajgafaaGreatDoor
open Go.RowKit
/-- What parsing may write: the parser, its slots, and the faults. -/
def PMK (pb sb : Nat) (fv : Value) : Nat → Prop := fun k => k = pb ∨ k = sb ∨ fv.ownBlock = some k
/-- The faults that were noted: how many, and the place of the first. -/
structure Flt (fl : Option Nat) (fv : Value) (n : Nat) (w : World) : Prop where
  row : ∃ cs, w.ownsRow 0 62 3 fv n cs ∧ ∀ q, fl = some q → cs[0]? = some (.int .i64 q)
  none : fl = none → n = 0
  some : ∀ q, fl = some q → 0 < n
/-- The parser, with faults. -/
structure PAtK (pb sb kb : Nat) (env : List (List Rd.Sym)) (fl : Option Nat) (fv : Value) (n : Nat) (w : World) : Prop where
  par : PAtV fv pb sb kb env w
  flt : Flt fl fv n w
  away : ∀ k, fv.ownBlock = some k → k ≠ pb ∧ k ≠ sb ∧ k ≠ kb
/-- Where the faults lie now: where they lay, or in new memory. -/
def NewF (w : World) (fv fv' : Value) : Prop := ∀ k, fv'.ownBlock = some k → fv.ownBlock = some k ∨ w.heap.size ≤ k
theorem PAtK.kept {pb sb kb : Nat} {env : List (List Rd.Sym)} {fl : Option Nat} {fv : Value} {n : Nat} {w w' : World} (h : PAtK pb sb kb env fl fv n w) (hb : Below w.heap.size w w') : PAtK pb sb kb env fl fv n w' := by
  obtain ⟨h1, ⟨⟨cs, h2, h3⟩, h4, h5⟩, h6⟩ := h
  exact ⟨h1.kept hb, ⟨⟨cs, ownsRow_kept' h2 hb, h3⟩, h4, h5⟩, h6⟩
theorem PAtK.own_lt {pb sb kb : Nat} {env : List (List Rd.Sym)} {fl : Option Nat} {fv : Value} {n : Nat} {w : World} (h : PAtK pb sb kb env fl fv n w) : ∀ k, fv.ownBlock = some k → k < w.heap.size := by
  obtain ⟨_, ⟨⟨cs, h2, _⟩, _, _⟩, _⟩ := h
  intro k hk
  exact (ownBlock_of h2 k hk).2
theorem NewF.refl (w : World) (fv : Value) : NewF w fv fv := fun _ h => .inl h
theorem NewF.trans {w w' : World} {a b c : Value} (h : NewF w a b) (k : NewF w' b c) (hs : w.heap.size ≤ w'.heap.size) : NewF w a c := fun x hx => by
  rcases k x hx with h1 | h1
  · exact h x h1
  · exact .inr (by omega)
theorem keptK_trans {pb sb : Nat} {fv fv' : Value} {w w' w'' : World} (h : Kept (PMK pb sb fv) w w') (k : Kept (PMK pb sb fv') w' w'') (hn : NewF w fv fv') : Kept (PMK pb sb fv) w w'' := by
  refine ⟨k.os.trans h.os, k.tape.trans h.tape, k.output.trans h.output, Nat.le_trans h.size k.size, fun j hj hm => ?_⟩
  rw [k.block j (Nat.lt_of_lt_of_le hj h.size) fun e => ?_]
  · exact h.block j hj hm
  · rcases e with e | e | e
    · exact hm (.inl e)
    · exact hm (.inr (.inl e))
    · rcases hn j e with h1 | h1
      · exact hm (.inr (.inr h1))
      · omega
/-- What lies outside is as it was. -/
theorem keptK_rep {pb sb : Nat} {fv fv' : Value} {w w' : World} (h : Kept (PMK pb sb fv) w w') (hn : NewF w fv fv') : ∀ k, k < w.heap.size → ¬ PMK pb sb fv k → ¬ PMK pb sb fv' k ∧ w'.heap[k]? = w.heap[k]? := fun k hk hm => by
  refine ⟨fun e => ?_, h.block k hk hm⟩
  rcases e with e | e | e
  · exact hm (.inl e)
  · exact hm (.inr (.inl e))
  · rcases hn k e with h1 | h1
    · exact hm (.inr (.inr h1))
    · omega
def isI (v : Value) : Prop := v = .nilIface ∨ ∃ t x, v = .iface t x
theorem owned_at {B e z n : Nat} {v : Value} {xs : List Value} {w : World} (h : w.ownsRow B e z v n xs) {g : Nat} (hg : v.ownBlock = some g) : ∃ cur cap, w.heap[g]? = some (.cells cur e (0, 0)) ∧ v = .slice (some ⟨g, 0, none⟩) n cap ∧ n ≤ cap ∧ cap ≤ maxLen ∧ cur.size = cap * z ∧ cur.toList.take (n * z) = xs := by
  obtain ⟨_, ⟨rfl, _⟩ | ⟨g', cap, cur, rfl, _, hh, h1, h2, h3, h4⟩⟩ := h
  · cases hg
  · cases hg
    exact ⟨cur, cap, hh, rfl, h1, h2, h3, h4⟩
/-- What is known behind the append of a fault, when it is stored and the parser holds the new slice. -/
theorem refused {pb sb kb : Nat} {env : List (List Rd.Sym)} {fl : Option Nat} {fa : Option Addr} {fn fc : Nat} {w w1 w6 W' : World} {p : Nat} {cs : List Value} {g6 cap6 : Nat} {cur : Array Value} {T : TypeId} {b c : Value} {zs : List Value} (h : PAtK pb sb kb env fl (.slice fa fn fc) fn w) (hown : w.ownsRow 0 62 3 (.slice fa fn fc) fn cs) (hf : ∀ q, fl = some q → cs[0]? = some (.int .i64 q)) (hB : Below w.heap.size w w1)
    (hown6 : w6.ownsRow 0 62 3 (.slice (some ⟨g6, 0, none⟩) (fn + 1) cap6) (fn + 1) (cs ++ zs)) (hgrow : w1.grownBy w6 (Value.slice fa fn fc).ownBlock) (hat : (Value.slice fa fn fc).ownBlock = some g6 ∨ w.heap.size ≤ g6) (hc6 : w6.heap[g6]? = some (.cells cur 62 (0, 0)))
    (hK : Kept (fun k => k = pb ∨ k = g6) w6 W') (h1 : W'.heap[pb]? = some (.cells #[.map (some sb), .int .i64 env.length, .map (some kb), .slice (some ⟨g6, 0, none⟩) (fn + 1) cap6] T (0, 0))) (h2 : W'.heap[g6]? = some (.cells (((cur.setIfInBounds (fn * 3) (.int .i64 p)).setIfInBounds (fn * 3 + 1) b).setIfInBounds (fn * 3 + 2) c) 62 (0, 0))) :
    ∃ fv', PAtK pb sb kb env (some (fl.getD p)) fv' (fn + 1) W' ∧ Kept (PMK pb sb (.slice fa fn fc)) w W' ∧ NewF w (.slice fa fn fc) fv' := by
  have hlp := h.par.lt
  have hs1 := hB.size
  have hs6 := hgrow.size
  have hblk : ∀ k, k < w.heap.size → ¬ PMK pb sb (.slice fa fn fc) k → w6.heap[k]? = w.heap[k]? := fun k hk hm => (hgrow.block k (by omega) (fun e => hm (.inr (.inr e.symm)))).trans (hB.block k hk)
  have hg6 : ∀ k, k < w.heap.size → (Value.slice fa fn fc).ownBlock ≠ some k → k ≠ g6 := fun k hk hn e => by
    rcases hat with e' | e'
    · exact hn (e ▸ e')
    · omega
  have hkeep : ∀ k, k < w.heap.size → k ≠ pb → (Value.slice fa fn fc).ownBlock ≠ some k → W'.heap[k]? = w.heap[k]? := fun k hk h1 h2 => by
    rw [hK.block k (by omega) (fun e => by rcases e with e | e; exact h1 e; exact hg6 k hk h2 e)]
    exact (hgrow.block k (by omega) (fun e => h2 e.symm)).trans (hB.block k hk)
  obtain ⟨⟨T0, hpb⟩, ⟨es, cl, hsl, hsl'⟩, ⟨fs, d, hru, hru'⟩, hap⟩ := h.par
  have aw := h.away
  obtain ⟨cur', cap', hcc, hv', hle, hmx, hsz, htk⟩ := owned_at hown6 (g := g6) rfl
  rw [hc6] at hcc
  cases hcc
  cases hv'
  have hnsb : (Value.slice fa fn fc).ownBlock ≠ some sb := fun e => (aw sb e).2.1 rfl
  have hnkb : (Value.slice fa fn fc).ownBlock ≠ some kb := fun e => (aw kb e).2.2 rfl
  have hnpb : (Value.slice fa fn fc).ownBlock ≠ some pb := fun e => (aw pb e).1 rfl
  refine ⟨.slice (some ⟨g6, 0, none⟩) (fn + 1) cap6, ⟨⟨⟨T, h1⟩, ⟨es, cl, ?_, hsl'⟩, ⟨fs, d, ?_, hru'⟩, hap⟩, ⟨⟨(((cur.setIfInBounds (fn * 3) (.int .i64 p)).setIfInBounds (fn * 3 + 1) b).setIfInBounds (fn * 3 + 2) c).toList.take ((fn + 1) * 3), ?_, ?_⟩, (fun e => by cases e), (fun _ _ => by omega)⟩, ?_⟩, ?_, ?_⟩
  · rw [hkeep sb (lt_of_at hsl) (fun e => hap.1 e.symm) hnsb]; exact hsl
  · rw [hkeep kb (lt_of_at hru) (fun e => hap.2.1 e.symm) hnkb]; exact hru
  · refine ⟨?_, .inr ⟨g6, cap6, _, rfl, Nat.zero_le _, h2, hle, hmx, ?_, rfl⟩⟩
    · rw [List.length_take]
      simp only [Array.length_toList, Array.size_setIfInBounds]
      omega
    · simp only [Array.size_setIfInBounds]
      exact hsz
  · intro q hq
    cases hq
    rw [List.getElem?_take, if_pos (by omega), Array.getElem?_toList]
    cases fl with
    | none =>
      have h0 : fn = 0 := h.flt.none rfl
      subst h0
      have hlt : 0 < cur.size := by omega
      simp [hlt]
    | some q =>
      have hpos := h.flt.some q rfl
      have h0 := hf q rfl
      rw [Array.getElem?_setIfInBounds_ne (by omega), Array.getElem?_setIfInBounds_ne (by omega), Array.getElem?_setIfInBounds_ne (by omega)]
      have h3 : (cur.toList.take ((fn + 1) * 3))[0]? = (cs ++ zs)[0]? := by rw [htk]
      rw [List.getElem?_take, if_pos (by omega), Array.getElem?_toList] at h3
      rw [h3, List.getElem?_append_left (by have := hown.1; omega)]
      exact h0
  · intro k hk
    obtain rfl : g6 = k := by simpa [Value.ownBlock] using hk
    rcases hat with e | e
    · exact aw g6 e
    · omega
  · refine ⟨hK.os.trans (hgrow.os.trans hB.os), hK.tape.trans (hgrow.tape.trans hB.tape), hK.output.trans (hgrow.output.trans hB.output), by have := hK.size; omega, fun k hk hm => hkeep k hk (fun e => hm (.inl e)) (fun e => hm (.inr (.inr e)))⟩
  · intro k hk
    obtain rfl : g6 = k := by simpa [Value.ownBlock] using hk
    exact hat
set_option maxHeartbeats 4000000 in
set_option maxRecDepth 20000 in
theorem refuse_k (pb sb kb : Nat) (env : List (List Rd.Sym)) (fl : Option Nat) (fv : Value) (n : Nat) (w : World) (p : Nat) (sa : Option Addr) (sn sc : Nat) (ti : TypeId) (xv : Value) (h : PAtK pb sb kb env fl fv n w) (hn : n + 1 ≤ 100000) :
    Calls Tryz.prog 59 #[.pointer (some ⟨pb, 0, none⟩), .agg #[.int .i64 p, .slice sa sn sc, .iface ti xv]] w fun e w' => e = .returned .nilIface ∧ ∃ fv', PAtK pb sb kb env (some (fl.getD p)) fv' (n + 1) w' ∧ Kept (PMK pb sb fv) w w' ∧ NewF w fv fv' := by
  obtain ⟨i0, hi, hz0, hz1, hz2⟩ := info_parts Tryz.info62
  have hlp := h.par.lt
  have hB : Below w.heap.size w (w.alloc (.cells #[.int .i64 p, .slice sa sn sc, .iface ti xv] 62)) := (Below.refl _ w).alloc (Nat.le_refl _) _
  have h1 := h.kept hB
  obtain ⟨cs, hown, hfirst⟩ := h.flt.row
  obtain ⟨fa, fn, fc, rfl⟩ : ∃ a k c, fv = .slice a k c := by
    obtain ⟨_, ⟨rfl, _⟩ | ⟨g, cap, cur, rfl, _⟩⟩ := id hown <;> exact ⟨_, _, _, rfl⟩
  obtain rfl : fn = n := by
    obtain ⟨_, ⟨e, e'⟩ | ⟨g, cap, cur, e, _⟩⟩ := hown
    · cases e; exact e'.symm
    · cases e; rfl
  obtain ⟨⟨T, hpb⟩, _, _, hap⟩ := id h.par
  have haw := h.away
  have hol := h.own_lt
  have hZ : Below w.heap.size w (((w.alloc (.cells #[.int .i64 p, .slice sa sn sc, .iface ti xv] 62)).drew).alloc (.cells #[.int .i64 0, .slice none 0 0, .nilIface] 62)) := (hB.drew).alloc (by simp) _
  have q3 := cell_of_at (Below.at hB hpb) 3
  have q3' := cell_of_at (Below.at hZ hpb) 3
  simp only [List.getElem?_toArray, List.getElem?_cons_zero, List.getElem?_cons_succ] at q3 q3'
  have HOWN : Hid ((((w.alloc (.cells #[.int .i64 p, .slice sa sn sc, .iface ti xv] 62)).drew).alloc (.cells #[.int .i64 0, .slice none 0 0, .nilIface] 62)).ownsRow 0 62 3 (.slice fa fn fc) fn cs) := ownsRow_kept' hown hZ
  obtain ⟨c0, c1, c2, _, _, _⟩ := cells3 (at_new w (.cells #[.int .i64 p, .slice sa sn sc, .iface ti xv] 62))
  obtain ⟨c0', c1', c2', _, _, _⟩ := cells3 (at_alloc (at_drew (at_new w (.cells #[.int .i64 p, .slice sa sn sc, .iface ti xv] 62))) (.cells #[.int .i64 0, .slice none 0 0, .nilIface] 62))
  have HF := (show Hid _ from hfirst)
  have HH : Hid (PAtK pb sb kb env fl (.slice fa fn fc) fn w) := h
  have HNEW : Hid (∀ j u, [Value.int .i64 0, .slice none 0 0, .nilIface][j]? = some u → (((w.alloc (.cells #[.int .i64 p, .slice sa sn sc, .iface ti xv] 62)).drew).alloc (.cells #[.int .i64 0, .slice none 0 0, .nilIface] 62)).cell? ((⟨w.heap.size + 1, 0, none⟩ : Addr).add j) = some u) := by
    have hat := at_new ((w.alloc (.cells #[.int .i64 p, .slice sa sn sc, .iface ti xv] 62)).drew) (.cells #[.int .i64 0, .slice none 0 0, .nilIface] 62)
    have e : ((w.alloc (.cells #[.int .i64 p, .slice sa sn sc, .iface ti xv] 62)).drew).heap.size = w.heap.size + 1 := by simp [World.drew]
    rw [e] at hat
    exact World.news_of_block hat
  have H6 : Hid (∀ g6 cap6 w6, w6.ownsRow 0 62 3 (.slice (some ⟨g6, 0, none⟩) (fn + 1) cap6) (fn + 1) (cs ++ [.int .i64 0, .slice none 0 0, .nilIface]) → World.grownBy (((w.alloc (.cells #[.int .i64 p, .slice sa sn sc, .iface ti xv] 62)).drew).alloc (.cells #[.int .i64 0, .slice none 0 0, .nilIface] 62)) w6 (Value.slice fa fn fc).ownBlock → ((Value.slice fa fn fc).ownBlock = some g6 ∨ g6 = w.heap.size + 2) →
      w6.heap[pb]? = some (.cells #[.map (some sb), .int .i64 env.length, .map (some kb), .slice fa fn fc] T (0, 0)) ∧ w6.heap[w.heap.size]? = some (.cells #[.int .i64 p, .slice sa sn sc, .iface ti xv] 62 (0, 0)) ∧ g6 ≠ pb ∧ g6 ≠ w.heap.size ∧ (∃ cur, w6.heap[g6]? = some (.cells cur 62 (0, 0)) ∧ fn * 3 + 3 ≤ cur.size)) := by
    intro g6 cap6 w6 hown6 hgrow6 hat6
    have hs := hgrow6.size
    have hs2 : (((w.alloc (.cells #[.int .i64 p, .slice sa sn sc, .iface ti xv] 62)).drew).alloc (.cells #[.int .i64 0, .slice none 0 0, .nilIface] 62)).heap.size = w.heap.size + 2 := by simp [World.drew]
    obtain ⟨cur, cap', hcc, hv', hle, hmx, hsz, htk⟩ := owned_at hown6 (g := g6) rfl
    cases hv'
    refine ⟨(hgrow6.block pb (by omega) (fun e => (haw pb e.symm).1 rfl)).trans (Below.at hZ hpb), (hgrow6.block _ (by omega) (fun e => by have := hol _ e.symm; omega)).trans (at_alloc (at_drew (at_new w _)) _), ?_, ?_, cur, hcc, by omega⟩
    · rcases hat6 with e | e
      · exact (haw g6 e).1
      · omega
    · rcases hat6 with e | e
      · have := hol g6 e; omega
      · omega
  have HFIN : Hid (∀ (g6 cap6 : Nat) (w6 W' : World) (cur : Array Value), w6.ownsRow 0 62 3 (.slice (some ⟨g6, 0, none⟩) (fn + 1) cap6) (fn + 1) (cs ++ [.int .i64 0, .slice none 0 0, .nilIface]) → World.grownBy (((w.alloc (.cells #[.int .i64 p, .slice sa sn sc, .iface ti xv] 62)).drew).alloc (.cells #[.int .i64 0, .slice none 0 0, .nilIface] 62)) w6 (Value.slice fa fn fc).ownBlock → ((Value.slice fa fn fc).ownBlock = some g6 ∨ g6 = w.heap.size + 2) → w6.heap[g6]? = some (.cells cur 62 (0, 0)) → Kept (fun k => k = pb ∨ k = g6) w6 W' → W'.heap[pb]? = some (.cells #[.map (some sb), .int .i64 env.length, .map (some kb), .slice (some ⟨g6, 0, none⟩) (fn + 1) cap6] T (0, 0)) → W'.heap[g6]? = some (.cells (((cur.setIfInBounds (fn * 3) (.int .i64 p)).setIfInBounds (fn * 3 + 1) (.slice sa sn sc)).setIfInBounds (fn * 3 + 2) (.iface ti xv)) 62 (0, 0)) → ∃ fv', PAtK pb sb kb env (some (fl.getD p)) fv' (fn + 1) W' ∧ Kept (PMK pb sb (.slice fa fn fc)) w W' ∧ NewF w (.slice fa fn fc) fv') := fun g6 cap6 w6 W' cur a1 a2 a3 a4 a5 a6 a7 => refused h hown hfirst hZ a1 a2 (a3.imp id (fun e => by omega)) a4 a5 a6 a7
  have HA : Hid (∀ (g6 cap6 : Nat) (w6 : World) (cur : Array Value), w6.ownsRow 0 62 3 (.slice (some ⟨g6, 0, none⟩) (fn + 1) cap6) (fn + 1) (cs ++ [.int .i64 0, .slice none 0 0, .nilIface]) → World.grownBy (((w.alloc (.cells #[.int .i64 p, .slice sa sn sc, .iface ti xv] 62)).drew).alloc (.cells #[.int .i64 0, .slice none 0 0, .nilIface] 62)) w6 (Value.slice fa fn fc).ownBlock → ((Value.slice fa fn fc).ownBlock = some g6 ∨ g6 = w.heap.size + 2) → w6.heap[g6]? = some (.cells cur 62 (0, 0)) → w6.heap[pb]? = some (.cells #[.map (some sb), .int .i64 env.length, .map (some kb), .slice fa fn fc] T (0, 0)) → g6 ≠ pb → ∃ fv', PAtK pb sb kb env (some (fl.getD p)) fv' (fn + 1) ((((w6.setCell ⟨g6, fn * 3, none⟩ (.int .i64 p)).setCell ⟨g6, fn * 3 + 1, none⟩ (.slice sa sn sc)).setCell ⟨g6, fn * 3 + 2, none⟩ (.iface ti xv)).setCell ⟨pb, 3, none⟩ (.slice (some ⟨g6, 0, none⟩) (fn + 1) cap6)) ∧ Kept (PMK pb sb (.slice fa fn fc)) w ((((w6.setCell ⟨g6, fn * 3, none⟩ (.int .i64 p)).setCell ⟨g6, fn * 3 + 1, none⟩ (.slice sa sn sc)).setCell ⟨g6, fn * 3 + 2, none⟩ (.iface ti xv)).setCell ⟨pb, 3, none⟩ (.slice (some ⟨g6, 0, none⟩) (fn + 1) cap6)) ∧ NewF w (.slice fa fn fc) fv') := fun g6 cap6 w6 cur a1 a2 a3 a4 hp6 n1 => HFIN.out g6 cap6 w6 _ cur a1 a2 a3 a4 (((((Kept.refl _ w6).setCell (p := ⟨g6, fn * 3, none⟩) (fun _ => .inr rfl) _).setCell (p := ⟨g6, fn * 3 + 1, none⟩) (fun _ => .inr rfl) _).setCell (p := ⟨g6, fn * 3 + 2, none⟩) (fun _ => .inr rfl) _).setCell (p := ⟨pb, 3, none⟩) (fun _ => .inl rfl) _) (by rw [at_setCell (at_setCell_ne (at_setCell_ne (at_setCell_ne hp6 ⟨g6, fn * 3, none⟩ (Ne.symm n1) _) ⟨g6, fn * 3 + 1, none⟩ (Ne.symm n1) _) ⟨g6, fn * 3 + 2, none⟩ (Ne.symm n1) _) 3 _]; rfl) (at_setCell_ne ((at_setCell (at_setCell (at_setCell a4 (fn * 3) _) (fn * 3 + 1) _) (fn * 3 + 2) _)) ⟨pb, 3, none⟩ n1 _)
  have HBB : Hid (∀ (g6 cap6 : Nat) (w6 : World) (cur : Array Value), w6.ownsRow 0 62 3 (.slice (some ⟨g6, 0, none⟩) (fn + 1) cap6) (fn + 1) (cs ++ [.int .i64 0, .slice none 0 0, .nilIface]) → World.grownBy (((w.alloc (.cells #[.int .i64 p, .slice sa sn sc, .iface ti xv] 62)).drew).alloc (.cells #[.int .i64 0, .slice none 0 0, .nilIface] 62)) w6 (Value.slice fa fn fc).ownBlock → ((Value.slice fa fn fc).ownBlock = some g6 ∨ g6 = w.heap.size + 2) → w6.heap[g6]? = some (.cells cur 62 (0, 0)) → w6.heap[pb]? = some (.cells #[.map (some sb), .int .i64 env.length, .map (some kb), .slice fa fn fc] T (0, 0)) → g6 ≠ pb → ∃ fv', PAtK pb sb kb env (some (fl.getD p)) fv' (fn + 1) ((((w6.setCell ⟨pb, 3, none⟩ (.slice (some ⟨g6, 0, none⟩) (fn + 1) cap6)).setCell ⟨g6, fn * 3, none⟩ (.int .i64 p)).setCell ⟨g6, fn * 3 + 1, none⟩ (.slice sa sn sc)).setCell ⟨g6, fn * 3 + 2, none⟩ (.iface ti xv)) ∧ Kept (PMK pb sb (.slice fa fn fc)) w ((((w6.setCell ⟨pb, 3, none⟩ (.slice (some ⟨g6, 0, none⟩) (fn + 1) cap6)).setCell ⟨g6, fn * 3, none⟩ (.int .i64 p)).setCell ⟨g6, fn * 3 + 1, none⟩ (.slice sa sn sc)).setCell ⟨g6, fn * 3 + 2, none⟩ (.iface ti xv)) ∧ NewF w (.slice fa fn fc) fv') := fun g6 cap6 w6 cur a1 a2 a3 a4 hp6 n1 => HFIN.out g6 cap6 w6 _ cur a1 a2 a3 a4 (((((Kept.refl _ w6).setCell (p := ⟨pb, 3, none⟩) (fun _ => .inl rfl) _).setCell (p := ⟨g6, fn * 3, none⟩) (fun _ => .inr rfl) _).setCell (p := ⟨g6, fn * 3 + 1, none⟩) (fun _ => .inr rfl) _).setCell (p := ⟨g6, fn * 3 + 2, none⟩) (fun _ => .inr rfl) _) (at_setCell_ne (at_setCell_ne (at_setCell_ne (by rw [at_setCell hp6 3 _]; rfl) ⟨g6, fn * 3, none⟩ (Ne.symm n1) _) ⟨g6, fn * 3 + 1, none⟩ (Ne.symm n1) _) ⟨g6, fn * 3 + 2, none⟩ (Ne.symm n1) _) (at_setCell (at_setCell (at_setCell (at_setCell_ne a4 ⟨pb, 3, none⟩ n1 _) (fn * 3) _) (fn * 3 + 1) _) (fn * 3 + 2) _)
  clear h h1 hown hfirst hpb hB hap haw hol HFIN
  have i1 : (0 : Int) ≤ (fn : Int) := by omega
  have i2 : (fn : Int) < (fn : Int) + 1 := by omega
  have i3 : IntKind.i64.wrap (fn : Int) = (fn : Int) := i64_in _ (by omega) (by omega)
  have i4 : fn < fn + 1 := Nat.lt_succ_self fn
  have i5 : ¬ (fn : Int) < 0 := by omega
  go_enter Tryz.func59, Tryz.ntmps59
  go_wp2
  refine wp_region_noPanic ?_
  first | (go_region_law (first | (refine step_append_lies _ rfl (.tmp 8) (.tmp 11) 55 rfl 0 62 i0 (.agg #[.int .i64 0, .slice none 0 0, .nilIface]) 3 48 Tryz.underlying55 hi hz0 hz1 hz2 rfl (by decide) (.slice fa fn fc) fn cs (by simp [Act.eval, Act.put]) HOWN.out ⟨w.heap.size + 1, 0, none⟩ 1 1 [.int .i64 0, .slice none 0 0, .nilIface] (by simp [Act.eval, Act.put]) rfl HNEW.out (by intro u hu; simp at hu; rcases hu with rfl | rfl | rfl <;> rfl) (by omega) (by unfold maxLen; omega) (by omega) (by omega) (w.heap.size + 2) (by simp [World.drew]) ?_; intro g6 cap6 w6 hown6 hgrow6 hat6 hlt6; obtain ⟨hp6, hb6, n1, n2, cur, hc6, hs6⟩ := H6.out g6 cap6 w6 hown6 hgrow6 hat6; have p3 := cell_of_at hp6 3; have f3 := free_of_at hp6 3; simp only [List.getElem?_toArray, List.getElem?_cons_zero, List.getElem?_cons_succ] at p3; have e0 : w6.cell? ⟨g6, fn * 3, none⟩ = some (cur[fn * 3]'(by omega)) := (by rw [cell_of_at hc6, Array.getElem?_eq_getElem]); have e1 : w6.cell? ⟨g6, fn * 3 + 1, none⟩ = some (cur[fn * 3 + 1]'(by omega)) := (by rw [cell_of_at hc6, Array.getElem?_eq_getElem]); have e2 : w6.cell? ⟨g6, fn * 3 + 2, none⟩ = some (cur[fn * 3 + 2]'(by omega)) := (by rw [cell_of_at hc6, Array.getElem?_eq_getElem]); have k0 := free_of_at hc6 (fn * 3); have k1 := free_of_at hc6 (fn * 3 + 1); have k2 := free_of_at hc6 (fn * 3 + 2)))) | fail
  all_goals
    refine NoPanic.normal ?_
    go_wp2
    go_ret
    refine ⟨rfl, ?_⟩
    have hgr : World.grownBy (((w.alloc (.cells #[.int .i64 p, .slice sa sn sc, .iface ti xv] 62)).drew).alloc (.cells #[.int .i64 0, .slice none 0 0, .nilIface] 62)) w6 (Value.slice fa fn fc).ownBlock := hgrow6
    first
      | with_reducible exact HA.out g6 cap6 w6 cur hown6 hgr hat6 hc6 hp6 n1
      | with_reducible exact HBB.out g6 cap6 w6 cur hown6 hgr hat6 hc6 hp6 n1
end Go.Proofs.YtodeeegbajgafaaGreatDoor

namespace Go.Proofs.YtodeeegbajgafaaGreatDoor
open Go.RowKit
theorem eqf_func (k : FuncId) (w : World) : (binOp .eql 188 (.func (.func k) #[] #[]) .nilFunc).run Tryz.prog w = .ok (.bool false) w := by kernel_rfl
theorem rules_some (n : Rd.Sym) (h : Rd.keys.contains n = true) : ∃ k, ((symIx n ruleList 0).map (·.2)).getD .nilFunc = .func (.func k) #[] #[] := by
  have hm : n ∈ Rd.keys := by simpa using h
  simp only [Rd.keys, List.mem_cons, List.not_mem_nil, or_false] at hm
  rcases hm with rfl | rfl | rfl | rfl | rfl | rfl | rfl | rfl | rfl | rfl | rfl <;> exact ⟨_, rfl⟩
theorem name_sym (p : Nat) (n : Rd.Sym) : (Rd.D.mk p [] (.sym n)).name = if Rd.keys.contains n then none else some n := by simp [Rd.D.name, Rd.D.sym]
set_option maxHeartbeats 1000000 in
set_option maxRecDepth 10000 in
theorem nameOf_key (fv : Value) (pb sb kb : Nat) (env : List (List Rd.Sym)) (p : Int) (ad : Option Addr) (c : Nat) (n : Rd.Sym) (w : World) (hp : PAtV fv pb sb kb env w) (hn : Rd.keys.contains n = true) :
    Calls Tryz.prog 105 #[.pointer (some ⟨pb, 0, none⟩), .agg #[.int .i64 p, .slice ad 0 c, .iface 115 (symV n)]] w fun e w' => e = .returned (.tuple #[symV n, .bool false]) ∧ Below w.heap.size w w' := by
  have hS := fun w => symbol_leaf p ad c (.sym n) w
  simp only [aV, Rd.A.symbol, Option.getD_some, Option.isSome_some] at hS
  have HS := (show Hid _ from hS)
  obtain ⟨k, hk⟩ := rules_some n hn
  clear hS hn
  unfold symV
  go_enter Tryz.func105, Tryz.ntmps105
  go_wp2_with (go_at_call 61; refine (HS.out _).mono ?_; rintro e w1 ⟨rfl, hb⟩)
  have hb1 : Below w.heap.size w w1 := ((Below.refl _ w).alloc (Nat.le_refl _) _).trans (hb.mono (by simp))
  obtain ⟨⟨T, h1⟩, _, hr, _⟩ := hp.kept hb1
  have c2 := cell_of_at h1 2
  simp only [List.getElem?_toArray, List.getElem?_cons_zero, List.getElem?_cons_succ] at c2
  have hlk : ∀ j, (Instr.lookup 92 (.map (some kb)) (.string ⟨n.toArray⟩) false).run Tryz.prog (w1.drewN j) = .ok (.func (.func k) #[] #[]) (w1.drewN j) := by
    intro j
    have hr' : SymsAt kb ruleList (w1.drewN j) := hr
    have := lookup_sym Tryz.underlying92 zero188 hr' n
    rw [hk] at this
    exact this
  have hlk1 : (Instr.lookup 92 (.map (some kb)) (.string ⟨n.toArray⟩) false).run Tryz.prog w1.drew = .ok (.func (.func k) #[] #[]) w1.drew := hlk 1
  clear hr h1 hk
  have hq := eqf_func k
  go_region
  all_goals
    go_wp2
    go_ret2
    exact ⟨rfl, hb1.drew⟩
set_option maxHeartbeats 1000000 in
set_option maxRecDepth 10000 in
theorem nameOf_no (pb : Nat) (p : Int) (ad : Option Addr) (n c : Nat) (ti : TypeId) (xv : Value) (w : World) (hS : ∀ W, Calls Tryz.prog 61 #[.agg #[.int .i64 p, .slice ad n c, .iface ti xv]] W fun e w' => e = .returned (.tuple #[.string ⟨#[]⟩, .bool false]) ∧ Below W.heap.size W w') :
    Calls Tryz.prog 105 #[.pointer (some ⟨pb, 0, none⟩), .agg #[.int .i64 p, .slice ad n c, .iface ti xv]] w fun e w' => e = .returned (.tuple #[.string ⟨#[]⟩, .bool false]) ∧ Below w.heap.size w w' := by
  have HS := (show Hid _ from hS)
  clear hS
  go_enter Tryz.func105, Tryz.ntmps105
  go_wp2_with (go_at_call 61; refine (HS.out _).mono ?_; rintro e w1 ⟨rfl, hb⟩)
  have hb1 : Below w.heap.size w w1 := ((Below.refl _ w).alloc (Nat.le_refl _) _).trans (hb.mono (by simp))
  first | go_region | fail
  all_goals
    go_wp2
    go_ret2
    exact ⟨rfl, hb1.drew⟩
/-- The name that a datum is, if it is one. -/
theorem nameOf_d (fv : Value) (pb sb kb : Nat) (env : List (List Rd.Sym)) (ok : Nat → Prop) (d : Rd.D) (v : Value) (w : World) (hp : PAtV fv pb sb kb env w) (hd : RepD ok w v d) :
    Calls Tryz.prog 105 #[.pointer (some ⟨pb, 0, none⟩), v] w fun e w' => ∃ t, e = .returned (.tuple #[.string t, .bool d.name.isSome]) ∧ (∀ n, d.name = some n → t = ⟨n.toArray⟩) ∧ Below w.heap.size w w' := by
  obtain ⟨p, ds, en⟩ := d
  obtain ⟨sl, rfl, hs⟩ := hd.inv
  cases ds with
  | nil =>
    obtain ⟨b, c, rfl⟩ : ∃ b c, sl = .slice b 0 c := by
      rcases hs with ⟨rfl, _⟩ | ⟨g, o, cap, c, T, va, vb, vc, rfl, _⟩ <;> exact ⟨_, _, rfl⟩
    cases en with
    | sym n =>
      rw [name_sym]
      by_cases hk : Rd.keys.contains n = true
      · rw [if_pos hk]
        refine (nameOf_key fv pb sb kb env p b c n w hp hk).mono ?_
        rintro e w' ⟨rfl, hb⟩
        exact ⟨_, rfl, fun m h => (by cases h), hb⟩
      · rw [if_neg hk]
        refine (nameOf_v fv pb sb kb env p b c n w hp (by simpa using hk)).mono ?_
        rintro e w' ⟨rfl, hb⟩
        exact ⟨_, rfl, fun m h => (by cases h; rfl), hb⟩
    | num i =>
      refine (nameOf_no pb p b 0 c 147 (.int .i64 i) w (fun W => symbol_leaf p b c (.num i) W)).mono ?_
      rintro e w' ⟨rfl, hb⟩
      exact ⟨_, rfl, fun m h => (by simp [Rd.D.name, Rd.D.sym] at h), hb⟩
    | truth t =>
      refine (nameOf_no pb p b 0 c 150 (.bool t) w (fun W => symbol_leaf p b c (.truth t) W)).mono ?_
      rintro e w' ⟨rfl, hb⟩
      exact ⟨_, rfl, fun m h => (by simp [Rd.D.name, Rd.D.sym] at h), hb⟩
    | empty =>
      refine (nameOf_no pb p b 0 c 146 (.agg #[]) w (fun W => symbol_leaf p b c .empty W)).mono ?_
      rintro e w' ⟨rfl, hb⟩
      exact ⟨_, rfl, fun m h => (by simp [Rd.D.name, Rd.D.sym] at h), hb⟩
  | cons d0 rest =>
    obtain ⟨b, c, rfl⟩ : ∃ b c, sl = .slice b (rest.length + 1) c := by
      rcases hs with ⟨_, h⟩ | ⟨g, o, cap, c, T, va, vb, vc, rfl, _⟩
      · cases h
      · exact ⟨_, _, rfl⟩
    obtain ⟨ti, xv, hav⟩ : ∃ t x, aV en = .iface t x := by cases en <;> exact ⟨_, _, rfl⟩
    have hS := fun W => symbol_list p b (rest.length + 1) c en W (by omega)
    rw [hav] at hS ⊢
    refine (nameOf_no pb p b (rest.length + 1) c ti xv w hS).mono ?_
    rintro e w' ⟨rfl, hb⟩
    have hn : (Rd.D.mk p (d0 :: rest) en).name = none := by simp [Rd.D.name, Rd.D.sym]
    rw [hn]
    exact ⟨_, rfl, fun m h => (by cases h), hb⟩
set_option maxHeartbeats 1000000 in
theorem index_k (ok : Nat → Prop) (sl : Value) (ns : List Rd.Sym) (n : Rd.Sym) (w : World) (hn : RepN ok w sl ns) (hl : ns.length ≤ 100000) :
    Calls Tryz.prog 157 #[sl, symV n] w fun e w' => ∃ i : Int, e = .returned (.int .i64 i) ∧ (0 ≤ i ↔ n ∈ ns) ∧ -1 ≤ i ∧ i ≤ 100000 ∧ w' = w := by
  obtain ⟨nb, nc, rfl, hnc⟩ := hn.shape
  unfold symV
  go_enter Tryz.func157, Tryz.ntmps157
  go_wp2
  go_loop [8] (fun i => ∃ k : Nat, k ≤ ns.length ∧ i = .int .i64 k ∧ Hid ((ns.take k).contains n = false)) (fun i => ns.length - (intOf i).toNat)
  case atStart => exact ⟨0, Nat.zero_le _, rfl, by simp [Hid]⟩
  case round =>
    obtain ⟨k, hk, rfl, HN⟩ := hrel
    by_cases hlt : k < ns.length
    · obtain ⟨g, cap', heq, _, _, hcell⟩ := hn.cell k hlt
      cases heq
      by_cases he : ns[k] = n
      · have hq : ((⟨n.toArray⟩ : ByteArray).toList == (⟨ns[k].toArray⟩ : ByteArray).toList) = true := by
          rw [bytes_toList, bytes_toList]; simp [he]
        have hq' : (⟨n.toArray⟩ : ByteArray).toList = (⟨ns[k].toArray⟩ : ByteArray).toList := by
          rw [bytes_toList, bytes_toList]; exact he.symm
        have hm : Hid (n ∈ ns) := by show n ∈ ns; rw [← he]; exact List.getElem_mem hlt
        simp only [symV] at hcell
        clear hn he HN
        generalize hA : (⟨n.toArray⟩ : ByteArray) = A at *
        generalize hB : (⟨ns[k].toArray⟩ : ByteArray) = B at *
        go_wp2
        go_ret
        exact ⟨(k : Int), rfl, ⟨fun _ => hm.out, fun _ => by omega⟩, by omega, by omega, rfl⟩
      · have hq : ((⟨n.toArray⟩ : ByteArray).toList == (⟨ns[k].toArray⟩ : ByteArray).toList) = false := by
          rw [bytes_toList, bytes_toList]; simpa using fun e => he e.symm
        have hq' : ¬ (⟨n.toArray⟩ : ByteArray).toList = (⟨ns[k].toArray⟩ : ByteArray).toList := by
          rw [bytes_toList, bytes_toList]; exact fun e => he e.symm
        have HN2 : Hid ((ns.take (k + 1)).contains n = false) := by
          have h1 := HN.out
          show (ns.take (k + 1)).contains n = false
          rw [List.take_succ_eq_append_getElem hlt]
          simp only [List.contains_eq_mem, List.mem_append, List.mem_cons, List.not_mem_nil, or_false, decide_eq_false_iff_not, not_or] at h1 ⊢
          exact ⟨h1, fun e => he e.symm⟩
        simp only [symV] at hcell
        clear hn he HN
        generalize hA : (⟨n.toArray⟩ : ByteArray) = A at *
        generalize hB : (⟨ns[k].toArray⟩ : ByteArray) = B at *
        go_wp2
        go_round
        case rel => exact ⟨k + 1, by omega, by go_num, HN2⟩
        case measure => simp [intOf]; omega
    · have hk' : k = ns.length := by omega
      have h1 := HN.out
      rw [hk', List.take_length] at h1
      have HC : Hid (¬ n ∈ ns) := by simpa [Hid] using h1
      clear h1 HN hn
      go_wp2
      go_ret
      exact ⟨-1, rfl, ⟨fun h => by omega, fun h => absurd h HC.out⟩, by omega, by omega, rfl⟩
theorem contains_k (ok : Nat → Prop) (sl : Value) (ns : List Rd.Sym) (n : Rd.Sym) (w : World) (hn : RepN ok w sl ns) (hl : ns.length ≤ 100000) :
    Calls Tryz.prog 136 #[sl, symV n] w fun e w' => e = .returned (.bool (ns.contains n)) ∧ w' = w := by
  obtain ⟨nb, nc, rfl, hnc⟩ := id hn.shape
  have HI := index_k ok _ ns n w hn hl
  unfold symV at *
  by_cases hc : ns.contains n = true
  · have HI2 : Hid (Calls Tryz.prog 157 #[.slice nb ns.length nc, .string ⟨n.toArray⟩] w fun e w' => ∃ i : Int, e = .returned (.int .i64 i) ∧ 0 ≤ i ∧ i ≤ 100000 ∧ w' = w) := HI.mono fun e w' ⟨i, h1, h2, h3, h4, h5⟩ => ⟨i, h1, h2.2 (by simpa using hc), h4, h5⟩
    rw [hc]
    clear HI hc hn
    go_enter Tryz.func136, Tryz.ntmps136
    go_wp2_with (go_at_call 157; refine HI2.out.mono ?_; rintro e w1 ⟨i, rfl, i0, i1, rfl⟩)
    go_ret
    exact ⟨rfl, rfl⟩
  · have HI2 : Hid (Calls Tryz.prog 157 #[.slice nb ns.length nc, .string ⟨n.toArray⟩] w fun e w' => ∃ i : Int, e = .returned (.int .i64 i) ∧ ¬ 0 ≤ i ∧ -1 ≤ i ∧ w' = w) := HI.mono fun e w' ⟨i, h1, h2, h3, h4, h5⟩ => ⟨i, h1, fun h => hc (by simpa using h2.1 h), h3, h5⟩
    rw [show ns.contains n = false by simpa using hc]
    clear HI hc hn
    go_enter Tryz.func136, Tryz.ntmps136
    go_wp2_with (go_at_call 157; refine HI2.out.mono ?_; rintro e w1 ⟨i, rfl, i0, i1, rfl⟩)
    go_ret
    exact ⟨(by show Ending.returned (Value.bool (decide (0 ≤ i))) = _; rw [decide_eq_false (by omega)]), rfl⟩
end Go.Proofs.YtodeeegbajgafaaGreatDoor

namespace Go.Proofs.YtodeeegbajgafaaGreatDoor
open Go.RowKit
/-- The loop's relation: 'v' owns the names of the data that are passed. -/
structure NamingK (fv : Value) (pb sb kb : Nat) (env : List (List Rd.Sym)) (w : World) (acc : List Rd.Sym) (v : Value) (wr : World) : Prop where
  par : PAtV fv pb sb kb env wr
  kept : Below w.heap.size w wr
  own : wr.ownsRow w.heap.size 115 1 v acc.length (acc.map symV)
theorem PAtV.grown {fv : Value} {pb sb kb : Nat} {env : List (List Rd.Sym)} {w w' : World} {B : Nat} {row : Option Nat} (h : PAtV fv pb sb kb env w) (hB : pb < B ∧ sb < B ∧ kb < B) (hg : w.grownBy w' row) (hr : ∀ k, row = some k → B ≤ k) : PAtV fv pb sb kb env w' := by
  obtain ⟨⟨T, h1⟩, ⟨es, c, h2, h3⟩, ⟨fs, d, h4, h5⟩, h6⟩ := h
  have key : ∀ k, k < B → k < w.heap.size → w'.heap[k]? = w.heap[k]? := fun k hk hk' => hg.block k hk' (fun e => by have := hr k e.symm; omega)
  exact ⟨⟨T, (key pb hB.1 (lt_of_at h1)).trans h1⟩, ⟨es, c, (key sb hB.2.1 (lt_of_at h2)).trans h2, h3⟩, ⟨fs, d, (key kb hB.2.2 (lt_of_at h4)).trans h4, h5⟩, h6⟩
/-- What namesOf answers. -/
def NamesR (r : Option (List Rd.Sym)) (w : World) (e : Ending) (w' : World) : Prop := (match r with
  | some ns => ∃ nv, e = .returned (.tuple #[nv, .bool true]) ∧ RepN (fun k => w.heap.size ≤ k) w' nv ns
  | none => e = .returned (.tuple #[.slice none 0 0, .bool false])) ∧ Below w.heap.size w w'
theorem Rd.namesK_cons (d : Rd.D) (ds : List Rd.D) (acc : List Rd.Sym) : Rd.namesK (d :: ds) acc = match d.name with
    | some n => if acc.contains n then none else Rd.namesK ds (acc ++ [n])
    | none => none := by rw [Rd.namesK]; rfl
set_option maxHeartbeats 1000000 in
set_option maxRecDepth 10000 in
theorem namesOf_k (fv : Value) (pb sb kb : Nat) (env : List (List Rd.Sym)) (w : World) (ds : List Rd.D) (sl : Value) (hp : PAtV fv pb sb kb env w) (hsl : RepS (fun _ => True) w sl ds) (hl : ds.length ≤ 5000) :
    Calls Tryz.prog 103 #[.pointer (some ⟨pb, 0, none⟩), sl] w (NamesR (Rd.namesK ds []) w) := by
  obtain ⟨i0, hi, hz0, hz1, hz2⟩ := info_parts Tryz.info115
  obtain ⟨bb, cap, rfl, hcap⟩ : ∃ b cap, sl = .slice b ds.length cap ∧ ds.length ≤ cap := by
    rcases hsl with ⟨rfl, rfl⟩ | ⟨g, o, cap, c, T, va, vb, vc, rfl, _, _, hn, _⟩
    · exact ⟨none, 0, rfl, Nat.le_refl _⟩
    · exact ⟨_, cap, rfl, hn⟩
  have hN0 : NamingK fv pb sb kb env w [] (.slice none 0 0) w := ⟨hp, Below.refl _ _, ⟨rfl, Or.inl ⟨rfl, rfl⟩⟩⟩
  have hlp := hp.lt
  generalize hR : Rd.namesK ds [] = R
  have HR := (show Hid _ from hR)
  clear hR
  go_enter Tryz.func103, Tryz.ntmps103
  go_wp2
  go_loopg [6, 13] ds.length (fun k v i wr => ∃ (j : Nat) (acc : List Rd.Sym), j + k = ds.length ∧ acc.length = j ∧ i = .int .i64 j ∧ Hid (Rd.namesK (ds.drop j) acc = R) ∧ NamingK fv pb sb kb env w acc v wr)
  case atStart => exact ⟨0, [], by omega, rfl, rfl, by simpa [Hid] using HR.out, hN0⟩
  case round =>
    obtain ⟨j, acc, hj, hacc, rfl, HN, hN⟩ := hrel
    obtain ⟨hpar, hkept, hown⟩ := id hN
    by_cases hlt : j < ds.length
    · have hsr := hsl.mono (ok' := fun _ => True) (w' := wr) (fun k hk _ => ⟨trivial, hkept.block k hk⟩)
      obtain ⟨gd, od, cap', pp, po, pn, pc, ti, xv, heq, _, _, d0, d1, d2, hrepd⟩ := hsr.cells j hlt
      cases heq
      have hP := HN.out
      rw [List.drop_eq_getElem_cons hlt, Rd.namesK_cons] at hP
      rw [Nat.mul_comm 3 j] at d0 d1 d2
      have hB2 : Below wr.heap.size wr (wr.alloc (.cells #[.int .i64 pp, .slice po pn pc, .iface ti xv] 62)) := (Below.refl _ wr).alloc (Nat.le_refl _) _
      have hpar2 := hpar.kept hB2
      have HNM := nameOf_d fv pb sb kb env (fun _ => True) ds[j] _ _ hpar2 (hrepd.mono fun k hk _ => ⟨trivial, hB2.block k hk⟩)
      cases hnm : ds[j].name with
      | none =>
        rw [hnm] at hP HNM
        simp only at hP
        have HR0 : Hid (NamesR R w = NamesR none w) := by rw [← hP]; rfl
        have HNM2 : Hid (Calls Tryz.prog 105 #[.pointer (some ⟨pb, 0, none⟩), .agg #[.int .i64 pp, .slice po pn pc, .iface ti xv]] (wr.alloc (.cells #[.int .i64 pp, .slice po pn pc, .iface ti xv] 62)) fun e w' => ∃ t, e = .returned (.tuple #[.string t, .bool false]) ∧ Below w.heap.size w w') := HNM.mono fun e w' ⟨t, he, _, hb⟩ => ⟨t, he, (hkept.alloc hkept.size _).trans (hb.mono (by have := hkept.size; simp; omega))⟩
        clear HN hP hnm hrepd hsr hsl hN0 hp HNM HR hN hown hkept hpar hpar2 hB2
        go_wp2_with (first | (go_at_call 105; refine HNM2.out.mono ?_; rintro e w1 ⟨t, rfl, hb1⟩))
        go_ret2
        rw [HR0.out]
        exact ⟨rfl, hb1⟩
      | some n =>
        rw [hnm] at hP HNM
        simp only at hP
        have HNM2 : Hid (Calls Tryz.prog 105 #[.pointer (some ⟨pb, 0, none⟩), .agg #[.int .i64 pp, .slice po pn pc, .iface ti xv]] (wr.alloc (.cells #[.int .i64 pp, .slice po pn pc, .iface ti xv] 62)) fun e w' => e = .returned (.tuple #[.string ⟨n.toArray⟩, .bool true]) ∧ Below wr.heap.size wr w') := HNM.mono fun e w' ⟨t, he, ht, hb⟩ => ⟨by rw [he, ht n rfl]; rfl, hB2.trans (hb.mono (by simp))⟩
        by_cases hc : acc.contains n = true
        · rw [if_pos hc] at hP
          have HR0 : Hid (NamesR R w = NamesR none w) := by rw [← hP]; rfl
          have HC : Hid (∀ W, Below wr.heap.size wr W → Calls Tryz.prog 136 #[u6, .string ⟨n.toArray⟩] W fun e w' => e = .returned (.bool true) ∧ w' = W) := fun W hW => by
            have := contains_k _ u6 acc n W (own_names (ownsRow_kept' hown hW)) (by omega)
            rw [hc] at this
            exact this
          have HK : Hid (∀ W, Below wr.heap.size wr W → Below w.heap.size w W) := fun W hW => hkept.trans (hW.mono hkept.size)
          clear HN hP hnm hrepd hsr hsl hN0 hp HNM HR hN hown hkept hpar hpar2 hB2 hc
          go_wp2_with (first | (go_at_call 105; refine HNM2.out.mono ?_; rintro e w1 ⟨rfl, hb1⟩) | (go_at_call 136; refine (HC.out _ hb1).mono ?_; rintro e w2 ⟨rfl, rfl⟩))
          go_ret2
          rw [HR0.out]
          exact ⟨rfl, HK.out _ hb1⟩
        · rw [if_neg hc] at hP
          have HN3 : Hid (Rd.namesK (ds.drop (j + 1)) (acc ++ [n]) = R) := hP
          have hcf : acc.contains n = false := by simpa using hc
          have HN2 := (show Hid _ from hcf)
          have HC : Hid (∀ W, Below wr.heap.size wr W → Calls Tryz.prog 136 #[u6, .string ⟨n.toArray⟩] W fun e w' => e = .returned (.bool false) ∧ w' = W) := fun W hW => by
            have := contains_k _ u6 acc n W (own_names (ownsRow_kept' hown hW)) (by omega)
            rw [HN2.out] at this
            exact this
          clear HN hP hnm hrepd hsr hsl hN0 hp HNM HR hc hcf
          go_wp2_with (first | (go_at_call 105; refine HNM2.out.mono ?_; rintro e w1 ⟨rfl, hkA⟩; have hown1 := ownsRow_kept' hown hkA) | (go_at_call 136; refine (HC.out _ hkA).mono ?_; rintro e w2 ⟨rfl, rfl⟩) | (at_builtin; refine wpList_append_own_at _ rfl _ _ 170 rfl w.heap.size 115 i0 (.string ⟨#[]⟩) 1 16 Tryz.underlying170 hi hz0 hz1 hz2 rfl (by decide) u6 acc.length (acc.map symV) rfl ?h1 ⟨_, 0, none⟩ 1 1 [.string ⟨n.toArray⟩] rfl rfl ?h2 ?h3 ?h4 ?h5 ?h6 ?_))
          case h1 => exact ownsRow_kept' hown1 ((Below.refl _ _).alloc (Nat.le_refl _) _)
          case h2 => exact cell_one_new _ _ _
          case h3 => intro u hu; simp at hu; subst hu; rfl
          case h4 => unfold maxLen; omega
          case h5 => omega
          case h6 => have := hkA.size; have := hkept.size; simp; omega
          intro v' w3 hown' hgrow _ hat
          have hs1 := hkA.size
          have hs2 := hkept.size
          have hnx : NamingK fv pb sb kb env w (acc ++ [n]) v' w3 := by
            refine ⟨?_, ?_, ?_⟩
            · exact ((hpar.kept hkA).kept ((Below.refl _ _).alloc (Nat.le_refl _) _)).grown (B := w.heap.size) hlp hgrow (fun k e => ownBlock_of' hown k e)
            · exact ((hkept.trans (hkA.mono (by omega))).alloc (by omega) _).grown hgrow (by simp; omega) (fun k e => ownBlock_of' hown k e)
            · simpa [symV, hacc] using hown'
          clear hown' hgrow hat hown hown1 hkA hkept hpar hpar2 hN HC HNM2
          go_wp2
          go_roundg (gk - 1)
          case measure => omega
          case rel => exact ⟨j + 1, acc ++ [n], by omega, by simp; omega, by go_num, HN3, hnx⟩
    · have hjl : j = ds.length := by omega
      have hP := HN.out
      rw [hjl, List.drop_length, Rd.namesK] at hP
      have HR0 : Hid (NamesR R w = NamesR (some acc) w) := by rw [← hP]; rfl
      clear hsl hN0 hp HN hP HR
      go_wp2
      go_ret2
      rw [HR0.out]
      exact ⟨⟨u6, rfl, own_names hown⟩, hkept⟩
theorem Rd.namesK_length : ∀ (ds : List Rd.D) (acc r : List Rd.Sym), Rd.namesK ds acc = some r → r.length = acc.length + ds.length
  | [], acc, r, h => by rw [Rd.namesK] at h; cases h; simp
  | d :: ds, acc, r, h => by
    rw [Rd.namesK_cons] at h
    split at h
    · split at h
      · cases h
      · have := Rd.namesK_length ds _ r h
        simp at this ⊢; omega
    · cases h
theorem Rd.namesK_differ : ∀ (ds : List Rd.D) (acc r : List Rd.Sym), Differ acc → Rd.namesK ds acc = some r → Differ r
  | [], acc, r, ha, h => by rw [Rd.namesK] at h; cases h; exact ha
  | d :: ds, acc, r, ha, h => by
    rw [Rd.namesK_cons] at h
    split at h
    · rename_i n hn
      split at h
      · cases h
      · rename_i h2
        refine Rd.namesK_differ ds _ r ?_ h
        intro i j hi hj hij
        simp only [List.length_append, List.length_cons, List.length_nil] at hi hj
        rw [List.getElem_append_left (by omega)]
        by_cases e : j < acc.length
        · rw [List.getElem_append_left e]; exact ha i j (by omega) e hij
        · have : j = acc.length := by omega
          subst this
          simp only [List.getElem_append_right (Nat.le_refl _), Nat.sub_self, List.getElem_cons_zero]
          intro e'
          have hm : n ∈ acc := by rw [← e']; exact List.getElem_mem _
          simp [hm] at h2
    · cases h
end Go.Proofs.YtodeeegbajgafaaGreatDoor

namespace Go.Proofs.YtodeeegbajgafaaGreatDoor
open Go.RowKit
/-- The first fault, behind a result. -/
def flOr {α : Type} (fl : Option Nat) (r : Rd.PR α) : Option Nat := match fl with
  | some q => some q
  | none => (match r with | .bad p => some p | .no p => some p | .ok _ => none)
/-- A form's value: nil, where the datum is none itself. -/
def Shp (r : Rd.PR Rd.F) (v : Value) : Prop := match r with
  | .no _ => v = .nilIface
  | _ => ∃ t x, v = .iface t x
theorem Shp.isI {r : Rd.PR Rd.F} {v : Value} (h : Shp r v) : isI v := by
  cases r with
  | no p => exact .inl h
  | ok x => exact .inr h
  | bad p => exact .inr h
def NewOk (w : World) (fv' : Value) : Nat → Prop := fun k => w.heap.size ≤ k ∧ fv'.ownBlock ≠ some k
/-- What making a form of a datum does. -/
def RuleK (pb sb kb : Nat) (env : List (List Rd.Sym)) (fl : Option Nat) (fv : Value) (n m : Nat) (w : World) (r : Rd.PR Rd.F) (e : Ending) (w' : World) : Prop :=
  ∃ v fv' n', e = .returned v ∧ Shp r v ∧ (∀ x, r = .ok x → RepF (NewOk w fv') w' v x) ∧ PAtK pb sb kb env (flOr fl r) fv' n' w' ∧ n' ≤ n + m ∧ Kept (PMK pb sb fv) w w' ∧ NewF w fv fv'
def ShapeF (v : Value) (len : Nat) (w : World) : Prop := ∃ g cap c T, v = .slice (some ⟨g, 0, none⟩) len cap ∧ len ≤ cap ∧ cap ≤ 100000 ∧ w.heap[g]? = some (.cells c T (0, 0)) ∧ ∀ i, i < len → ∃ x, c[i]? = some x ∧ isI x
def RulesK (pb sb kb : Nat) (env : List (List Rd.Sym)) (fl : Option Nat) (fv : Value) (n m len : Nat) (w : World) (r : Rd.PR (List Rd.F)) (e : Ending) (w' : World) : Prop :=
  ∃ v fv' n', e = .returned v ∧ ShapeF v len w' ∧ (∀ xs, r = .ok xs → RepFs (NewOk w fv') w' v xs) ∧ PAtK pb sb kb env (flOr fl r) fv' n' w' ∧ n' ≤ n + m ∧ Kept (PMK pb sb fv) w w' ∧ NewF w fv fv'
def FormCK (f : Nat) : Prop := ∀ (pb sb kb : Nat) (env : List (List Rd.Sym)) (fl : Option Nat) (fv : Value) (n : Nat) (w : World) (d : Rd.D) (v : Value), PAtK pb sb kb env fl fv n w → 2 * Rd.kzD d ≤ f → env.length + f ≤ 5000 → n + Rd.kzD d ≤ 4000 → RepD (fun k => ¬ PMK pb sb fv k) w v d →
  Calls Tryz.prog 63 #[.pointer (some ⟨pb, 0, none⟩), v] w (RuleK pb sb kb env fl fv n (Rd.kzD d) w (Rd.kForm f env d))
def FormsCK (f : Nat) : Prop := ∀ (pb sb kb : Nat) (env : List (List Rd.Sym)) (fl : Option Nat) (fv : Value) (n : Nat) (w : World) (ds : List Rd.D) (sl : Value), PAtK pb sb kb env fl fv n w → 2 * Rd.kzL ds + 1 ≤ f → env.length + f ≤ 5000 → n + Rd.kzL ds ≤ 4000 → RepS (fun k => ¬ PMK pb sb fv k) w sl ds →
  Calls Tryz.prog 101 #[.pointer (some ⟨pb, 0, none⟩), sl] w (RulesK pb sb kb env fl fv n (Rd.kzL ds) ds.length w (Rd.kForms f env ds))
theorem flOr_one (fl : Option Nat) (P : Rd.PR (List Rd.F)) (q : Rd.PR Rd.F) : flOr (flOr fl P) q = flOr fl (P.app q.one) := by
  cases fl <;> cases P <;> cases q <;> rfl
/-- The loop's relation: the first j forms are there. -/
structure FormingK (pb sb kb : Nat) (env : List (List Rd.Sym)) (fl : Option Nat) (fv : Value) (n0 m : Nat) (w : World) (g n : Nat) (P : Rd.PR (List Rd.F)) (j : Nat) (fv' : Value) (n' : Nat) (wr : World) : Prop where
  par : PAtK pb sb kb env (flOr fl P) fv' n' wr
  few : n' ≤ n0 + m
  kept : Kept (PMK pb sb fv) w wr
  new : NewF w fv fv'
  far : fv'.ownBlock ≠ some g
  row : ∃ (c : Array Value) (vf : Nat → Value), wr.heap[g]? = some (.cells c 96 (0, 0)) ∧ c.size = n ∧ (∀ i, i < j → c[i]? = some (vf i) ∧ isI (vf i)) ∧ (∀ i, j ≤ i → i < n → c[i]? = some .nilIface) ∧ ∀ xs, P = .ok xs → xs.length = j ∧ ∀ i (hi : i < xs.length), RepF (fun k => w.heap.size ≤ k ∧ k ≠ g ∧ fv'.ownBlock ≠ some k) wr (vf i) xs[i]
/-- One form more. -/
theorem FormingK.push {pb sb kb : Nat} {env : List (List Rd.Sym)} {fl : Option Nat} {fv : Value} {n0 m m2 : Nat} {w : World} {g n : Nat} {P : Rd.PR (List Rd.F)} {j : Nat} {fv' : Value} {n' : Nat} {wr w1 : World} (hF : FormingK pb sb kb env fl fv n0 m w g n P j fv' n' wr) (hg : w.heap.size ≤ g) (hlp : pb < w.heap.size ∧ sb < w.heap.size ∧ kb < w.heap.size) (hj : j < n)
    {o : Obj} {v : Value} {q : Rd.PR Rd.F} {fv2 : Value} {n2 : Nat} (hI : isI v) (hrep : ∀ x, q = .ok x → RepF (NewOk (wr.alloc o) fv2) w1 v x) (hp1 : PAtK pb sb kb env (flOr (flOr fl P) q) fv2 n2 w1) (hn2 : n2 ≤ n' + m2) (hk1 : Kept (PMK pb sb fv') (wr.alloc o) w1) (hnew : NewF (wr.alloc o) fv' fv2) :
    FormingK pb sb kb env fl fv n0 (m + m2) w g n (P.app q.one) (j + 1) fv2 n2 (w1.setCell ⟨g, j, none⟩ v) := by
  obtain ⟨hpar, hfew, hkept, hnw, hfar, c, vf, hrow, hcs, hci, hcz, hels⟩ := hF
  have hgl := lt_of_at hrow
  have hng : ¬ PMK pb sb fv' g := fun h => by
    rcases h with h | h | h
    · omega
    · omega
    · exact hfar h
  have hrow1 : w1.heap[g]? = some (.cells c 96 (0, 0)) := hk1.at hng (at_alloc hrow o)
  have hne : ∀ k, k ≠ g → (w1.setCell ⟨g, j, none⟩ v).heap[k]? = w1.heap[k]? := fun k hk => Below.heap_setCell _ _ _ _ hk
  have hs1 := hk1.size
  have hsk := hkept.size
  simp at hs1
  have hfar2 : fv2.ownBlock ≠ some g := fun e => by
    rcases hnew g e with h | h
    · exact hfar h
    · simp at h; omega
  have hnw2 : NewF w fv fv2 := hnw.trans hnew (by simp; omega)
  have hkk : Kept (PMK pb sb fv) w w1 := keptK_trans (hkept.alloc o) hk1 hnw
  refine ⟨?_, by omega, ?_, hnw2, hfar2, c.setIfInBounds j v, fun i => if i = j then v else vf i, ?_, by simpa using hcs, ?_, ?_, ?_⟩
  · rw [← flOr_one]
    obtain ⟨⟨⟨T, h1⟩, ⟨es, cl, h2, h3⟩, ⟨fs, d, h4, h5⟩, h6⟩, ⟨⟨xs, h7, h8⟩, h9, h10⟩, h11⟩ := hp1
    refine ⟨⟨⟨T, (hne _ (by omega)).trans h1⟩, ⟨es, cl, (hne _ (by omega)).trans h2, h3⟩, ⟨fs, d, (hne _ (by omega)).trans h4, h5⟩, h6⟩, ⟨⟨xs, ?_, h8⟩, h9, h10⟩, h11⟩
    obtain ⟨a, b | ⟨gb, cap, cur, hv, hB, hh, r⟩⟩ := h7
    · exact ⟨a, .inl b⟩
    · refine ⟨a, .inr ⟨gb, cap, cur, hv, hB, (hne _ ?_).trans hh, r⟩⟩
      intro e
      subst hv
      exact hfar2 (by rw [← e]; rfl)
  · exact hkk.setCell (p := ⟨g, j, none⟩) (fun h => absurd (show g < w.heap.size from h) (by omega)) v
  · rw [at_setCell hrow1 j v]
  · intro i hi
    by_cases e : i = j
    · subst e
      simp [hcs, hj, hI]
    · rw [Array.getElem?_setIfInBounds_ne (by omega)]
      simp only [e, if_false]
      exact hci i (by omega)
  · intro i h1 h2
    rw [Array.getElem?_setIfInBounds_ne (by omega)]
    exact hcz i (by omega) h2
  · intro xs hxs
    cases hP : P with
    | bad p => rw [hP] at hxs; cases hxs
    | no p => rw [hP] at hxs; cases hxs
    | ok ys =>
      rw [hP] at hxs
      cases hq : q with
      | bad p => rw [hq] at hxs; cases hxs
      | no p => rw [hq] at hxs; cases hxs
      | ok x =>
        rw [hq] at hxs
        cases hxs
        obtain ⟨hl, he⟩ := hels ys hP
        refine ⟨by simp [hl], fun i hi => ?_⟩
        simp only [List.length_append, List.length_cons, List.length_nil] at hi
        by_cases e : i = j
        · subst e
          simp only [if_true]
          rw [List.getElem_append_right (by omega)]
          simp only [hl, Nat.sub_self, List.getElem_cons_zero]
          refine (hrep x hq).mono ?_
          intro k hk hge
          have hge1 : wr.heap.size + 1 ≤ k := by simpa using hge.1
          exact ⟨⟨by omega, by omega, hge.2⟩, hne k (by omega)⟩
        · simp only [e, if_false]
          rw [List.getElem_append_left (by omega)]
          refine (he i (by omega)).mono ?_
          intro k hk ⟨h1, h2, h3⟩
          refine ⟨⟨h1, h2, fun e' => ?_⟩, ?_⟩
          · rcases hnew k e' with h | h
            · exact h3 h
            · simp at h; omega
          · rw [hne k h2, hk1.block k (by simp; omega) (fun h => ?_), Below.heap_alloc _ _ _ hk]
            rcases h with h | h | h
            · omega
            · omega
            · exact h3 h
set_option maxHeartbeats 1000000 in
set_option maxRecDepth 10000 in
theorem forms_k (f : Nat) (H : ∀ g, g < f → FormCK g) : FormsCK f := by
  intro pb sb kb env fl fv n w ds sl hp hf2 hf hnz hsl
  have hlen := Rd.kzL_len ds
  obtain ⟨bb, cap, rfl, hcap⟩ : ∃ b cap, sl = .slice b ds.length cap ∧ ds.length ≤ cap := by
    rcases hsl with ⟨rfl, rfl⟩ | ⟨g, o, cap, c, T, va, vb, vc, rfl, _, _, hn, _⟩
    · exact ⟨none, 0, rfl, Nat.le_refl _⟩
    · exact ⟨_, cap, rfl, hn⟩
  have hmk := fun w => run_make_row' (P := Tryz.prog) 65 96 .nilIface 16 Tryz.underlying65 Tryz.info96 rfl .i64 .i64 ds.length (by omega) (by omega) w
  have hlp := hp.par.lt
  have hF0 : FormingK pb sb kb env fl fv n 0 w w.heap.size ds.length (.ok []) 0 fv n (w.alloc (.cells (madeCells #[.nilIface] ds.length) 96)) := by
    refine ⟨?_, by omega, (Kept.refl _ w).alloc _, NewF.refl _ _, fun e => ?_, madeCells #[.nilIface] ds.length, fun _ => undef, at_new _ _, by simp [madeCells], fun i hi => absurd hi (Nat.not_lt_zero _), ?_, ?_⟩
    · have : flOr fl (Rd.PR.ok ([] : List Rd.F)) = fl := by cases fl <;> rfl
      rw [this]
      exact hp.kept ((Below.refl _ w).alloc (Nat.le_refl _) _)
    · exact Nat.lt_irrefl _ (hp.own_lt _ e)
    · intro i _ hi
      simp [madeCells, hi, Nat.mod_one]
    · intro xs hxs
      cases hxs
      exact ⟨rfl, fun i hi => absurd hi (Nat.not_lt_zero _)⟩
  generalize hG : w.heap.size = g at *
  have HG := (show Hid _ from hG)
  have HH : Hid (∀ g, g < f → FormCK g) := H
  clear hG H
  go_enter Tryz.func101, Tryz.ntmps101
  go_wp2
  rw [HG.out]
  go_loopg [13] f (fun k i wr => ∃ (j : Nat) (P : Rd.PR (List Rd.F)) (fv' : Value) (n' : Nat), i = .int .i64 j ∧ j ≤ ds.length ∧ k ≤ f ∧ 2 * Rd.kzL (ds.drop j) + 1 ≤ k ∧ Hid (P.fine ∧ P.app (Rd.kForms k env (ds.drop j)) = Rd.kForms f env ds) ∧ FormingK pb sb kb env fl fv n (Rd.kzL ds - Rd.kzL (ds.drop j)) w g ds.length P j fv' n' wr)
  case atStart => exact ⟨0, .ok [], fv, n, rfl, Nat.zero_le _, Nat.le_refl _, by simpa using hf2, ⟨trivial, by rw [Rd.PR.nil_app _ (Rd.kForms_fine _ _ _)]; rfl⟩, by simpa using hF0⟩
  case round =>
    obtain ⟨j, P, fv', n', rfl, hj, hkf, hk2, HP, hF⟩ := hrel
    obtain ⟨hpar, hfew, hkept, hnw, hfar, c, vf, hrow, hcs, hci, hcz, hels⟩ := id hF
    by_cases hlt : j < ds.length
    · have hsr := hsl.mono (keptK_rep hkept hnw)
      obtain ⟨gd, od, cap', pp, po, pn, pc, ti, xv, heq, hgd, _, d0, d1, d2, hrepd⟩ := hsr.cells j hlt
      cases heq
      have hz := Rd.kzL_drop_lt ds j hlt
      have hzp := Rd.kzD_pos ds[j]
      have hdl := Rd.kzL_drop ds j
      cases gk with
      | zero => omega
      | succ k =>
      have hP := HP.out.2
      rw [List.drop_eq_getElem_cons hlt, Rd.kForms_cons, ← Rd.PR.app_assoc] at hP
      have HX2 := (show Hid _ from hP)
      have hrepd2 := hrepd.mono (ok' := fun k => ¬ PMK pb sb fv' k) (w' := wr.alloc (.cells #[.int .i64 pp, .slice po pn pc, .iface ti xv] 62)) (fun k hk h => ⟨h, Below.heap_alloc _ _ _ hk⟩)
      have hpar2 := hpar.kept ((Below.refl _ wr).alloc (Nat.le_refl _) (.cells #[.int .i64 pp, .slice po pn pc, .iface ti xv] 62))
      have hrow2 := at_alloc hrow (.cells #[.int .i64 pp, .slice po pn pc, .iface ti xv] 62)
      have hng : ¬ PMK pb sb fv' g := fun h => by
        have := HG.out
        rcases h with h | h | h
        · omega
        · omega
        · exact hfar h
      have HC : Hid (Calls Tryz.prog 63 #[.pointer (some ⟨pb, 0, none⟩), .agg #[.int .i64 pp, .slice po pn pc, .iface ti xv]] (wr.alloc (.cells #[.int .i64 pp, .slice po pn pc, .iface ti xv] 62)) (RuleK pb sb kb env (flOr fl P) fv' n' (Rd.kzD ds[j]) (wr.alloc (.cells #[.int .i64 pp, .slice po pn pc, .iface ti xv] 62)) (Rd.kForm k env ds[j]))) := HH.out k (by omega) pb sb kb env _ fv' n' _ ds[j] _ hpar2 (by omega) (by omega) (by omega) hrepd2
      have hc1 : c[j]? = some .nilIface := hcz j (Nat.le_refl _) hlt
      have HMK : Hid (∀ (v fv2 : Value) (n2 : Nat) (w1 : World), isI v → (∀ x, Rd.kForm k env ds[j] = .ok x → RepF (NewOk (wr.alloc (.cells #[.int .i64 pp, .slice po pn pc, .iface ti xv] 62)) fv2) w1 v x) → PAtK pb sb kb env (flOr (flOr fl P) (Rd.kForm k env ds[j])) fv2 n2 w1 → n2 ≤ n' + Rd.kzD ds[j] → Kept (PMK pb sb fv') (wr.alloc (.cells #[.int .i64 pp, .slice po pn pc, .iface ti xv] 62)) w1 → NewF (wr.alloc (.cells #[.int .i64 pp, .slice po pn pc, .iface ti xv] 62)) fv' fv2 →
          ∃ (j' : Nat) (P' : Rd.PR (List Rd.F)) (fv' : Value) (n' : Nat), Value.int .i64 ((j : Int) + 1) = .int .i64 (j' : Nat) ∧ j' ≤ ds.length ∧ k ≤ f ∧ 2 * Rd.kzL (ds.drop j') + 1 ≤ k ∧ Hid (P'.fine ∧ P'.app (Rd.kForms k env (ds.drop j')) = Rd.kForms f env ds) ∧ FormingK pb sb kb env fl fv n (Rd.kzL ds - Rd.kzL (ds.drop j')) w g ds.length P' j' fv' n' (w1.setCell ⟨g, j, none⟩ v)) := by
        intro v fv2 n2 w1 a1 a2 a3 a4 a5 a6
        have hpush := hF.push (by rw [← HG.out]; exact Nat.le_refl _) (by have := HG.out; omega) hlt a1 a2 a3 a4 a5 a6
        rw [show Rd.kzL ds - Rd.kzL (ds.drop j) + Rd.kzD ds[j] = Rd.kzL ds - Rd.kzL (ds.drop (j + 1)) by omega] at hpush
        exact ⟨j + 1, _, fv2, n2, by go_num, by omega, by omega, by omega, ⟨Rd.PR.app_fine _ _, HX2.out⟩, hpush⟩
      clear HP hP hsr hsl hrepd hpar hkept hci hels hrow hF0 hp hF hcz hpar2 hrepd2
      rw [Nat.mul_comm 3 j] at d0 d1 d2
      go_wp2_with (go_at_call 63; refine HC.out.mono ?_; rintro e w1 ⟨v, fv2, n2, rfl, hI0, hrf, hp1, hn2, hk1, hnw1⟩; have hI := hI0.isI; clear hI0; have hrow3 := hk1.at hng hrow2; have c3 : w1.cell? ⟨g, j, none⟩ = some .nilIface := (by rw [cell_of_at hrow3 j, hc1]); have f3 := free_of_at hrow3 j; have HREL := (show Hid _ from HMK.out v fv2 n2 w1 hI hrf hp1 hn2 hk1 hnw1); clear hrf hp1 hk1 hnw1; rcases hI with rfl | ⟨tv, yv, rfl⟩)
      all_goals
        go_roundg k
        case measure => omega
        case rel => exact HREL.out
    · have : j = ds.length := by omega
      subst this
      have hP := HP.out.2
      rw [List.drop_length, Rd.kForms_nil, Rd.PR.app_nil _ HP.out.1] at hP
      clear hsl hF0 HP hp
      go_wp2
      go_ret
      rw [← hP]
      refine ⟨_, fv', n', rfl, ⟨g, ds.length, c, 96, rfl, Nat.le_refl _, by omega, hrow, fun i hi => ⟨vf i, hci i hi⟩⟩, ?_, hpar, by rw [List.drop_length, Rd.kzL] at hfew; omega, hkept, hnw⟩
      intro xs hxs
      obtain ⟨hl, he⟩ := hels xs hxs
      rw [← hl]
      refine .list g 0 _ c 96 xs vf ⟨by have := HG.out; omega, hfar⟩ hrow (Nat.le_refl _) (by omega) ?_ ?_
      · intro i hi
        rw [Nat.zero_add]
        exact (hci i (by omega)).1
      · intro i hi
        exact (he i hi).mono fun k _ h => ⟨⟨by have h1 := h.1; have := HG.out; omega, h.2.2⟩, rfl⟩
end Go.Proofs.YtodeeegbajgafaaGreatDoor

namespace Go.Proofs.YtodeeegbajgafaaGreatDoor
open Go.RowKit
/-- The parser's scopes changed, the faults are as they were. -/
theorem PAtK.other {pb sb kb : Nat} {env env' : List (List Rd.Sym)} {fl : Option Nat} {fv : Value} {n : Nat} {w w' : World} (h : PAtK pb sb kb env fl fv n w) (hp : PAtV fv pb sb kb env' w') (hk : Kept (PM pb sb) w w') : PAtK pb sb kb env' fl fv n w' := by
  obtain ⟨_, ⟨⟨cs, h2, h3⟩, h4, h5⟩, h6⟩ := h
  refine ⟨hp, ⟨⟨cs, ?_, h3⟩, h4, h5⟩, h6⟩
  obtain ⟨a, b | ⟨gb, cap, cur, hv, hB, hh, r⟩⟩ := h2
  · exact ⟨a, .inl b⟩
  · refine ⟨a, .inr ⟨gb, cap, cur, hv, hB, hk.at ?_ hh, r⟩⟩
    intro e
    have := h6 gb (by rw [hv]; rfl)
    rcases e with e | e
    · exact this.1 e
    · exact this.2.1 e
theorem Kept.toK {pb sb : Nat} {w w' : World} (h : Kept (PM pb sb) w w') (fv : Value) : Kept (PMK pb sb fv) w w' := h.mono fun k _ e => by
  rcases e with e | e
  · exact .inl e
  · exact .inr (.inl e)
set_option maxHeartbeats 1000000 in
set_option maxRecDepth 10000 in
theorem within_k (f : Nat) (HF : FormsCK f) (pb sb kb : Nat) (env : List (List Rd.Sym)) (fl : Option Nat) (fv : Value) (n : Nat) (w : World) (ns : List Rd.Sym) (nv : Value) (ds : List Rd.D) (sl : Value) (hp : PAtK pb sb kb env fl fv n w) (hf2 : 2 * Rd.kzL ds + 1 ≤ f) (hf : env.length + 1 + f ≤ 5000) (hnz : n + Rd.kzL ds ≤ 4000) (hl : ns.length ≤ 5000)
    (hn : RepN (fun k => ¬ PMK pb sb fv k) w nv ns) (hd : Differ ns) (hsl : RepS (fun k => ¬ PMK pb sb fv k) w sl ds) :
    Calls Tryz.prog 104 #[.pointer (some ⟨pb, 0, none⟩), nv, sl] w fun e w' => ∃ v fv' n', e = .returned v ∧ (∃ g cap, v = .slice (some ⟨g, 0, none⟩) ds.length cap) ∧ (∀ xs, Rd.kForms f (ns :: env) ds = .ok xs → RepFs (NewOk w fv') w' v xs) ∧ PAtK pb sb kb env (flOr fl (Rd.kForms f (ns :: env) ds)) fv' n' w' ∧ n' ≤ n + Rd.kzL ds ∧ Kept (PMK pb sb fv) w w' ∧ NewF w fv fv' := by
  obtain ⟨nb, nc, rfl, hnc⟩ := hn.shape
  have hpm : ∀ (fv : Value) k, ¬ PMK pb sb fv k → ¬ PM pb sb k := fun fv k h e => h (by rcases e with e | e; exact .inl e; exact .inr (.inl e))
  have hn1 : RepN (fun k => ¬ PM pb sb k) w (.slice nb ns.length nc) ns := hn.mono fun k _ h => ⟨hpm fv k h, rfl⟩
  generalize hR : Rd.kForms f (ns :: env) ds = R
  have HR := (show Hid _ from hR)
  clear hR
  have HC : Hid (∀ W, PAtK pb sb kb (ns :: env) fl fv n W → Kept (PM pb sb) w W → Calls Tryz.prog 101 #[.pointer (some ⟨pb, 0, none⟩), sl] W (RulesK pb sb kb (ns :: env) fl fv n (Rd.kzL ds) ds.length W R)) := fun W hW hk => by
    have := HF pb sb kb (ns :: env) fl fv n W ds sl hW hf2 (by simp; omega) hnz (hsl.mono (keptK_rep (hk.toK fv) (NewF.refl _ _)))
    rw [HR.out] at this
    exact this
  have HP : Hid (PAtK pb sb kb env fl fv n w) := hp
  have hpar := hp.par
  have hlp := hp.par.lt
  clear hp HF HR hsl
  go_enter_defers Tryz.func104, Tryz.ntmps104
  go_wp2_with (first | (go_at_call 137; refine (enter_v fv pb sb kb env _ ns _ hpar (by omega) (by omega) hn1 hd).mono ?_; rintro e w1 ⟨rfl, hp1, hk1⟩) | (go_at_call 101; refine (HC.out _ (HP.out.other hp1 hk1) hk1).mono ?_; rintro e w2 ⟨v, fv2, n2, rfl, hsh, hrep, hp2, hn2, hk2, hnw2⟩; obtain ⟨g, cap, c, T, rfl, hq1, hq2, hq3, hq4⟩ := id hsh))
  refine leaves_cons (f := 138) (args := #[.pointer (some ⟨pb, 0, none⟩), .slice nb ns.length nc]) (by simp) (by simp [go_sem]) ?_
  have hnr : RepN (fun k => ¬ PM pb sb k) w2 (.slice nb ns.length nc) ns := ((hn.mono (keptK_rep (hk1.toK fv) (NewF.refl _ _))).mono (keptK_rep hk2 hnw2)).mono fun k _ h => ⟨hpm fv2 k h, rfl⟩
  refine (leave_dv fv2 pb sb kb env _ ns .returning _ hp2.par (by omega) (by omega) hnr).mono ?_
  rintro e u' w3 ⟨rfl, rfl, hp3, hk3⟩
  have hs1 := hk1.size
  refine ⟨_, results_tmp rfl _ _ _, _, fv2, n2, rfl, ⟨g, cap, rfl⟩, ?_, hp2.other hp3 hk3, hn2, keptK_trans (keptK_trans (hk1.toK fv) hk2 (NewF.refl _ _)) (hk3.toK fv2) ?_, ?_⟩
  · intro xs hxs
    refine (hrep xs hxs).mono ?_
    intro k hk hge
    have h1 := hge.1
    refine ⟨⟨by omega, hge.2⟩, hk3.block k hk fun h => ?_⟩
    rcases h with h | h <;> omega
  · exact (NewF.refl w fv).trans hnw2 hs1
  · exact (NewF.refl w fv).trans hnw2 hs1
end Go.Proofs.YtodeeegbajgafaaGreatDoor

namespace Go.Proofs.YtodeeegbajgafaaGreatDoor
open Go.RowKit
theorem flOr_no {α : Type} (fl : Option Nat) (p : Nat) : flOr fl (Rd.PR.no p : Rd.PR α) = some (fl.getD p) := by cases fl <;> rfl
theorem shp_map {α : Type} (r : Rd.PR α) (h : α → Rd.F) (t : TypeId) (x : Value) : Shp (r.map h) (.iface t x) := by cases r <;> exact ⟨_, _, rfl⟩
theorem flOr_map {α β : Type} (fl : Option Nat) (r : Rd.PR α) (h : α → β) : flOr fl (r.map h) = flOr fl r := by cases fl <;> cases r <;> rfl
theorem Kept.below_then {pb sb : Nat} {fv : Value} {w W w' : World} (hb : Below w.heap.size w W) (h : Kept (PMK pb sb fv) W w') : Kept (PMK pb sb fv) w w' := (Kept.of_below hb _).trans h
theorem NewF.below {w W : World} {fv fv' : Value} (hb : Below w.heap.size w W) (h : NewF W fv fv') : NewF w fv fv' := fun k hk => (h k hk).imp id (fun e => Nat.le_trans hb.size e)
/-- A list is refused. -/
theorem refuse_d (pb sb kb : Nat) (env : List (List Rd.Sym)) (fl : Option Nat) (fv : Value) (n m : Nat) (w : World) (p : Nat) (sa : Option Addr) (sn sc : Nat) (ti : TypeId) (xv : Value) (h : PAtK pb sb kb env fl fv n w) (hn : n + m ≤ 4000) (hm : 1 ≤ m) (W : World) (hb : Below w.heap.size w W) :
    Calls Tryz.prog 59 #[.pointer (some ⟨pb, 0, none⟩), .agg #[.int .i64 p, .slice sa sn sc, .iface ti xv]] W fun e w' => e = .returned .nilIface ∧ RuleK pb sb kb env fl fv n m w (.no p) e w' := by
  refine (refuse_k pb sb kb env fl fv n W p sa sn sc ti xv (h.kept hb) (by omega)).mono ?_
  rintro e w' ⟨rfl, fv', h1, h2, h3⟩
  refine ⟨rfl, .nilIface, fv', n + 1, rfl, rfl, fun x hx => (by cases hx), ?_, by omega, h2.below_then hb, h3.below hb⟩
  rw [flOr_no]
  exact h1
theorem box_below (w : World) (o : Obj) : Below w.heap.size w (w.alloc o) := (Below.refl _ w).alloc (Nat.le_refl _) _
theorem NewOk.of {w W : World} {fv : Value} (hb : Below w.heap.size w W) {w' : World} {v : Value} {x : Rd.F ⊕ List Rd.F} (h : RepX (NewOk W fv) w' v x) : RepX (NewOk w fv) w' v x := h.mono fun _ _ hk => ⟨⟨Nat.le_trans hb.size hk.1, hk.2⟩, rfl⟩
/-- What the forms behind a list's first part come to. -/
theorem rest_forms (f : Nat) (HF : FormsCK f) (pb sb kb : Nat) (env : List (List Rd.Sym)) (fl : Option Nat) (fv : Value) (n : Nat) (w : World) (g o cap : Nat) (d0 : Rd.D) (rest : List Rd.D) (hp : PAtK pb sb kb env fl fv n w) (hs : RepS (fun k => ¬ PMK pb sb fv k) w (.slice (some ⟨g, o, none⟩) (rest.length + 1) cap) (d0 :: rest)) (hf2 : 2 * Rd.kzL rest + 1 ≤ f) (hf : env.length + f ≤ 5000) (hnz : n + Rd.kzL rest ≤ 4000) (W : World) (hb : Below w.heap.size w W) :
    Calls Tryz.prog 101 #[.pointer (some ⟨pb, 0, none⟩), .slice (some ⟨g, o + 3, none⟩) rest.length (cap - 1)] W (RulesK pb sb kb env fl fv n (Rd.kzL rest) rest.length W (Rd.kForms f env rest)) := by
  have hd := hs.drop 1 (by simp)
  simp only [List.length_cons, List.drop_one, List.tail_cons, Nat.add_sub_cancel, Nat.mul_one] at hd
  exact HF pb sb kb env fl fv n W rest _ (hp.kept hb) hf2 hf hnz (hd.mono fun k hk h => ⟨h, hb.block k hk⟩)
set_option maxHeartbeats 1000000 in
set_option maxRecDepth 10000 in
theorem begin_k (f : Nat) (HF : FormsCK f) (pb sb kb : Nat) (env : List (List Rd.Sym)) (fl : Option Nat) (fv : Value) (n : Nat) (w : World) (p : Nat) (g o cap : Nat) (d0 : Rd.D) (rest : List Rd.D) (hp : PAtK pb sb kb env fl fv n w)
    (hs : RepS (fun k => ¬ PMK pb sb fv k) w (.slice (some ⟨g, o, none⟩) (rest.length + 1) cap) (d0 :: rest)) (hf2 : 2 * Rd.kzL rest + 1 ≤ f) (hf : env.length + f ≤ 5000) (hnz : n + (Rd.kzL rest + 1) ≤ 4000) (R : Rd.PR Rd.F) (hnil : rest = [] → R = .no p) (hcons : rest ≠ [] → R = (Rd.kForms f env rest).map .begin_) :
    Calls Tryz.prog 52 #[.pointer (some ⟨pb, 0, none⟩), lsV p g o (rest.length + 1) cap] w (RuleK pb sb kb env fl fv n (Rd.kzL rest + 1) w R) := by
  have hcap := hs.len.2
  simp only [List.length_cons] at hcap
  have hB := box_below w (.cells #[.int .i64 p, .slice (some ⟨g, o, none⟩) (rest.length + 1) cap, .iface 146 (.agg #[])] 62)
  have hlz := Rd.kzL_len rest
  cases rest with
  | nil =>
    rw [hnil rfl]
    clear hnil hcons
    have HREF : Hid (Calls Tryz.prog 59 #[.pointer (some ⟨pb, 0, none⟩), .agg #[.int .i64 p, .slice (some ⟨g, o, none⟩) 1 cap, .iface 146 (.agg #[])]] (w.alloc (.cells #[.int .i64 p, .slice (some ⟨g, o, none⟩) 1 cap, .iface 146 (.agg #[])] 62)) fun e w' => e = .returned .nilIface ∧ RuleK pb sb kb env fl fv n (Rd.kzL [] + 1) w (.no p) e w') := refuse_d pb sb kb env fl fv n _ w p _ _ _ _ _ hp hnz (by omega) _ hB
    clear hp hs HF
    unfold lsV
    simp only [List.length_nil, Nat.zero_add] at *
    go_enter Tryz.func52, Tryz.ntmps52
    go_wp2_with (first | (go_at_call 59; refine HREF.out.mono ?_; rintro e w1 ⟨rfl, hfin⟩; have HFIN := (show Hid _ from hfin); clear hfin))
    go_ret
    exact HFIN.out
  | cons b bs =>
    have HC : Hid (Calls Tryz.prog 101 #[.pointer (some ⟨pb, 0, none⟩), .slice (some ⟨g, o + 3, none⟩) (b :: bs).length (cap - 1)] (w.alloc (.cells #[.int .i64 p, .slice (some ⟨g, o, none⟩) ((b :: bs).length + 1) cap, .iface 146 (.agg #[])] 62)) (RulesK pb sb kb env fl fv n (Rd.kzL (b :: bs)) (b :: bs).length (w.alloc (.cells #[.int .i64 p, .slice (some ⟨g, o, none⟩) ((b :: bs).length + 1) cap, .iface 146 (.agg #[])] 62)) (Rd.kForms f env (b :: bs)))) := rest_forms f HF pb sb kb env fl fv n w g o cap d0 (b :: bs) hp hs hf2 hf (by omega) _ hB
    rw [hcons (by simp)]
    clear hnil hcons
    have hlen : (b :: bs).length ≤ 4000 := by omega
    have hpos : 0 < (b :: bs).length := by simp
    generalize Rd.kForms f env (b :: bs) = R at *
    generalize hL : (b :: bs).length = L at *
    generalize Rd.kzL (b :: bs) = Z at *
    clear hp hs HF hL
    unfold lsV
    go_enter Tryz.func52, Tryz.ntmps52
    go_wp2_with (first | (go_at_call 101; refine HC.out.mono ?_; rintro e w1 ⟨v, fv', n', rfl, hsh, hrep, hp1, hn1, hk1, hnw1⟩; obtain ⟨sg, scap, sc, sT, rfl, _, _, _, _⟩ := id hsh))
    go_ret
    refine ⟨_, fv', n', rfl, shp_map _ _ _ _, ?_, by rw [flOr_map]; exact hp1, by omega, hk1.below_then hB, hnw1.below hB⟩
    intro x hx
    cases R with
    | bad q => cases hx
    | no q => cases hx
    | ok xs =>
      cases hx
      exact .begin_ _ _ (NewOk.of hB (hrep xs rfl))
set_option maxHeartbeats 1000000 in
set_option maxRecDepth 10000 in
theorem reset_k (f : Nat) (HF : FormsCK f) (pb sb kb : Nat) (env : List (List Rd.Sym)) (fl : Option Nat) (fv : Value) (n : Nat) (w : World) (p : Nat) (g o cap : Nat) (d0 : Rd.D) (rest : List Rd.D) (hp : PAtK pb sb kb env fl fv n w)
    (hs : RepS (fun k => ¬ PMK pb sb fv k) w (.slice (some ⟨g, o, none⟩) (rest.length + 1) cap) (d0 :: rest)) (hf2 : 2 * Rd.kzL rest + 1 ≤ f) (hf : env.length + f ≤ 5000) (hnz : n + (Rd.kzL rest + 1) ≤ 4000) (R : Rd.PR Rd.F) (hnil : rest = [] → R = .no p) (hcons : rest ≠ [] → R = (Rd.kForms f env rest).map .reset) :
    Calls Tryz.prog 57 #[.pointer (some ⟨pb, 0, none⟩), lsV p g o (rest.length + 1) cap] w (RuleK pb sb kb env fl fv n (Rd.kzL rest + 1) w R) := by
  have hcap := hs.len.2
  simp only [List.length_cons] at hcap
  have hB := box_below w (.cells #[.int .i64 p, .slice (some ⟨g, o, none⟩) (rest.length + 1) cap, .iface 146 (.agg #[])] 62)
  have hlz := Rd.kzL_len rest
  cases rest with
  | nil =>
    rw [hnil rfl]
    clear hnil hcons
    have HREF : Hid (Calls Tryz.prog 59 #[.pointer (some ⟨pb, 0, none⟩), .agg #[.int .i64 p, .slice (some ⟨g, o, none⟩) 1 cap, .iface 146 (.agg #[])]] (w.alloc (.cells #[.int .i64 p, .slice (some ⟨g, o, none⟩) 1 cap, .iface 146 (.agg #[])] 62)) fun e w' => e = .returned .nilIface ∧ RuleK pb sb kb env fl fv n (Rd.kzL [] + 1) w (.no p) e w') := refuse_d pb sb kb env fl fv n _ w p _ _ _ _ _ hp hnz (by omega) _ hB
    clear hp hs HF
    unfold lsV
    simp only [List.length_nil, Nat.zero_add] at *
    go_enter Tryz.func57, Tryz.ntmps57
    go_wp2_with (first | (go_at_call 59; refine HREF.out.mono ?_; rintro e w1 ⟨rfl, hfin⟩; have HFIN := (show Hid _ from hfin); clear hfin))
    go_ret
    exact HFIN.out
  | cons b bs =>
    have HC : Hid (Calls Tryz.prog 101 #[.pointer (some ⟨pb, 0, none⟩), .slice (some ⟨g, o + 3, none⟩) (b :: bs).length (cap - 1)] (w.alloc (.cells #[.int .i64 p, .slice (some ⟨g, o, none⟩) ((b :: bs).length + 1) cap, .iface 146 (.agg #[])] 62)) (RulesK pb sb kb env fl fv n (Rd.kzL (b :: bs)) (b :: bs).length (w.alloc (.cells #[.int .i64 p, .slice (some ⟨g, o, none⟩) ((b :: bs).length + 1) cap, .iface 146 (.agg #[])] 62)) (Rd.kForms f env (b :: bs)))) := rest_forms f HF pb sb kb env fl fv n w g o cap d0 (b :: bs) hp hs hf2 hf (by omega) _ hB
    rw [hcons (by simp)]
    clear hnil hcons
    have hlen : (b :: bs).length ≤ 4000 := by omega
    have hpos : 0 < (b :: bs).length := by simp
    generalize Rd.kForms f env (b :: bs) = R at *
    generalize hL : (b :: bs).length = L at *
    generalize Rd.kzL (b :: bs) = Z at *
    clear hp hs HF hL
    unfold lsV
    go_enter Tryz.func57, Tryz.ntmps57
    go_wp2_with (first | (go_at_call 101; refine HC.out.mono ?_; rintro e w1 ⟨v, fv', n', rfl, hsh, hrep, hp1, hn1, hk1, hnw1⟩; obtain ⟨sg, scap, sc, sT, rfl, _, _, _, _⟩ := id hsh))
    go_ret
    refine ⟨_, fv', n', rfl, shp_map _ _ _ _, ?_, by rw [flOr_map]; exact hp1, by omega, hk1.below_then hB, hnw1.below hB⟩
    intro x hx
    cases R with
    | bad q => cases hx
    | no q => cases hx
    | ok xs =>
      cases hx
      exact .reset _ _ (NewOk.of hB (hrep xs rfl))
end Go.Proofs.YtodeeegbajgafaaGreatDoor
