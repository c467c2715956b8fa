/- The reader reads data one behind the other. -/
import Derived.Test.YtodeeegbajgafaaGreatDoorQ17
import Derived.Deep.LoopGhost
import Derived.Maps.AppendAt
namespace Go.Proofs.YtodeeegbajgafaaGreatDoor
open Go.RowKit

/-- What reading one datum does, the text's reading given by 'f' rounds at most. -/
def DatumC (f : Nat) : Prop := ∀ (rb : Nat) (s : ByteArray) (l : List UInt8) (d dep : Nat) (w : World) (dd : Rd.D) (l' : List UInt8) (m : Nat), s.size ≤ 500 → l <:+ s.data.toList → RdAt rb s l d w →
  Rd.rdDatum f s.size dep l = some (dd, l', m) → dep + f ≤ 4000 →
  Calls Tryz.prog 44 #[.pointer (some ⟨rb, 0, none⟩), .int .i64 dep] w fun e w' => ∃ (p : Nat) (po : Option Addr) (n c : Nat) (ti : TypeId) (xv : Value), e = .returned (.tuple #[.agg #[.int .i64 p, .slice po n c, .iface ti xv], .bool true]) ∧ RepD (fun k => w.heap.size ≤ k) w' (.agg #[.int .i64 p, .slice po n c, .iface ti xv]) dd ∧ RdAt rb s l' (max d m : Nat) w' ∧ l' <:+ s.data.toList ∧ Kept (· = rb) w w'

def DataC (f : Nat) : Prop := ∀ (rb : Nat) (s : ByteArray) (l : List UInt8) (d dep : Nat) (w : World) (ds : List Rd.D) (l' : List UInt8) (m : Nat), s.size ≤ 500 → l <:+ s.data.toList → RdAt rb s l d w →
  Rd.rdList f s.size dep l = some (ds, l', m) → dep + f ≤ 4000 →
  Calls Tryz.prog 31 #[.pointer (some ⟨rb, 0, none⟩), .int .i64 dep] w fun e w' => ∃ sl, e = .returned (.tuple #[sl, .bool true]) ∧ RepS (fun k => w.heap.size ≤ k) w' sl ds ∧ RdAt rb s l' (max d m : Nat) w' ∧ l' <:+ s.data.toList ∧ Kept (· = rb) w w'

/-- The own row of a slice: what its three cells an element are. -/
def el3 (xs : List Value) (i : Nat) : Value := .agg #[xs.getD (3 * i) undef, xs.getD (3 * i + 1) undef, xs.getD (3 * i + 2) undef]

/-- The loop's relation: 'v' holds the data that are read, 'lc' is what is left. -/
theorem ownsRow_kept {B : Nat} {e size n : Nat} {v : Value} {xs : List Value} {M : Nat → Prop} {w w' : World} (h : w.ownsRow B e size v n xs) (hk : Kept M w w') (hm : ∀ g, B ≤ g → ¬ M g) : w'.ownsRow B e size v n xs := by
  obtain ⟨h1, h2 | ⟨g, cap, cur, hv, hg, hh, r⟩⟩ := h
  · exact ⟨h1, Or.inl h2⟩
  · exact ⟨h1, Or.inr ⟨g, cap, cur, hv, hg, hk.at (hm g hg) hh, r⟩⟩
theorem ownBlock_of {B : Nat} {e size n : Nat} {v : Value} {xs : List Value} {w : World} (h : w.ownsRow B e size v n xs) : ∀ g, v.ownBlock = some g → B ≤ g ∧ g < w.heap.size := by
  intro g hg
  obtain ⟨_, ⟨rfl, _⟩ | ⟨g', cap, cur, rfl, hB, hh, _⟩⟩ := h
  · cases hg
  · cases hg; exact ⟨hB, lt_of_at hh⟩

structure Ahead (rb : Nat) (s : ByteArray) (w : World) (ds : List Rd.D) (l' : List UInt8) (top dep f : Nat) (k : Nat) (v : Value) (wr : World) : Prop where
  top_le : k ≤ f
  ex : ∃ (done : List Rd.D) (lc : List UInt8) (dc : Nat) (rest : List Rd.D) (m' : Nat) (xs : List Value), Rd.rdList k s.size dep lc = some (rest, l', m') ∧ ds = done ++ rest ∧ max dc m' = top ∧ lc <:+ s.data.toList ∧ RdAt rb s lc dc wr ∧ Kept (· = rb) w wr ∧
    wr.ownsRow w.heap.size 62 3 v done.length xs ∧ (∀ i (hi : i < done.length), RepD (fun k => w.heap.size ≤ k ∧ some k ≠ v.ownBlock) wr (el3 xs i) done[i])

theorem Tryz.info62 : (Tryz.prog.info? 62).map (fun i => (i.zero, i.size, i.bytes)) = some (some (.agg #[.int .i64 0, .slice none 0 0, .nilIface]), 3, 48) := by kernel_rfl

/-- The end: the own row is a slice of data. -/
theorem own_reps {B : Nat} {w : World} {v : Value} {ds : List Rd.D} {xs : List Value} (ho : w.ownsRow B 62 3 v ds.length xs) (hs : ∀ i (hi : i < ds.length), RepD (fun k => B ≤ k ∧ some k ≠ v.ownBlock) w (el3 xs i) ds[i]) :
    RepS (fun k => B ≤ k) w v ds := by
  obtain ⟨hx, h | ⟨g, cap, cur, rfl, hg, hh, hn, hcap, hcs, htk⟩⟩ := ho
  · obtain ⟨rfl, h0⟩ := h
    exact Or.inl ⟨rfl, List.length_eq_zero_iff.1 h0⟩
  · refine Or.inr ⟨g, 0, cap, cur, 62, fun i => xs.getD (3 * i) undef, fun i => xs.getD (3 * i + 1) undef, fun i => xs.getD (3 * i + 2) undef, rfl, hg, hh, hn, ?_, fun i hi => (hs i hi).mono fun k _ h => ⟨h.1, rfl⟩⟩
    intro i hi
    have key : ∀ j, j < ds.length * 3 → cur[j]? = some (xs.getD j undef) := by
      intro j hj
      have h1 : (cur.toList.take (ds.length * 3))[j]? = xs[j]? := by rw [htk]
      rw [List.getElem?_take, if_pos hj] at h1
      rw [← Array.getElem?_toList, h1, List.getD_eq_getElem?_getD, List.getElem?_eq_getElem (by omega)]
      rfl
    refine ⟨?_, ?_, ?_⟩
    · rw [Nat.zero_add]; exact key _ (by omega)
    · rw [Nat.zero_add]; exact key _ (by omega)
    · rw [Nat.zero_add]; exact key _ (by omega)

theorem cell_three {W : World} {k : Nat} {a b c : Value} {T : TypeId} (h : W.heap[k]? = some (.cells #[a, b, c] T (0, 0))) :
    ∀ j u, [a, b, c][j]? = some u → W.cell? ((⟨k, 0, none⟩ : Addr).add j) = some u := by
  intro j u hj
  have : W.cell? ⟨k, 0 + j, none⟩ = #[a, b, c][0 + j]? := cell_of_at h _
  rw [Nat.zero_add] at this
  have e : (⟨k, 0, none⟩ : Addr).add j = ⟨k, j, none⟩ := by
    unfold Addr.add
    split
    · rename_i h0; subst h0; rfl
    · simp
  rw [e, this]
  simpa using hj

theorem ahead_push {rb : Nat} {s : ByteArray} {w : World} {ds : List Rd.D} {l' : List UInt8} {top dep f k : Nat} {v : Value} {wr : World} {done : List Rd.D} {dc : Nat} {rest : List Rd.D} {m' : Nat} {xs : List Value}
    (hkf : k ≤ f) (hlt : rb < w.heap.size) (hds : ds = done ++ rest) (htop : max dc m' = top) (hkc : Kept (· = rb) w wr) (hown : wr.ownsRow w.heap.size 62 3 v done.length xs)
    (hels : ∀ i (hi : i < done.length), RepD (fun k => w.heap.size ≤ k ∧ some k ≠ v.ownBlock) wr (el3 xs i) done[i])
    {dd : Rd.D} {l1 : List UInt8} {m1 : Nat} {es : List Rd.D} {m2 : Nat} (hl1 : Rd.rdList k s.size dep l1 = some (es, l', m2)) (he : rest = dd :: es) (hm' : m' = max m1 m2)
    {w1 : World} {v0 v1 v2 : Value} (hrep : RepD (fun k => wr.heap.size ≤ k) w1 (.agg #[v0, v1, v2]) dd) (hr1 : RdAt rb s l1 (max dc m1 : Nat) w1) (hsf : l1 <:+ s.data.toList) (hk1 : Kept (· = rb) wr w1)
    {o1 o2 : Obj} {v' : Value} {w2 : World} (hown' : w2.ownsRow w.heap.size 62 3 v' (done.length + 1) (xs ++ [v0, v1, v2])) (hg : ((w1.alloc o1).alloc o2).grownBy w2 v.ownBlock)
    (hat : v'.ownBlock = v.ownBlock ∨ v'.ownBlock = some (w1.heap.size + 1 + 1)) : Ahead rb s w ds l' top dep f k v' w2 := by
  have hob := ownBlock_of hown
  have hkW : Kept (· = rb) wr ((w1.alloc o1).alloc o2) := (hk1.alloc o1).alloc o2
  have hsz := hkc.size
  have hs1 := hk1.size
  have hsW := hkW.size
  have hstep : ∀ j, j < w1.heap.size → some j ≠ v.ownBlock → w2.heap[j]? = w1.heap[j]? := by
    intro j hj hne
    have e1 : ((w1.alloc o1).alloc o2).heap[j]? = w1.heap[j]? := by
      rw [Below.heap_alloc _ _ _ (by simp; omega), Below.heap_alloc _ _ _ hj]
    rw [hg.block j (by simp; omega) hne, e1]
  have hrb : some rb ≠ v.ownBlock := by
    intro e
    have := (hob rb e.symm).1
    omega
  refine ⟨hkf, done ++ [dd], l1, max dc m1, es, m2, xs ++ [v0, v1, v2], hl1, by rw [hds, he]; simp, by rw [← htop, hm']; omega, hsf, ?_, ?_, by simpa using hown', ?_⟩
  · obtain ⟨T, h⟩ := hr1
    exact ⟨T, (hstep rb (lt_of_at h) hrb).trans h⟩
  · exact (hkc.trans hkW).grown hg (fun g e hlt' => by have := (hob g e).1; omega)
  · intro i hi
    have hxl : xs.length = done.length * 3 := hown.1
    simp only [List.length_append, List.length_cons, List.length_nil] at hi
    by_cases hlast : i < done.length
    · have e1 : el3 (xs ++ [v0, v1, v2]) i = el3 xs i := by
        unfold el3
        simp only [List.getD_eq_getElem?_getD]
        rw [List.getElem?_append_left (by omega), List.getElem?_append_left (by omega), List.getElem?_append_left (by omega)]
      rw [e1]
      have e2 : (done ++ [dd])[i] = done[i] := List.getElem_append_left hlast
      rw [e2]
      refine (hels i hlast).mono ?_
      intro j hj ⟨h1, h2⟩
      refine ⟨⟨h1, ?_⟩, ?_⟩
      · rcases hat with h | h
        · rw [h]; exact h2
        · rw [h]; intro e; cases e; omega
      · rw [hstep j (by omega) h2]
        exact hk1.block j hj (fun (e : j = rb) => by omega)
    · have hi' : i = done.length := by omega
      subst hi'
      have e1 : el3 (xs ++ [v0, v1, v2]) done.length = .agg #[v0, v1, v2] := by
        unfold el3
        simp only [List.getD_eq_getElem?_getD]
        rw [List.getElem?_append_right (by omega), List.getElem?_append_right (by omega), List.getElem?_append_right (by omega)]
        rw [show 3 * done.length - xs.length = 0 by omega, show 3 * done.length + 1 - xs.length = 1 by omega, show 3 * done.length + 2 - xs.length = 2 by omega]
        rfl
      have e2 : (done ++ [dd])[done.length] = dd := by simp
      rw [e1, e2]
      refine hrep.mono ?_
      intro j hj h1
      refine ⟨⟨by omega, ?_⟩, ?_⟩
      · rcases hat with h | h
        · rw [h]; intro e
          have := (hob j e.symm).2
          omega
        · rw [h]; intro e; cases e; omega
      · refine hstep j hj ?_
        intro e
        have := (hob j e.symm).2
        omega

set_option maxHeartbeats 1000000 in
set_option maxRecDepth 100000 in
theorem dataAhead_any (f : Nat) (H : ∀ g, g < f → DatumC g) : DataC f := by
  intro rb s l d dep w ds l' m hs hl hr hrd hdep
  obtain ⟨i0, hi, hz0, hz1, hz2⟩ := info_parts Tryz.info62
  have hshort := Rd.rdList_short _ _ _ _ _ _ _ hrd
  have hlt : rb < w.heap.size := by obtain ⟨T, h⟩ := hr; exact lt_of_at h
  go_enter Tryz.func31, Tryz.ntmps31
  go_wp2
  go_loopg [6] f (fun k v wr => Ahead rb s w ds l' (max d m) dep f k v wr)
  case atStart => exact ⟨Nat.le_refl _, [], l, d, ds, m, [], hrd, rfl, rfl, hl, hr, Kept.refl _ _, ⟨rfl, Or.inl ⟨rfl, rfl⟩⟩, fun i hi => absurd hi (Nat.not_lt_zero _)⟩
  case round =>
    obtain ⟨hkf1, done, lc, dc, rest, m', xs, hrd', hds, htop, hlc, hrc, hkc, hown, hels⟩ := hrel
    obtain ⟨T, hrc1⟩ := id hrc
    have c1 : wr.cell? ⟨rb, 1, none⟩ = some (.int .i64 (Rd.kindAt lc : Nat)) := cell_of_at hrc1 1
    have hrlen := congrArg List.length hds
    rw [List.length_append] at hrlen
    have hrs := Rd.rdList_short _ _ _ _ _ _ _ hrd'
    cases gk with
    | zero => omega
    | succ k =>
    have hkf : k < f := hkf1
    have hszr := hkc.size
    clear hrc1
    by_cases hmore : Rd.kindAt lc = 5 ∨ Rd.kindAt lc = 1
    · obtain ⟨dd, l1, m1, es, l2, m2, hd1, hl1, he⟩ := Rd.rdList_more hrd' hmore
      simp only [Prod.mk.injEq] at he
      obtain ⟨he1, rfl, he3⟩ := he
      have HD1 := (show Hid _ from hd1)
      have A : Aside (ds = done ++ rest ∧ max dc m' = max d m ∧ Kept (· = rb) w wr ∧ wr.ownsRow w.heap.size 62 3 u6 done.length xs ∧ (∀ i (hi : i < done.length), RepD (fun k => w.heap.size ≤ k ∧ some k ≠ u6.ownBlock) wr (el3 xs i) done[i]) ∧ Rd.rdList k s.size dep l1 = some (es, l', m2) ∧ rest = dd :: es ∧ m' = max m1 m2) := ⟨hds, htop, hkc, hown, hels, hl1, he1, he3⟩
      clear hrd' hds htop hkc hown hels hl1 he1 he3 hd1
      rcases hmore with h5 | h5 <;>
      (rw [h5] at c1
       clear h5
       go_wp2_with (first | (go_at_call 44; refine (H k hkf rb s lc dc dep _ dd l1 m1 hs hlc hrc HD1.out (by omega)).mono ?_; rintro e w1 ⟨pp, po, pn, pc, ti, xv, rfl, hrep, hr1, hsf, hk1⟩) | (at_builtin; refine wpList_append_own_at _ rfl _ _ 55 rfl w.heap.size 62 i0 (.agg #[.int .i64 0, .slice none 0 0, .nilIface]) 3 48 Tryz.underlying55 hi hz0 hz1 hz2 rfl (by decide) u6 done.length xs rfl ?h1 ⟨w1.heap.size + 1, 0, none⟩ 1 1 [.int .i64 pp, .slice po pn pc, .iface ti xv] rfl rfl ?h2 ?h3 ?h4 ?h5 ?h6 ?_))
       case h1 =>
         refine ownsRow_kept (M := (· = rb)) A.out.2.2.2.1 ((hk1.alloc _).alloc _) (fun g hg e => ?_)
         subst e; exact absurd hg (Nat.not_le.2 hlt)
       case h2 => exact cell_three (by simpa using at_new (w1.alloc (.cells #[.int .i64 pp, .slice po pn pc, .iface ti xv] 62)) (.cells #[.int .i64 pp, .slice po pn pc, .iface ti xv] 62))
       case h3 => intro u hu; simp at hu; rcases hu with rfl | rfl | rfl <;> rfl
       case h4 => unfold maxLen; omega
       case h5 => omega
       case h6 => have := hk1.size; simp; omega
       intro v' w2 hown' hgrow _ hat
       obtain ⟨a1, a2, a3, a4, a5, a6, a7, a8⟩ := A.out
       have hAh : Ahead rb s w ds l' (max d m) dep f k v' w2 := ahead_push (by omega) hlt a1 a2 a3 a4 a5 a6 a7 a8 hrep hr1 hsf hk1 hown' hgrow hat
       clear a1 a2 a3 a4 a5 a6 a7 a8 hrep hr1 hsf hk1 hown' hgrow hat A
       go_wp2
       go_roundg k
       case measure => omega
       case rel => exact hAh)
    · obtain ⟨h4, he⟩ := Rd.rdList_end hrd' hmore
      simp only [Prod.mk.injEq] at he
      obtain ⟨he1, rfl, he3⟩ := he
      have A : Aside (ds = done ++ rest ∧ max dc m' = max d m ∧ Kept (· = rb) w wr ∧ wr.ownsRow w.heap.size 62 3 u6 done.length xs ∧ (∀ i (hi : i < done.length), RepD (fun k => w.heap.size ≤ k ∧ some k ≠ u6.ownBlock) wr (el3 xs i) done[i]) ∧ rest = [] ∧ m' = 0) := ⟨hds, htop, hkc, hown, hels, he1, he3⟩
      have t5 : ((Rd.kindAt l' : Int) == 5) = false := by simp; omega
      have t4 : ((Rd.kindAt l' : Int) == 4) = false := by simp; omega
      have t1 : ((Rd.kindAt l' : Int) == 1) = false := by simp; omega
      clear hrd' hds htop hkc hown hels he1 he3 hmore h4 hrd
      go_wp2
      go_ret2
      obtain ⟨a1, a2, a3, a4, a5, a6, a7⟩ := A.out
      subst a6 a7
      rw [List.append_nil] at a1
      subst a1
      exact ⟨u6, rfl, own_reps a4 a5, by rw [← a2]; simpa using hrc, hlc, a3⟩
end Go.Proofs.YtodeeegbajgafaaGreatDoor
