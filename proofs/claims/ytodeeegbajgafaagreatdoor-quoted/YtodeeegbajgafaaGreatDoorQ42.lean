/- A quoted datum is parsed, and comes to itself. The maker's datum: a text out of raw numbers. The maker's datum: lists. The walk of Quoted. -/
import Derived.Test.YtodeeegbajgafaaGreatDoorQ37
import Derived.Test.YtodeeegbajgafaaGreatDoorQ41
namespace Go.Proofs.YtodeeegbajgafaaGreatDoor
open Go.RowKit
open Mc

set_option maxHeartbeats 1000000 in
set_option maxRecDepth 10000 in
theorem quote_D (pb sb kb : Nat) (env : List (List Rd.Sym)) (w : World) (p : Int) (g o cap : Nat) (d0 d1 : Rd.D) (hsz : szD d1 ≤ 4000) (hp : PAt pb sb kb env w)
    (hs : RepS (fun k => ¬ PM pb sb k) w (.slice (some ⟨g, o, none⟩) 2 cap) [d0, d1]) :
    Calls Tryz.prog 49 #[.pointer (some ⟨pb, 0, none⟩), lsV p g o 2 cap] w (RuleR pb sb kb env w (.quoted d1)) := by
  have hcap := hs.len.2
  simp only [List.length_cons, List.length_nil] at hcap
  have hs2 := hs.mono (ok' := fun k => ¬ PM pb sb k) (w' := w.alloc (.cells #[.int .i64 p, .slice (some ⟨g, o, none⟩) 2 cap, .iface 146 (.agg #[])] 62)) (fun k hk h => ⟨h, Below.heap_alloc _ _ _ hk⟩)
  obtain ⟨g', o', cap', pp, po, pn, pc, ti, xv, heq, _, _, e0, e1, e2, hrep⟩ := hs2.cells 1 (by simp)
  simp only [Value.slice.injEq, Option.some.injEq, Addr.mk.injEq, and_true] at heq
  obtain ⟨⟨rfl, rfl⟩, _, rfl⟩ := heq
  simp only [List.getElem_cons_succ, List.getElem_cons_zero] at hrep
  simp only [Nat.mul_one] at e0 e1 e2
  have HV : Hid (Calls Tryz.prog 25 #[.agg #[.int .i64 pp, .slice po pn pc, .iface ti xv]] (w.alloc (.cells #[.int .i64 p, .slice (some ⟨g, o, none⟩) 2 cap, .iface 146 (.agg #[])] 62)) fun e w' => ∃ ty xy, e = .returned (.iface ty xy) ∧ RepQ (fun k => w.heap.size ≤ k) w' (.iface ty xy) (valD d1) ∧ Below w.heap.size w w') := by
    refine (value_t 0 (szD d1) d1 _ _ _ (Nat.le_refl _) hsz hrep).mono ?_
    rintro e w' ⟨y, rfl, hy, hb⟩
    obtain ⟨ty, xy, rfl⟩ := hy.iface
    exact ⟨ty, xy, rfl, (RepM.toQ _ _ hy (data_valD d1)).mono fun k _ hk => ⟨by simp at hk; omega, rfl⟩, ((Below.refl _ w).alloc (Nat.le_refl _) _).trans (hb.mono (by simp))⟩
  clear hrep hs hs2
  unfold lsV
  go_enter Tryz.func49, Tryz.ntmps49
  go_wp2_with (go_at_call 25; refine HV.out.mono ?_; rintro e w1 ⟨ty, xy, rfl, hq, hb⟩)
  go_ret
  exact ⟨_, rfl, .quoted _ _ hq, hp.kept hb, Kept.of_below hb _⟩
theorem top_quoted (pb sb kb : Nat) (w : World) (p q : Nat) (d1 : Rd.D) (v : Value) (hsz : szD d1 ≤ 4000) (hp : PAt pb sb kb [] w) (hrep : RepD (fun k => ¬ PM pb sb k) w v (.mk p [.mk q [] (.sym Rd.kwQuote), d1] .empty)) :
    Calls Tryz.prog 36 #[.pointer (some ⟨pb, 0, none⟩), v] w (RuleR pb sb kb [] w (.quoted d1)) := by
  obtain ⟨g, o, cap, rfl, hs⟩ := hrep.ls
  refine top_list pb sb kb w p g o cap _ _ _ hp hs (by simp [Rd.D.sym, Rd.kwQuote, Rd.kwDefine]) fun W hW hsW => ?_
  exact form_quote pb sb kb [] W p g o cap _ _ _ hW (by simp) hsW rfl fun W' hW' hsW' => quote_D pb sb kb [] W' p g o cap _ d1 hsz hW' hsW'
theorem parse_quoted (d1 : Rd.D) (p : Nat) (hsz : szD d1 ≤ 4000) (W : World) (sl : Value) (hsl : RepS (fun _ => True) W sl [Rd.quoteD p d1]) :
    Calls Tryz.prog 27 #[sl] W fun e w' => ∃ fv, e = .returned (.tuple #[fv, .int .i64 0, .int .i64 0]) ∧ RepFs (fun k => W.heap.size ≤ k) w' fv [.quoted d1] ∧ Below W.heap.size W w' :=
  parse_gen W [Rd.quoteD p d1] [.quoted d1] sl hsl rfl (fun j hj hjx pb sb W v hp hr => by
    obtain rfl : j = 0 := by simp at hj; omega
    exact top_quoted pb sb (sb + 1) W p p d1 v hsz hp hr) (by simp) (by simp)
theorem Ev.quoted {G : List (Rd.Sym × V)} {sn : List (List UInt8)} (d : Rd.D) (e : Env) : Ev G sn (.quoted d) e (valD d) 1 := fun fuel sh K B c hc => Goes.one (by rw [round_ev (by omega)]; rfl)
theorem TabOk.alloc {w : World} (h : TabOk w) (o : Obj) : TabOk (w.alloc o) := h.on (Below.heap_alloc _ _ _ h.lt)
theorem ErrsAt.alloc {w : World} (h : ErrsAt w) (o : Obj) : ErrsAt (w.alloc o) := h.kept (M := fun _ => False) ((Kept.refl _ w).alloc _) id id
/-- A datum's text behind a quote mark is run: it comes to the datum, in one step. -/
theorem run_quoted {N : Nat → Prop} {B ob : Nat} {G : List (Rd.Sym × V)} {g : Gh} {d : Rd.D} {w : World} (hM : Mach N B ob G w g) (hBw : B ≤ w.heap.size) (hNt : tabBlock < B) (htab : TabOk w) (hE : ErrsAt w) (hg : GD d) (hd : dpD d ≤ 19) (hl : (shD d).length ≤ 300) :
    Calls Tryz.prog 13 #[.pointer (some ⟨ob, 0, none⟩), .string ⟨(39 :: shD d).toArray⟩] w (ValR N B ob g G (shD d) 1 w) := by
  obtain ⟨d', hr, hsh⟩ := print_quote d hg hd hl
  have hg' := (readT_good _ _ hr).1
  have hok := (readT_small _ _ hr).1
  have hsz := (readT_small _ _ hr).2
  simp only [Rd.quoteD, GL, GD] at hg'
  simp only [Rd.quoteD, okL, okD] at hok
  simp only [Rd.quoteD, szL, szD] at hsz
  have hshow : ShowsAs (valD d') (shD d) := by
    rw [← hsh]
    exact shows_D d' hg'.1.2.2.1 hok.1.2.2.1 (by rw [hsh]; exact hl)
  have hx : Mc.Ends 20000 shN (begin_ G) [.quoted d'] (at_ G [] (.val (valD d')) [] [] 1) := Ev.ends (Ev.quoted d' []) (by omega)
  refine (run13_gen N B ob G g (39 :: shD d) (at_ G [] (.val (valD d')) [] [] 1) (shD d) w hM (by simp; omega) fun hM1 => ?_).mono ?_
  · refine eval17_gen shN callN _ B ob G g 20000 (Nat.le_refl _) (39 :: shD d) [Rd.quoteD 0 d'] [.quoted d'] _ (shD d) (w.alloc zeroOut) hM1 (by simp; omega) hNt (htab.alloc _) ?_ (fun W sl h => parse_quoted d' 0 (by omega) W sl h) hx (by simp) (fun _ u hu => ?_)
    · have := read_t ⟨(39 :: shD d).toArray⟩ ((w.alloc zeroOut).alloc zeroOut) ((hE.alloc _).alloc _)
      rw [hr] at this
      exact this
    · cases hu
      exact hshow
  · rintro e w' ⟨g', sa, sn', sc, rfl, h1, h2, h3⟩
    exact ⟨g', sa, sn', sc, rfl, h1, h2.below hBw hM.high, h2⟩
end Go.Proofs.YtodeeegbajgafaaGreatDoor

namespace Go.Proofs.YtodeeegbajgafaaGreatDoor
open Go.RowKit
open Mc

def DatM (rs : List Int) (ao : Option Addr) (cap mk : Nat) (m : Rd.D × List Int) (w : World) : Ending → World → Prop := fun e w' => e = .returned (.string ⟨(shD m.1).toArray⟩) ∧ Behind rs ao cap mk m.2 w w'
theorem Behind.refl {rs : List Int} {ao : Option Addr} {cap mk i : Nat} {w : World} (h : MkAt rs ao cap mk i w) : Behind rs ao cap mk (rs.drop i) w w := ⟨i, h, rfl, Kept.refl _ _⟩
theorem Behind.next {rs : List Int} {ao : Option Addr} {cap mk n : Nat} {r : List Int} {w w' : World} (hn : 0 < n) (hn1 : n ≤ 100000) (h : Behind rs ao cap mk r w w') : Calls Tryz.prog 18 #[.pointer (some ⟨mk, 0, none⟩), .int .i64 n] w' fun e w'' => e = .returned (.int .i64 ((Rd.nextN n r).1 : Nat)) ∧ Behind rs ao cap mk (Rd.nextN n r).2 w w'' := by
  obtain ⟨j, hj, rfl, hk⟩ := h
  exact (next18 rs ao cap mk j n hn hn1 w' hj).mono fun e w'' ⟨he, j', a, b, c⟩ => ⟨he, j', a, b, hk.trans c⟩
theorem Behind.alloc {rs : List Int} {ao : Option Addr} {cap mk : Nat} {r : List Int} {w w' : World} (h : Behind rs ao cap mk r w w') (o : Obj) : Behind rs ao cap mk r w (w'.alloc o) := by
  obtain ⟨j, hj, hd, hk⟩ := h
  exact ⟨j, hj.kept (M := fun _ => False) ((Kept.refl _ w').alloc o) id (fun _ _ => id), hd, hk.alloc o⟩
def cells11 : Array Value := #[.string ⟨#[97]⟩, .string ⟨#[35, 116]⟩, .string ⟨#[35, 102]⟩, .string ⟨#[40, 41]⟩, .string ⟨#[45, 53]⟩, .string ⟨#[48]⟩, .string ⟨#[105, 102]⟩, .string ⟨#[43]⟩, .string ⟨#[120, 33]⟩, .string ⟨#[45, 45]⟩, .string ⟨#[57, 50, 50, 51, 51, 55, 50, 48, 51, 54, 56, 53, 52, 55, 55, 53, 56, 48, 55]⟩]
theorem cells11_at (c : Nat) (h : c < 11) : cells11[c]? = some (.string ⟨(shA (Rd.atomAt c)).toArray⟩) := by
  rw [(atom_text c h).1]
  have hc : c = 0 ∨ c = 1 ∨ c = 2 ∨ c = 3 ∨ c = 4 ∨ c = 5 ∨ c = 6 ∨ c = 7 ∨ c = 8 ∨ c = 9 ∨ c = 10 := by omega
  rcases hc with rfl | rfl | rfl | rfl | rfl | rfl | rfl | rfl | rfl | rfl | rfl <;> rfl
def cells3t : Array Value := #[.string ⟨#[97]⟩, .string ⟨#[35, 116]⟩, .string ⟨#[55]⟩]
theorem cells3t_at (c : Nat) (h : c < 3) : cells3t[c]? = some (.string ⟨(Rd.dTailTs.getD c []).toArray⟩) := by
  have hc : c = 0 ∨ c = 1 ∨ c = 2 := by omega
  rcases hc with rfl | rfl | rfl <;> rfl

theorem next_arr {rs : List Int} {ao : Option Addr} {cap mk n : Nat} {r : List Int} {w w' : World} (hn : 0 < n) (hn1 : n ≤ 100000) (h : Behind rs ao cap mk r w w') (cs : Array Value) (T : TypeId) (S : Nat → Value) (hS : ∀ c, c < n → cs[c]? = some (S c)) :
    Calls Tryz.prog 18 #[.pointer (some ⟨mk, 0, none⟩), .int .i64 n] (w'.alloc (.cells cs T)) fun e w'' => e = .returned (.int .i64 ((Rd.nextN n r).1 : Nat)) ∧ Behind rs ao cap mk (Rd.nextN n r).2 w w'' ∧ w''.cell? ⟨w'.heap.size, (Rd.nextN n r).1, none⟩ = some (S (Rd.nextN n r).1) := by
  have hlt := Rd.nextN_lt n r hn
  obtain ⟨j, hj, rfl, hk⟩ := h.alloc (.cells cs T)
  have hmk : mk < w'.heap.size := by obtain ⟨j', hj', _⟩ := h; obtain ⟨T', hb⟩ := hj'.blk; exact lt_of_at hb
  refine (next18 rs ao cap mk j n hn hn1 _ hj).mono fun e w'' ⟨he, j', a, b, c⟩ => ⟨he, ⟨j', a, b, hk.trans c⟩, ?_⟩
  have hat := c.at (by omega) (at_new w' (.cells cs T))
  rw [cell_of_at hat _]
  exact hS _ hlt

set_option maxHeartbeats 8000000 in
set_option maxRecDepth 20000 in
/-- An atom alone. -/
theorem dat11_atom (rs : List Int) (ao : Option Addr) (cap mk : Nat) (D : Int) (w : World) (r : List Int)
    (H : (D = 0 ∧ Behind rs ao cap mk r w w) ∨ (D ≠ 0 ∧ Calls Tryz.prog 18 #[.pointer (some ⟨mk, 0, none⟩), .int .i64 3] w fun e w' => e = .returned (.int .i64 0) ∧ Behind rs ao cap mk r w w')) :
    Calls Tryz.prog 11 #[.pointer (some ⟨mk, 0, none⟩), .int .i64 D] w (DatM rs ao cap mk (.mk 0 [] (Rd.atomAt (Rd.nextN 11 r).1), (Rd.nextN 11 r).2) w) := by
  have hn := Rd.nextN_lt 11 r (by omega)
  have HN : Hid (∀ W, Behind rs ao cap mk r w W → Calls Tryz.prog 18 #[.pointer (some ⟨mk, 0, none⟩), .int .i64 11] (W.alloc (.cells cells11 9)) fun e w'' => e = .returned (.int .i64 ((Rd.nextN 11 r).1 : Nat)) ∧ Behind rs ao cap mk (Rd.nextN 11 r).2 w w'' ∧ w''.cell? ⟨W.heap.size, (Rd.nextN 11 r).1, none⟩ = some (.string ⟨(shA (Rd.atomAt (Rd.nextN 11 r).1)).toArray⟩)) := fun W hW => next_arr (n := 11) (by omega) (by omega) hW cells11 9 (fun c => .string ⟨(shA (Rd.atomAt c)).toArray⟩) cells11_at
  unfold DatM
  generalize Rd.nextN 11 r = nx at *
  obtain ⟨c, r1⟩ := nx
  simp only at *
  have i1 : (0 : Int) ≤ (c : Int) := by omega
  have i2 : (c : Int) < 11 := by omega
  rcases H with ⟨rfl, hB⟩ | ⟨hD, H3⟩
  · have HB : Hid (Behind rs ao cap mk r w w) := hB
    clear hB
    go_enter Tryz.func11, Tryz.ntmps11
    go_wp2_with (first | (go_at_call 18; refine (HN.out _ HB.out).mono ?_; rintro e2 w2 ⟨rfl, hb2, hc2⟩))
    go_ret
    exact ⟨rfl, hb2⟩
  · go_enter Tryz.func11, Tryz.ntmps11
    go_upto_region 2 with (first | (go_at_call 18; refine H3.mono ?_; rintro e1 w1 ⟨rfl, hb1⟩; have HB1 : Hid (Behind rs ao cap mk r w w1) := hb1; clear hb1))
    go_wp2_with (first | (go_at_call 18; refine (HN.out _ HB1.out).mono ?_; rintro e2 w2 ⟨rfl, hb2, hc2⟩))
    go_ret
    exact ⟨rfl, hb2⟩
end Go.Proofs.YtodeeegbajgafaaGreatDoor

namespace Go.Proofs.YtodeeegbajgafaaGreatDoor
open Go.RowKit
open Mc

/-- Where the loop of a list's parts stands. -/
structure DatG (rs : List Int) (ao : Option Addr) (cap mk : Nat) (w : World) (f : List Int → Rd.D × List Int) (x : Rd.D) (L : Nat) (R : List Rd.D × List Int) (k : Nat) (v5 v6 : Value) (wr : World) (done : List Rd.D) (r : List Int) : Prop where
  v5 : v5 = .string ⟨(40 :: (shD x ++ shL done)).toArray⟩
  v6 : v6 = .int .i64 (k : Nat)
  at' : Behind rs ao cap mk r w wr
  eq : (done ++ (Rd.mkDats f k r).1, (Rd.mkDats f k r).2) = R
  len : (shL done).length + k * (L + 1) ≤ 2 * (L + 1)
theorem bytes_more (a b : List UInt8) : (⟨a.toArray⟩ ++ ⟨#[32]⟩ ++ ⟨b.toArray⟩ : ByteArray) = ⟨(a ++ 32 :: b).toArray⟩ := by
  apply ByteArray.ext
  simp
theorem bytes_shut (a : List UInt8) : (⟨a.toArray⟩ ++ ⟨#[41]⟩ : ByteArray) = ⟨(a ++ [41]).toArray⟩ := by
  apply ByteArray.ext
  simp
theorem bytes_dot (a b : List UInt8) : (⟨a.toArray⟩ ++ ⟨#[32, 46, 32]⟩ ++ ⟨b.toArray⟩ ++ ⟨#[41]⟩ : ByteArray) = ⟨(a ++ ([32, 46, 32] ++ (b ++ [41]))).toArray⟩ := by
  apply ByteArray.ext
  simp
theorem bytes_open (b : List UInt8) : (⟨#[40]⟩ ++ ⟨b.toArray⟩ : ByteArray) = ⟨(40 :: b).toArray⟩ := by
  apply ByteArray.ext
  simp
theorem DatG.next {rs : List Int} {ao : Option Addr} {cap mk : Nat} {w : World} {f : List Int → Rd.D × List Int} {x : Rd.D} {L : Nat} {R : List Rd.D × List Int} {k : Nat} {p q : Value} {wr : World} {done : List Rd.D} {r : List Int} (h : DatG rs ao cap mk w f x L R (k + 1) p q wr done r) (hf : (shD (f r).1).length ≤ L) {w' : World} (hb : Behind rs ao cap mk (f r).2 w w') :
    DatG rs ao cap mk w f x L R k (.string (⟨(40 :: (shD x ++ shL done)).toArray⟩ ++ ⟨#[32]⟩ ++ ⟨(shD (f r).1).toArray⟩)) (.int .i64 (k : Nat)) w' (done ++ [(f r).1]) (f r).2 := by
  refine ⟨?_, rfl, hb, ?_, ?_⟩
  · rw [bytes_more, shL_snoc]
    simp
  · rw [← h.eq, Rd.mkDats]
    simp
  · have := h.len
    rw [Nat.succ_mul] at this
    rw [shL_snoc, List.length_append, List.length_cons]
    omega

set_option maxHeartbeats 8000000 in
set_option maxRecDepth 20000 in
theorem dat11_list (rs : List Int) (ao : Option Addr) (cap mk : Nat) (d : Nat) (w : World) (f : List Int → Rd.D × List Int) (L : Nat) (hL : L ≤ 300) (hf : ∀ r, (shD (f r).1).length ≤ L) (r0 : List Int) (c3 : Int) (hc3 : c3 ≠ 0) (hd : d ≤ 2)
    (H3 : Hid (Calls Tryz.prog 18 #[.pointer (some ⟨mk, 0, none⟩), .int .i64 3] w fun e w' => e = .returned (.int .i64 c3) ∧ Behind rs ao cap mk r0 w w'))
    (IH : Hid (∀ (r : List Int) (W : World), Behind rs ao cap mk r w W → Calls Tryz.prog 11 #[.pointer (some ⟨mk, 0, none⟩), .int .i64 (d : Nat)] W fun e W' => e = .returned (.string ⟨(shD (f r).1).toArray⟩) ∧ Behind rs ao cap mk (f r).2 w W')) (m : Rd.D × List Int)
    (hm : m = (let x := f r0; let n := Rd.nextN 3 x.2; let ds := Rd.mkDats f n.1 n.2; let q := Rd.nextN 4 ds.2; if q.1 = 0 then (.mk 0 (x.1 :: ds.1) (Rd.tailAt (Rd.nextN 3 q.2).1), (Rd.nextN 3 q.2).2) else (.mk 0 (x.1 :: ds.1) .empty, q.2))) :
    Calls Tryz.prog 11 #[.pointer (some ⟨mk, 0, none⟩), .int .i64 ((d + 1 : Nat) : Int)] w (DatM rs ao cap mk m w) := by
  have d0 : ¬ ((d + 1 : Nat) : Int) = 0 := by omega
  have d1 : ((d + 1 : Nat) : Int) - 1 = (d : Nat) := by omega
  have d2 : -9223372036854775808 ≤ ((d : Nat) : Int) := by omega
  have d3 : ((d : Nat) : Int) ≤ 9223372036854775807 := by omega
  generalize ((d + 1 : Nat) : Int) = D at *
  generalize ((d : Nat) : Int) = d' at *
  simp only at hm
  have hx := hf r0
  have hn := Rd.nextN_lt 3 (f r0).2 (by omega)
  have HN3 : Hid (∀ W, Behind rs ao cap mk (f r0).2 w W → Calls Tryz.prog 18 #[.pointer (some ⟨mk, 0, none⟩), .int .i64 3] W fun e w'' => e = .returned (.int .i64 ((Rd.nextN 3 (f r0).2).1 : Nat)) ∧ Behind rs ao cap mk (Rd.nextN 3 (f r0).2).2 w w'') := fun W hW => hW.next (n := 3) (by omega) (by omega)
  have HX : Hid (∀ (W : World), Behind rs ao cap mk r0 w W → Calls Tryz.prog 11 #[.pointer (some ⟨mk, 0, none⟩), .int .i64 d'] W fun e W' => e = .returned (.string ⟨(shD (f r0).1).toArray⟩) ∧ Behind rs ao cap mk (f r0).2 w W') := IH.out r0
  generalize f r0 = x at *
  obtain ⟨x, r1⟩ := x
  simp only at *
  generalize Rd.nextN 3 r1 = n at *
  obtain ⟨n, r2⟩ := n
  simp only at *
  have HM := (show Hid _ from hm)
  have HF := (show Hid _ from hf)
  clear hm hf
  have sx := sz (shD x)
  have so := bytes_open (shD x)
  have hsx : (⟨(shD x).toArray⟩ : ByteArray).size ≤ 300 := by omega
  have hG0 : ∀ W, Behind rs ao cap mk r2 w W → DatG rs ao cap mk w f x L (Rd.mkDats f n r2) n (.string (⟨#[40]⟩ ++ ⟨(shD x).toArray⟩)) (.int .i64 (n : Nat)) W [] r2 := fun W hW => ⟨by rw [so, shL, List.append_nil], rfl, hW, by rw [List.nil_append], by
    rw [shL, List.length_nil]
    have : n * (L + 1) ≤ 2 * (L + 1) := Nat.mul_le_mul_right _ (by omega)
    omega⟩
  have HG0 := (show Hid _ from hG0)
  clear hG0 so sx
  generalize (⟨(shD x).toArray⟩ : ByteArray) = SX at *
  have s1 : ¬ 9223372036854775807 < 1 + SX.size := by omega
  have b1 : (D == 0) = false := by simpa using d0
  have b2 : (c3 == 0) = false := by simpa using hc3
  have b3 : ¬ c3 = 0 := hc3
  go_enter Tryz.func11, Tryz.ntmps11
  go_upto_region 3 with (first | (go_at_call 18; refine H3.out.mono ?_; rintro e1 w1 ⟨rfl, hb1⟩; have HB1 : Hid (Behind rs ao cap mk r0 w w1) := hb1; clear hb1))
  go_upto_region 4 with (first | (go_at_call 11; refine (HX.out _ HB1.out).mono ?_; rintro e2 w2 ⟨rfl, hb2⟩; have HB2 : Hid (Behind rs ao cap mk r1 w w2) := hb2; clear hb2))
  go_upto_region 5 with (first | (go_at_call 18; refine (HN3.out _ HB2.out).mono ?_; rintro e3 w3 ⟨rfl, hb3⟩; have HB3 : Hid (Behind rs ao cap mk r2 w w3) := hb3; clear hb3))
  go_loopg [5, 6] n (fun k p q wr => ∃ done r, DatG rs ao cap mk w f x L (Rd.mkDats f n r2) k p q wr done r)
  case atStart => exact ⟨[], r2, HG0.out _ HB3.out⟩
  case round =>
    obtain ⟨done, r, hG⟩ := hrel
    have HG := (show Hid _ from hG)
    obtain ⟨rfl, rfl, hat, heq, hlen⟩ := hG
    have HAT : Hid (Behind rs ao cap mk r w wr) := hat
    clear hat
    have s5 := sz (40 :: (shD x ++ shL done))
    simp only [List.length_cons, List.length_append] at s5
    have hT5 : (⟨(40 :: (shD x ++ shL done)).toArray⟩ : ByteArray).size ≤ 1000 := by omega
    have HLEN := (show Hid _ from hlen)
    have HEQ := (show Hid _ from heq)
    clear hlen heq s5
    cases gk with
    | zero =>
      have hq := Rd.nextN_lt 4 r (by omega)
      have HN4 : Hid (Calls Tryz.prog 18 #[.pointer (some ⟨mk, 0, none⟩), .int .i64 4] wr fun e w'' => e = .returned (.int .i64 ((Rd.nextN 4 r).1 : Nat)) ∧ Behind rs ao cap mk (Rd.nextN 4 r).2 w w'') := HAT.out.next (n := 4) (by omega) (by omega)
      have HM' : Hid (m = if (Rd.nextN 4 r).1 = 0 then (.mk 0 (x :: done) (Rd.tailAt (Rd.nextN 3 (Rd.nextN 4 r).2).1), (Rd.nextN 3 (Rd.nextN 4 r).2).2) else (.mk 0 (x :: done) .empty, (Rd.nextN 4 r).2)) := by
        have h1 := HM.out
        rw [← HEQ.out, Rd.mkDats] at h1
        simp only [List.append_nil] at h1
        exact h1
      clear HM
      have z0 : ¬ (0 : Int) < ((0 : Nat) : Int) := by omega
      generalize Rd.nextN 4 r = q at *
      obtain ⟨q, r4⟩ := q
      simp only at *
      by_cases hq0 : q = 0
      · subst hq0
        have HM2 : Hid (m = (.mk 0 (x :: done) (Rd.tailAt (Rd.nextN 3 r4).1), (Rd.nextN 3 r4).2)) := HM'.out.trans (if_pos rfl)
        have hc := Rd.nextN_lt 3 r4 (by omega)
        have HA : Hid (∀ W, Behind rs ao cap mk r4 w W → Calls Tryz.prog 18 #[.pointer (some ⟨mk, 0, none⟩), .int .i64 3] (W.alloc (.cells cells3t 9)) fun e w'' => e = .returned (.int .i64 ((Rd.nextN 3 r4).1 : Nat)) ∧ Behind rs ao cap mk (Rd.nextN 3 r4).2 w w'' ∧ w''.cell? ⟨W.heap.size, (Rd.nextN 3 r4).1, none⟩ = some (.string ⟨(Rd.dTailTs.getD (Rd.nextN 3 r4).1 []).toArray⟩)) := fun W hW => next_arr (n := 3) (by omega) (by omega) hW cells3t 9 (fun c => .string ⟨(Rd.dTailTs.getD c []).toArray⟩) cells3t_at
        clear HM'
        generalize Rd.nextN 3 r4 = t at *
        obtain ⟨c, r5⟩ := t
        simp only at *
        obtain ⟨t1, t2, t3⟩ := tail_text c hc
        have st := sz (Rd.dTailTs.getD c [])
        have HS : Hid ((⟨(shD m.1).toArray⟩ : ByteArray) = ⟨(40 :: (shD x ++ shL done)).toArray⟩ ++ ⟨#[32, 46, 32]⟩ ++ ⟨(Rd.dTailTs.getD c []).toArray⟩ ++ ⟨#[41]⟩) := by
          show (⟨(shD m.1).toArray⟩ : ByteArray) = _
          rw [bytes_dot, ← t1, HM2.out]
          simp [shD, shP]
        have HR5 : Hid (m.2 = r5) := by rw [HM2.out]; rfl
        have hst : (⟨(Rd.dTailTs.getD c []).toArray⟩ : ByteArray).size ≤ 2 := by omega
        clear t1 t2 t3 st HM2
        generalize (⟨(40 :: (shD x ++ shL done)).toArray⟩ : ByteArray) = T5 at *
        generalize (⟨(Rd.dTailTs.getD c []).toArray⟩ : ByteArray) = TT at *
        have i1 : (0 : Int) ≤ (c : Int) := by omega
        have i2 : (c : Int) < 3 := by omega
        have u1 : ¬ 9223372036854775807 < T5.size + 3 := by omega
        have u2 : ¬ 9223372036854775807 < T5.size + 3 + TT.size := by omega
        have u3 : ¬ 9223372036854775807 < T5.size + 3 + TT.size + 1 := by omega
        go_upto_region 9 with (first | (go_at_call 18; refine HN4.out.mono ?_; rintro e4 w4 ⟨rfl, hb4⟩; have HB4 : Hid (Behind rs ao cap mk r4 w w4) := hb4; clear hb4))
        go_wp2_with (first | (go_at_call 18; refine (HA.out _ HB4.out).mono ?_; rintro e5 w5 ⟨rfl, hb5, hc5⟩))
        go_ret
        exact ⟨by rw [HS.out]; rfl, by rw [HR5.out]; exact hb5⟩
      · have HM2 : Hid (m = (.mk 0 (x :: done) .empty, r4)) := HM'.out.trans (if_neg hq0)
        have HS : Hid ((⟨(shD m.1).toArray⟩ : ByteArray) = ⟨(40 :: (shD x ++ shL done)).toArray⟩ ++ ⟨#[41]⟩) := by
          show (⟨(shD m.1).toArray⟩ : ByteArray) = _
          rw [bytes_shut, HM2.out]
          simp [shD, shP, shE]
        have HR5 : Hid (m.2 = r4) := by rw [HM2.out]; rfl
        have q0 : ¬ (q : Int) = 0 := by omega
        have q1 : ((q : Int) == 0) = false := by simpa using hq0
        clear HM' HM2 hq0
        generalize (⟨(40 :: (shD x ++ shL done)).toArray⟩ : ByteArray) = T5 at *
        have u1 : ¬ 9223372036854775807 < T5.size + 1 := by omega
        go_wp2_with (first | (go_at_call 18; refine HN4.out.mono ?_; rintro e4 w4 ⟨rfl, hb4⟩; have HB4 : Hid (Behind rs ao cap mk r4 w w4) := hb4; clear hb4))
        go_ret
        exact ⟨by rw [HS.out]; rfl, by rw [HR5.out]; exact HB4.out⟩
    | succ k =>
      have hy := HF.out r
      have sy := sz (shD (f r).1)
      have hsy : (⟨(shD (f r).1).toArray⟩ : ByteArray).size ≤ 300 := by omega
      have HC : Hid (Calls Tryz.prog 11 #[.pointer (some ⟨mk, 0, none⟩), .int .i64 d'] wr fun e W' => e = .returned (.string ⟨(shD (f r).1).toArray⟩) ∧ Behind rs ao cap mk (f r).2 w W') := IH.out r wr HAT.out
      have HNX : Hid (∀ w', Behind rs ao cap mk (f r).2 w w' → ∃ dn r', DatG rs ao cap mk w f x L (Rd.mkDats f n r2) k (.string (⟨(40 :: (shD x ++ shL done)).toArray⟩ ++ ⟨#[32]⟩ ++ ⟨(shD (f r).1).toArray⟩)) (.int .i64 (k : Nat)) w' dn r') := fun w' hb => ⟨_, _, HG.out.next hy hb⟩
      have hk0 : (0 : Int) < ((k + 1 : Nat) : Int) := by omega
      have h1k : ((k + 1 : Nat) : Int) - 1 = ((k : Nat) : Int) := by omega
      have hk2 : k + 1 ≤ 1000 := by
        have h1 := HLEN.out
        have h2 : (k + 1) * 1 ≤ (k + 1) * (L + 1) := Nat.mul_le_mul_left _ (by omega)
        omega
      have hk3 : -9223372036854775808 ≤ ((k : Nat) : Int) := by omega
      have hk4 : ((k : Nat) : Int) ≤ 9223372036854775807 := by omega
      clear HG sy
      generalize (⟨(40 :: (shD x ++ shL done)).toArray⟩ : ByteArray) = T5 at *
      generalize (⟨(shD (f r).1).toArray⟩ : ByteArray) = SY at *
      have u1 : ¬ 9223372036854775807 < T5.size + 1 := by omega
      have u2 : ¬ 9223372036854775807 < T5.size + 1 + SY.size := by omega
      generalize ((k + 1 : Nat) : Int) = K1 at *
      go_wp2_with (first | (go_at_call 11; refine HC.out.mono ?_; rintro e4 w4 ⟨rfl, hb4⟩; have HB4 := (show Hid _ from HNX.out _ hb4); clear hb4))
      go_roundg k
      case measure => omega
      case rel => exact HB4.out
theorem dat11 (rs : List Int) (ao : Option Addr) (cap mk : Nat) : ∀ (d : Nat), d ≤ 3 → ∀ (i : Nat) (w : World), MkAt rs ao cap mk i w →
    Calls Tryz.prog 11 #[.pointer (some ⟨mk, 0, none⟩), .int .i64 (d : Nat)] w (DatM rs ao cap mk (Rd.mkDat d (rs.drop i)) w)
  | 0, _, i, w, h => by
    rw [Rd.mkDat]
    exact dat11_atom rs ao cap mk 0 w (rs.drop i) (.inl ⟨rfl, Behind.refl h⟩)
  | d + 1, hd, i, w, h => by
    have ih := dat11 rs ao cap mk d (by omega)
    have h3 := (Behind.refl h).next (n := 3) (by omega) (by omega)
    have hlim : limD d ≤ 300 := by
      have : d = 0 ∨ d = 1 ∨ d = 2 := by omega
      rcases this with rfl | rfl | rfl <;> decide
    by_cases h0 : (Rd.nextN 3 (rs.drop i)).1 = 0
    · rw [Rd.mkDat, if_pos h0]
      rw [h0] at h3
      exact dat11_atom rs ao cap mk ((d + 1 : Nat) : Int) w _ (.inr ⟨by omega, h3⟩)
    · refine dat11_list rs ao cap mk d w (Rd.mkDat d) (limD d) hlim (fun r => (fine_dat d r).2.2) (Rd.nextN 3 (rs.drop i)).2 _ (by omega) (by omega) h3 (fun r W hW => ?_) _ (by rw [Rd.mkDat, if_neg h0])
      obtain ⟨j, hj, rfl, hk⟩ := hW
      exact (ih j W hj).mono fun e w'' ⟨he, j', a, b, c⟩ => ⟨he, j', a, b, hk.trans c⟩
end Go.Proofs.YtodeeegbajgafaaGreatDoor

namespace Go.Proofs.YtodeeegbajgafaaGreatDoor
open Go.RowKit
open Mc

theorem tab_of {w : World} (h : TabOk w) : Tab w.heap.size w := fun _ hb => h.on (hb.block _ h.lt)
theorem bytes_one (a : List UInt8) : (⟨#[32]⟩ ++ ⟨a.toArray⟩ ++ ⟨#[32, 59]⟩ : ByteArray) = ⟨(32 :: (a ++ [32, 59])).toArray⟩ := by
  apply ByteArray.ext
  simp
theorem bytes_q (a : List UInt8) : (⟨#[39]⟩ ++ ⟨a.toArray⟩ : ByteArray) = ⟨(39 :: a).toArray⟩ := by
  apply ByteArray.ext
  simp
theorem bytes_line (a : List UInt8) : (⟨(a ++ [10]).toArray⟩ : ByteArray) = ⟨a.toArray⟩ ++ ⟨#[10]⟩ := by
  apply ByteArray.ext
  simp
/-- What Print answers for a datum that the maker made. -/
theorem print_dat {d : Rd.D} (hg : GD d) (hd : dpD d ≤ 19) (hl : (shD d).length ≤ 300) (w : World) (ht : TabOk w) (hE : ErrsAt w) :
    Calls Tryz.prog 12 #[.string (⟨#[32]⟩ ++ ⟨(shD d).toArray⟩ ++ ⟨#[32, 59]⟩)] w fun e w' => e = .returned (.tuple #[.string (⟨(shD d).toArray⟩ ++ ⟨#[10]⟩), .int .i64 0, .int .i64 0]) ∧ Below w.heap.size w w' := by
  obtain ⟨d', hr, hs⟩ := print_one d hg hd hl
  have := print_t ⟨(32 :: (shD d ++ [32, 59])).toArray⟩ w hE (tab_of ht)
  rw [hr] at this
  rw [bytes_one, ← bytes_line]
  have e0 : prT [d'] = shD d ++ [10] := by rw [prT, prT, hs]
  refine this.mono fun e w' h => ?_
  unfold PrintR at h
  simp only [e0] at h
  exact h
theorem print_qdat {d : Rd.D} (hg : GD d) (hd : dpD d ≤ 19) (hl : (shD d).length ≤ 300) (w : World) (ht : TabOk w) (hE : ErrsAt w) :
    Calls Tryz.prog 12 #[.string (⟨#[39]⟩ ++ ⟨(shD d).toArray⟩)] w fun e w' => e = .returned (.tuple #[.string (⟨#[40, 113, 117, 111, 116, 101, 32]⟩ ++ ⟨(shD d).toArray⟩ ++ ⟨#[41, 10]⟩), .int .i64 0, .int .i64 0]) ∧ Below w.heap.size w w' := by
  obtain ⟨d', hr, hs⟩ := print_quote d hg hd hl
  have := print_t ⟨(39 :: shD d).toArray⟩ w hE (tab_of ht)
  rw [hr] at this
  rw [bytes_q]
  have e0 : (⟨(prT [Rd.quoteD 0 d']).toArray⟩ : ByteArray) = ⟨#[40, 113, 117, 111, 116, 101, 32]⟩ ++ ⟨(shD d).toArray⟩ ++ ⟨#[41, 10]⟩ := by
    apply ByteArray.ext
    simp [prT, Rd.quoteD, shD, shP, shL, shE, shA, Rd.kwQuote, hs]
  refine this.mono fun e w' h => ?_
  unfold PrintR at h
  simp only [e0] at h
  exact h

set_option maxHeartbeats 16000000 in
set_option maxRecDepth 20000 in
theorem quoted3 (W : World) (ao : Option Addr) (cap : Nat) (rs : List Int) (hl : rs.length ≤ cap) (hcap : cap ≤ maxLen) (hcell : ∀ i (hi : i < rs.length), ∃ a, ao = some a ∧ W.cell? (a.add i) = some (.int .i64 rs[i])) (hz : ∀ i (hi : i < rs.length), -9223372036854775808 ≤ rs[i] ∧ rs[i] ≤ 9223372036854775807) (any : ByteArray) (htab : TabOk W) (hE : ErrsAt W) :
    Calls Tryz.prog 3 #[.slice ao rs.length cap, .string any] W fun e w' => e = .returned (.bool true) ∧ Below W.heap.size W w' := by
  have hlt := htab.lt
  have hm : rs.length ≤ 9223372036854775807 := by unfold maxLen at hcap; omega
  have HF : Hid (Calls Tryz.prog 10 #[] W fun e w' => ∃ ob g, e = .returned (.pointer (some ⟨ob, 0, none⟩)) ∧ Mach (Old W.heap.size) W.heap.size ob G0 w' g ∧ Below W.heap.size W w') := fresh10 (Old W.heap.size) W (fun _ h => h.1) (fun h => h.2 rfl) htab
  have HT : Hid (∀ w', Below W.heap.size W w' → TabOk w') := fun w' hb => htab.on (hb.block _ hlt)
  have HEE : Hid (∀ w', Below W.heap.size W w' → ErrsAt w') := fun w' hb => hE.kept (Kept.of_below hb (fun _ => False)) id id
  have HS : Hid (∀ w1, Below W.heap.size W w1 → Calls Tryz.prog 11 #[.pointer (some ⟨w1.heap.size, 0, none⟩), .int .i64 3] (w1.alloc (.cells #[.slice ao rs.length cap, .int .i64 0] 27)) fun e w' => e = .returned (.string ⟨(shD (Rd.mkDat 3 rs).1).toArray⟩) ∧ Kept (· = w1.heap.size) (w1.alloc (.cells #[.slice ao rs.length cap, .int .i64 0] 27)) w') := fun w1 hb => by
    have := dat11 rs ao cap w1.heap.size 3 (by omega) 0 _ (mk_new hcell hz hm hb 27)
    exact this.mono fun e w' ⟨he, i', _, _, h3⟩ => ⟨he, h3⟩
  obtain ⟨g1, g2, g3⟩ := datOf_fine rs
  have HP1 : Hid (∀ w', Below W.heap.size W w' → Calls Tryz.prog 12 #[.string (⟨#[32]⟩ ++ ⟨(shD (datOf rs)).toArray⟩ ++ ⟨#[32, 59]⟩)] w' fun e w'' => e = .returned (.tuple #[.string (⟨(shD (datOf rs)).toArray⟩ ++ ⟨#[10]⟩), .int .i64 0, .int .i64 0]) ∧ Below w'.heap.size w' w'') := fun w' hb => print_dat g1 g2 g3 w' (HT.out _ hb) (HEE.out _ hb)
  have HP2 : Hid (∀ w', Below W.heap.size W w' → Calls Tryz.prog 12 #[.string (⟨#[39]⟩ ++ ⟨(shD (datOf rs)).toArray⟩)] w' fun e w'' => e = .returned (.tuple #[.string (⟨#[40, 113, 117, 111, 116, 101, 32]⟩ ++ ⟨(shD (datOf rs)).toArray⟩ ++ ⟨#[41, 10]⟩), .int .i64 0, .int .i64 0]) ∧ Below w'.heap.size w' w'') := fun w' hb => print_qdat g1 g2 g3 w' (HT.out _ hb) (HEE.out _ hb)
  have HR : Hid (∀ N ob g w, tabBlock < W.heap.size → Mach N W.heap.size ob G0 w g → Below W.heap.size W w → Calls Tryz.prog 13 #[.pointer (some ⟨ob, 0, none⟩), .string (⟨#[39]⟩ ++ ⟨(shD (datOf rs)).toArray⟩)] w fun e w' => ∃ g' sa sn sc, e = .returned (.tuple #[.agg #[.int .i64 1, .string ⟨(shD (datOf rs)).toArray⟩, .int .i64 0, .int .i64 1, .slice sa sn sc], .bool true]) ∧ Mach N W.heap.size ob G0 w' g' ∧ Below W.heap.size w w' ∧ Kept g.mut w w') := fun N ob g w hN hM hb => by
    rw [bytes_q]
    exact run_quoted hM hb.size hN (HT.out _ hb) (HEE.out _ hb) g1 g2 g3
  have HPA : Hid (∀ w', Below W.heap.size W w' → Calls Tryz.prog 12 #[.string any] w' (PrintR (Rd.readT any) w')) := fun w' hb => print_t any w' (HEE.out _ hb) (tab_of (HT.out _ hb))
  have HPB : Hid (∀ ds, Rd.readT any = .ok ds → (prT ds).length ≤ 500 → ∀ w', Below W.heap.size W w' → Calls Tryz.prog 12 #[.string ⟨(prT ds).toArray⟩] w' fun e w'' => e = .returned (.tuple #[.string ⟨(prT ds).toArray⟩, .int .i64 0, .int .i64 0]) ∧ Below w'.heap.size w' w'') := fun ds hr hl w' hb => by
    obtain ⟨ds', h1, h2⟩ := print_back any ds hr hl
    have := print_t ⟨(prT ds).toArray⟩ w' (HEE.out _ hb) (tab_of (HT.out _ hb))
    rw [h1] at this
    refine this.mono fun e w' h => ?_
    unfold PrintR at h
    simp only [h2] at h
    exact h
  have hsz := sz (shD (datOf rs))
  have hS300 : (⟨(shD (datOf rs)).toArray⟩ : ByteArray).size ≤ 300 := by omega
  have hchoice : (300 < (⟨(shD (Rd.mkDat 3 rs).1).toArray⟩ : ByteArray).size ∧ (⟨(shD (datOf rs)).toArray⟩ : ByteArray) = ⟨#[97]⟩) ∨ (¬ 300 < (⟨(shD (Rd.mkDat 3 rs).1).toArray⟩ : ByteArray).size ∧ (⟨(shD (datOf rs)).toArray⟩ : ByteArray) = ⟨(shD (Rd.mkDat 3 rs).1).toArray⟩) := by
    rw [sz]
    unfold datOf
    by_cases h : 300 < (shD (Rd.mkDat 3 rs).1).length
    · rw [if_pos h]
      exact .inl ⟨h, rfl⟩
    · rw [if_neg h]
      exact .inr ⟨h, rfl⟩
  have hmx := (fine_dat 3 rs).2.2
  have hmx2 : (⟨(shD (Rd.mkDat 3 rs).1).toArray⟩ : ByteArray).size ≤ 1000 := by rw [sz]; exact Nat.le_trans hmx (by decide)
  have HTL : Hid (tabBlock < W.heap.size) := hlt
  have HCH := (show Hid _ from hchoice)
  clear hcell hz htab hlt hE hsz g1 g2 g3 hchoice hmx
  generalize (⟨(shD (datOf rs)).toArray⟩ : ByteArray) = S at *
  generalize (⟨(shD (Rd.mkDat 3 rs).1).toArray⟩ : ByteArray) = SM at *
  have u1 : ¬ 9223372036854775807 < 1 + S.size := by omega
  have u2 : ¬ 9223372036854775807 < 1 + S.size + 2 := by omega
  have u3 : ¬ 9223372036854775807 < S.size + 1 := by omega
  have u4 : ¬ 9223372036854775807 < 7 + S.size := by omega
  have u5 : ¬ 9223372036854775807 < 7 + S.size + 2 := by omega
  go_enter Tryz.func3, Tryz.ntmps3
  go_upto_region 4 with (first | (go_at_call 10; refine HF.out.mono ?_; rintro e1 w1 ⟨ob, g1, rfl, hM1, hb1⟩; have HM1 := (show Hid _ from hM1); have HB1 : Hid (Below W.heap.size W w1) := hb1; clear hM1 hb1))
  have HM2 : Hid (Mach (fun k => Old W.heap.size k ∨ k = w1.heap.size) W.heap.size ob G0 (w1.alloc (.cells #[.slice ao rs.length cap, .int .i64 0] 27)) g1) := HM1.out.aside _
  have HB2 : Hid (Below W.heap.size W (w1.alloc (.cells #[.slice ao rs.length cap, .int .i64 0] 27))) := HB1.out.alloc HB1.out.size _
  have HOB : Hid (ob ≠ w1.heap.size) := Nat.ne_of_lt HM1.out.lt
  have HL1 : Hid (W.heap.size ≤ w1.heap.size) := HB1.out.size
  have HN1 : Hid ((fun k => Old W.heap.size k ∨ k = w1.heap.size) w1.heap.size) := Or.inr rfl
  generalize (fun k => Old W.heap.size k ∨ k = w1.heap.size) = N1 at *
  go_upto_region 6 with (first | (go_at_call 11; refine (HS.out _ HB1.out).mono ?_; rintro e3 w3 ⟨rfl, hk3⟩; have HK3 := (show Hid _ from hk3); clear hk3))
  have HM3 : Hid (Mach N1 W.heap.size ob G0 w3 g1) := HM2.out.other HK3.out (fun k e => e ▸ HN1.out) HOB.out
  have HB3 : Hid (Below W.heap.size W w3) := HB2.out.trans (HK3.out.below HB2.out.size (fun k e => e ▸ HL1.out))
  clear HF HS HM1 HM2 HK3 HB2
  rcases HCH.out with ⟨hc1, hc2⟩ | ⟨hc1, hc2⟩
  · have hc3 : (300 : Int) < (SM.size : Int) := by omega
    go_upto_region 8 with fail
    rw [← hc2]
    clear hc1 hc2 HCH
    go_upto_region 9 with (first | (go_at_call 12; refine (HP1.out _ HB3.out).mono ?_; rintro e4 w4 ⟨rfl, hb4⟩; have HM4 : Hid (Mach N1 W.heap.size ob G0 w4 g1) := HM3.out.below hb4; have HB4 : Hid (Below W.heap.size W w4) := HB3.out.trans (hb4.mono HB3.out.size); clear hb4))
    go_upto_region 10 with (first | (go_at_call 12; refine (HP2.out _ HB4.out).mono ?_; rintro e5 w5 ⟨rfl, hb5⟩; have HM5 : Hid (Mach N1 W.heap.size ob G0 w5 g1) := HM4.out.below hb5; have HB5 : Hid (Below W.heap.size W w5) := HB4.out.trans (hb5.mono HB4.out.size); clear hb5))
    go_upto_region 11 with (first | (go_at_call 13; refine (HR.out _ _ _ _ HTL.out HM5.out HB5.out).mono ?_; rintro e6 w6 ⟨g6, sa6, sn6, sc6, rfl, hM6, hb6, hk6⟩; have HB6 : Hid (Below W.heap.size W (w6.alloc (.cells #[.int .i64 1, .string S, .int .i64 0, .int .i64 1, .slice sa6 sn6 sc6] 34))) := (HB5.out.trans hb6).alloc (HB5.out.trans hb6).size _; clear hM6 hb6 hk6))
    have hat6 := at_new w6 (.cells #[.int .i64 1, .string S, .int .i64 0, .int .i64 1, .slice sa6 sn6 sc6] 34)
    generalize w6.alloc (.cells #[.int .i64 1, .string S, .int .i64 0, .int .i64 1, .slice sa6 sn6 sc6] 34) = w7 at *
    have q0 : w7.cell? ⟨w6.heap.size, 0, none⟩ = some (.int .i64 1) := cell_of_at hat6 0
    have q1 : w7.cell? ⟨w6.heap.size, 1, none⟩ = some (.string S) := cell_of_at hat6 1
    have q3 : w7.cell? ⟨w6.heap.size, 3, none⟩ = some (.int .i64 1) := cell_of_at hat6 3
    clear hat6 HP1 HP2 HR HM3 HM4 HM5
    go_upto_region 13 with fail
    clear q0 q1 q3
    cases hr : Rd.readT any with
    | no n p =>
      obtain ⟨hn0, hpn⟩ := readT_no any n p hr
      have HP : Hid (Calls Tryz.prog 12 #[.string any] w7 fun e w' => e = .returned (.tuple #[.string ⟨#[]⟩, .int .i64 n, .int .i64 p]) ∧ Below w7.heap.size w7 w') := by
        have := HPA.out _ HB6.out
        rw [hr] at this
        exact this
      have k0 : ¬ (n : Int) = 0 := by omega
      have k1 : (0 : Int) ≤ (p : Int) := by omega
      have k2 : (p : Int) ≤ (any.size : Int) := by omega
      clear HPA HPB hr hn0 hpn
      go_wp2_with (first | (go_at_call 12; refine HP.out.mono ?_; rintro e8 w8 ⟨rfl, hb8⟩))
      go_ret
      exact ⟨rfl, HB6.out.trans (hb8.mono HB6.out.size)⟩
    | ok ds =>
      have HP : Hid (Calls Tryz.prog 12 #[.string any] w7 fun e w' => e = .returned (.tuple #[.string ⟨(prT ds).toArray⟩, .int .i64 0, .int .i64 0]) ∧ Below w7.heap.size w7 w') := by
        have := HPA.out _ HB6.out
        rw [hr] at this
        exact this
      have szp := sz (prT ds)
      by_cases hl5 : 500 < (prT ds).length
      · have k1 : (500 : Int) < ((⟨(prT ds).toArray⟩ : ByteArray).size : Int) := by omega
        clear HPA HPB hr szp
        generalize (⟨(prT ds).toArray⟩ : ByteArray) = U at *
        go_wp2_with (first | (go_at_call 12; refine HP.out.mono ?_; rintro e8 w8 ⟨rfl, hb8⟩))
        go_ret
        exact ⟨rfl, HB6.out.trans (hb8.mono HB6.out.size)⟩
      · have k1 : ¬ (500 : Int) < ((⟨(prT ds).toArray⟩ : ByteArray).size : Int) := by omega
        have HP5 : Hid (∀ w', Below W.heap.size W w' → Calls Tryz.prog 12 #[.string ⟨(prT ds).toArray⟩] w' fun e w'' => e = .returned (.tuple #[.string ⟨(prT ds).toArray⟩, .int .i64 0, .int .i64 0]) ∧ Below w'.heap.size w' w'') := HPB.out ds hr (by omega)
        clear HPA HPB hr szp
        generalize (⟨(prT ds).toArray⟩ : ByteArray) = U at *
        go_upto_region 14 with (first | (go_at_call 12; refine HP.out.mono ?_; rintro e8 w8 ⟨rfl, hb8⟩; have HB8 : Hid (Below W.heap.size W w8) := HB6.out.trans (hb8.mono HB6.out.size); clear hb8))
        go_wp2_with (first | (go_at_call 12; refine (HP5.out _ HB8.out).mono ?_; rintro e9 w9 ⟨rfl, hb9⟩))
        go_ret
        exact ⟨rfl, HB8.out.trans (hb9.mono HB8.out.size)⟩
  · have hc3 : ¬ (300 : Int) < (SM.size : Int) := by omega
    go_upto_region 8 with fail
    rw [← hc2]
    clear hc1 hc2 HCH
    go_upto_region 9 with (first | (go_at_call 12; refine (HP1.out _ HB3.out).mono ?_; rintro e4 w4 ⟨rfl, hb4⟩; have HM4 : Hid (Mach N1 W.heap.size ob G0 w4 g1) := HM3.out.below hb4; have HB4 : Hid (Below W.heap.size W w4) := HB3.out.trans (hb4.mono HB3.out.size); clear hb4))
    go_upto_region 10 with (first | (go_at_call 12; refine (HP2.out _ HB4.out).mono ?_; rintro e5 w5 ⟨rfl, hb5⟩; have HM5 : Hid (Mach N1 W.heap.size ob G0 w5 g1) := HM4.out.below hb5; have HB5 : Hid (Below W.heap.size W w5) := HB4.out.trans (hb5.mono HB4.out.size); clear hb5))
    go_upto_region 11 with (first | (go_at_call 13; refine (HR.out _ _ _ _ HTL.out HM5.out HB5.out).mono ?_; rintro e6 w6 ⟨g6, sa6, sn6, sc6, rfl, hM6, hb6, hk6⟩; have HB6 : Hid (Below W.heap.size W (w6.alloc (.cells #[.int .i64 1, .string S, .int .i64 0, .int .i64 1, .slice sa6 sn6 sc6] 34))) := (HB5.out.trans hb6).alloc (HB5.out.trans hb6).size _; clear hM6 hb6 hk6))
    have hat6 := at_new w6 (.cells #[.int .i64 1, .string S, .int .i64 0, .int .i64 1, .slice sa6 sn6 sc6] 34)
    generalize w6.alloc (.cells #[.int .i64 1, .string S, .int .i64 0, .int .i64 1, .slice sa6 sn6 sc6] 34) = w7 at *
    have q0 : w7.cell? ⟨w6.heap.size, 0, none⟩ = some (.int .i64 1) := cell_of_at hat6 0
    have q1 : w7.cell? ⟨w6.heap.size, 1, none⟩ = some (.string S) := cell_of_at hat6 1
    have q3 : w7.cell? ⟨w6.heap.size, 3, none⟩ = some (.int .i64 1) := cell_of_at hat6 3
    clear hat6 HP1 HP2 HR HM3 HM4 HM5
    go_upto_region 13 with fail
    clear q0 q1 q3
    cases hr : Rd.readT any with
    | no n p =>
      obtain ⟨hn0, hpn⟩ := readT_no any n p hr
      have HP : Hid (Calls Tryz.prog 12 #[.string any] w7 fun e w' => e = .returned (.tuple #[.string ⟨#[]⟩, .int .i64 n, .int .i64 p]) ∧ Below w7.heap.size w7 w') := by
        have := HPA.out _ HB6.out
        rw [hr] at this
        exact this
      have k0 : ¬ (n : Int) = 0 := by omega
      have k1 : (0 : Int) ≤ (p : Int) := by omega
      have k2 : (p : Int) ≤ (any.size : Int) := by omega
      clear HPA HPB hr hn0 hpn
      go_wp2_with (first | (go_at_call 12; refine HP.out.mono ?_; rintro e8 w8 ⟨rfl, hb8⟩))
      go_ret
      exact ⟨rfl, HB6.out.trans (hb8.mono HB6.out.size)⟩
    | ok ds =>
      have HP : Hid (Calls Tryz.prog 12 #[.string any] w7 fun e w' => e = .returned (.tuple #[.string ⟨(prT ds).toArray⟩, .int .i64 0, .int .i64 0]) ∧ Below w7.heap.size w7 w') := by
        have := HPA.out _ HB6.out
        rw [hr] at this
        exact this
      have szp := sz (prT ds)
      by_cases hl5 : 500 < (prT ds).length
      · have k1 : (500 : Int) < ((⟨(prT ds).toArray⟩ : ByteArray).size : Int) := by omega
        clear HPA HPB hr szp
        generalize (⟨(prT ds).toArray⟩ : ByteArray) = U at *
        go_wp2_with (first | (go_at_call 12; refine HP.out.mono ?_; rintro e8 w8 ⟨rfl, hb8⟩))
        go_ret
        exact ⟨rfl, HB6.out.trans (hb8.mono HB6.out.size)⟩
      · have k1 : ¬ (500 : Int) < ((⟨(prT ds).toArray⟩ : ByteArray).size : Int) := by omega
        have HP5 : Hid (∀ w', Below W.heap.size W w' → Calls Tryz.prog 12 #[.string ⟨(prT ds).toArray⟩] w' fun e w'' => e = .returned (.tuple #[.string ⟨(prT ds).toArray⟩, .int .i64 0, .int .i64 0]) ∧ Below w'.heap.size w' w'') := HPB.out ds hr (by omega)
        clear HPA HPB hr szp
        generalize (⟨(prT ds).toArray⟩ : ByteArray) = U at *
        go_upto_region 14 with (first | (go_at_call 12; refine HP.out.mono ?_; rintro e8 w8 ⟨rfl, hb8⟩; have HB8 : Hid (Below W.heap.size W w8) := HB6.out.trans (hb8.mono HB6.out.size); clear hb8))
        go_wp2_with (first | (go_at_call 12; refine (HP5.out _ HB8.out).mono ?_; rintro e9 w9 ⟨rfl, hb9⟩))
        go_ret
        exact ⟨rfl, HB8.out.trans (hb9.mono HB8.out.size)⟩
end Go.Proofs.YtodeeegbajgafaaGreatDoor
