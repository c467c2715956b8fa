/- The name that a datum is. -/
import Derived.Test.YtodeeegbajgafaaGreatDoorQ08
import Derived.Test.YtodeeegbajgafaaGreatDoorQ10
import Derived.Deep.QuietTactic
import Derived.BigQuiet
namespace Go.Proofs.YtodeeegbajgafaaGreatDoor
open Go.RowKit

theorem rules_none (n : Rd.Sym) (h : Rd.keys.contains n = false) : symIx n ruleList 0 = none := by
  simp only [Rd.keys, List.contains_cons, List.contains_nil, Bool.or_false, Bool.or_eq_false_iff] at h
  obtain ⟨h1, h2, h3, h4, h5, h6, h7, h8, h9, h10, h11⟩ := h
  simp only [Rd.kwQuote, Rd.kwIf, Rd.kwLambda, Rd.kwBegin, Rd.kwLet, Rd.kwSet, Rd.kwAnd, Rd.kwOr, Rd.kwReset, Rd.kwShift, Rd.kwDefine] at h1 h2 h3 h4 h5 h6 h7 h8 h9 h10 h11
  simp [ruleList, symIx, h1, h2, h3, h4, h5, h6, h7, h8, h9, h10, h11]

theorem zero188 (w : World) : (zeroValue 188).run Tryz.prog w = .ok .nilFunc w := by kernel_rfl

theorem eqf_nil (w : World) : (binOp .eql 188 .nilFunc .nilFunc).run Tryz.prog w = .ok (.bool true) w := by kernel_rfl
theorem nef_nil (w : World) : (binOp .neq 188 .nilFunc .nilFunc).run Tryz.prog w = .ok (.bool false) w := by kernel_rfl
theorem nef_func (k : FuncId) (w : World) : (binOp .neq 188 (.func (.func k) #[] #[]) .nilFunc).run Tryz.prog w = .ok (.bool true) w := by kernel_rfl

theorem sym_of_name {d : Rd.D} {n : Rd.Sym} (h : d.name = some n) : ∃ p, d = .mk p [] (.sym n) ∧ Rd.keys.contains n = false := by
  obtain ⟨p, ds, en⟩ := d
  unfold Rd.D.name at h
  cases ds with
  | cons a b => simp [Rd.D.sym] at h
  | nil =>
    cases en <;> simp [Rd.D.sym] at h
    obtain ⟨h1, rfl⟩ := h
    exact ⟨p, rfl, by simpa using h1⟩

set_option maxHeartbeats 1000000 in
set_option maxRecDepth 10000 in
theorem nameOf_any (pb sb kb : Nat) (env : List (List Rd.Sym)) (p : Int) (ad : Option Addr) (c : Nat) (n : Rd.Sym) (w : World) (hp : PAt pb sb kb env w) (hn : Rd.keys.contains n = false) :
    Calls Tryz.prog 105 #[.pointer (some ⟨pb, 0, none⟩), .agg #[.int .i64 p, .slice ad 0 c, .iface 115 (symV n)]] w fun e w' => e = .returned (.tuple #[symV n, .bool true]) ∧ Below w.heap.size w w' := by
  have hS := fun w => symbol_leaf p ad c (.sym n) w
  simp only [aV, Rd.A.symbol, Option.getD_some, Option.isSome_some] at hS
  have HS := (show Hid _ from hS)
  have hnone := rules_none n hn
  clear hS hn
  unfold symV
  go_enter Tryz.func105, Tryz.ntmps105
  go_wp2_with (go_at_call 61; refine (HS.out _).mono ?_; rintro e w1 ⟨rfl, hb⟩)
  have hb1 : Below w.heap.size w w1 := ((Below.refl _ w).alloc (Nat.le_refl _) _).trans (hb.mono (by simp))
  obtain ⟨⟨T, h1⟩, _, hr, _⟩ := hp.kept hb1
  have c2 := cell_of_at h1 2
  simp only [List.getElem?_toArray, List.getElem?_cons_zero, List.getElem?_cons_succ] at c2
  have hlk : ∀ k, (Instr.lookup 92 (.map (some kb)) (.string ⟨n.toArray⟩) false).run Tryz.prog (w1.drewN k) = .ok .nilFunc (w1.drewN k) := by
    intro k
    have hr' : SymsAt kb ruleList (w1.drewN k) := hr
    have := lookup_sym Tryz.underlying92 zero188 hr' n
    rw [hnone] at this
    exact this
  have hlk1 : (Instr.lookup 92 (.map (some kb)) (.string ⟨n.toArray⟩) false).run Tryz.prog w1.drew = .ok .nilFunc w1.drew := hlk 1
  clear hr h1 hnone
  have hq := eqf_nil
  go_region
  all_goals
    go_wp2
    go_ret2
    exact ⟨rfl, hb1.drew⟩
end Go.Proofs.YtodeeegbajgafaaGreatDoor
