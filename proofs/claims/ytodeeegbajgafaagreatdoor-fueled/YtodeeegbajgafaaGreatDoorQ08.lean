/- What assertions of a dynamic type answer, over this program's types. What assertions answer of values: pairs and procedures. What assertions of a form's dynamic type answer. -/
import Derived.Test.YtodeeegbajgafaaGreatDoorProg
import Derived.WalkKit
import Derived.KernelRfl
namespace Go.Proofs.YtodeeegbajgafaaGreatDoor
open Go.RowKit
theorem ta_hit146 (v : Value) (w : World) : (Instr.typeAssert (.iface 146 v) 60 146 true).run Tryz.prog w = .ok (.tuple #[v, .bool true]) w := by kernel_rfl
theorem ta_miss146 (t : TypeId) (v : Value) (w : World) (h : t ≠ 146) : (Instr.typeAssert (.iface t v) 60 146 true).run Tryz.prog w = .ok (.tuple #[.agg #[], .bool false]) w := by
  simp [Instr.typeAssert, run_underlying Tryz.underlying146, Tryz.zeroValue146, h]
theorem ta_hit115 (v : Value) (w : World) : (Instr.typeAssert (.iface 115 v) 60 115 true).run Tryz.prog w = .ok (.tuple #[v, .bool true]) w := by kernel_rfl
theorem ta_miss115 (t : TypeId) (v : Value) (w : World) (h : t ≠ 115) : (Instr.typeAssert (.iface t v) 60 115 true).run Tryz.prog w = .ok (.tuple #[.string ⟨#[]⟩, .bool false]) w := by
  simp [Instr.typeAssert, run_underlying Tryz.underlying115, Tryz.zeroValue115, h]
end Go.Proofs.YtodeeegbajgafaaGreatDoor
namespace Go.Proofs.YtodeeegbajgafaaGreatDoor
open Go.RowKit
theorem ta_hit147 (v : Value) (w : World) : (Instr.typeAssert (.iface 147 v) 60 147 true).run Tryz.prog w = .ok (.tuple #[v, .bool true]) w := by kernel_rfl
theorem ta_miss147 (t : TypeId) (v : Value) (w : World) (h : t ≠ 147) : (Instr.typeAssert (.iface t v) 60 147 true).run Tryz.prog w = .ok (.tuple #[.int .i64 0, .bool false]) w := by
  simp [Instr.typeAssert, run_underlying Tryz.underlying147, Tryz.zeroValue147, h]
theorem ta_hit150 (v : Value) (w : World) : (Instr.typeAssert (.iface 150 v) 60 150 true).run Tryz.prog w = .ok (.tuple #[v, .bool true]) w := by kernel_rfl
theorem ta_miss150 (t : TypeId) (v : Value) (w : World) (h : t ≠ 150) : (Instr.typeAssert (.iface t v) 60 150 true).run Tryz.prog w = .ok (.tuple #[.bool false, .bool false]) w := by
  simp [Instr.typeAssert, run_underlying Tryz.underlying150, Tryz.zeroValue150, h]
end Go.Proofs.YtodeeegbajgafaaGreatDoor

namespace Go.Proofs.YtodeeegbajgafaaGreatDoor
open Go.RowKit
theorem ta_hit124 (v : Value) (w : World) : (Instr.typeAssert (.iface 124 v) 60 124 true).run Tryz.prog w = .ok (.tuple #[v, .bool true]) w := by kernel_rfl
theorem ta_miss124 (t : TypeId) (v : Value) (w : World) (h : t ≠ 124) : (Instr.typeAssert (.iface t v) 60 124 true).run Tryz.prog w = .ok (.tuple #[.pointer none, .bool false]) w := by
  simp [Instr.typeAssert, run_underlying Tryz.underlying124, Tryz.zeroValue124, h]
theorem tp_hit111 (v : Value) (w : World) : (Instr.typeAssert (.iface 111 v) 149 111 true).run Tryz.prog w = .ok (.tuple #[v, .bool true]) w := by kernel_rfl
theorem tp_hit226 (v : Value) (w : World) : (Instr.typeAssert (.iface 226 v) 149 226 true).run Tryz.prog w = .ok (.tuple #[v, .bool true]) w := by kernel_rfl
theorem tp_hit258 (v : Value) (w : World) : (Instr.typeAssert (.iface 258 v) 149 258 true).run Tryz.prog w = .ok (.tuple #[v, .bool true]) w := by kernel_rfl
theorem tp_miss111 (t : TypeId) (v : Value) (w : World) (h : t ≠ 111) : (Instr.typeAssert (.iface t v) 149 111 true).run Tryz.prog w = .ok (.tuple #[.pointer none, .bool false]) w := by
  simp [Instr.typeAssert, run_underlying Tryz.underlying111, Tryz.zeroValue111, h]
theorem tp_miss226 (t : TypeId) (v : Value) (w : World) (h : t ≠ 226) : (Instr.typeAssert (.iface t v) 149 226 true).run Tryz.prog w = .ok (.tuple #[.pointer none, .bool false]) w := by
  simp [Instr.typeAssert, run_underlying Tryz.underlying226, Tryz.zeroValue226, h]
theorem tp_111 (v : Value) (w : World) : (Instr.typeAssert (.iface 111 v) 60 149 true).run Tryz.prog w = .ok (.tuple #[.iface 111 v, .bool true]) w := by kernel_rfl
theorem tp_226 (v : Value) (w : World) : (Instr.typeAssert (.iface 226 v) 60 149 true).run Tryz.prog w = .ok (.tuple #[.iface 226 v, .bool true]) w := by kernel_rfl
theorem tp_258 (v : Value) (w : World) : (Instr.typeAssert (.iface 258 v) 60 149 true).run Tryz.prog w = .ok (.tuple #[.iface 258 v, .bool true]) w := by kernel_rfl
end Go.Proofs.YtodeeegbajgafaaGreatDoor

namespace Go.Proofs.YtodeeegbajgafaaGreatDoor
open Go.RowKit
theorem tf_hit163 (v : Value) (w : World) : (Instr.typeAssert (.iface 163 v) 96 163 true).run Tryz.prog w = .ok (.tuple #[v, .bool true]) w := by kernel_rfl
theorem tf_miss163 (t : TypeId) (v : Value) (w : World) (h : t ≠ 163) : (Instr.typeAssert (.iface t v) 96 163 true).run Tryz.prog w = .ok (.tuple #[.agg #[.nilIface], .bool false]) w := by
  simp [Instr.typeAssert, run_underlying Tryz.underlying163, Tryz.zeroValue163, h]
theorem tf_hit178 (v : Value) (w : World) : (Instr.typeAssert (.iface 178 v) 96 178 true).run Tryz.prog w = .ok (.tuple #[v, .bool true]) w := by kernel_rfl
theorem tf_miss178 (t : TypeId) (v : Value) (w : World) (h : t ≠ 178) : (Instr.typeAssert (.iface t v) 96 178 true).run Tryz.prog w = .ok (.tuple #[.agg #[.string ⟨#[]⟩, .bool false, .int .i64 0, .int .i64 0], .bool false]) w := by
  simp [Instr.typeAssert, run_underlying Tryz.underlying178, Tryz.zeroValue178, h]
theorem tf_hit166 (v : Value) (w : World) : (Instr.typeAssert (.iface 166 v) 96 166 true).run Tryz.prog w = .ok (.tuple #[v, .bool true]) w := by kernel_rfl
theorem tf_miss166 (t : TypeId) (v : Value) (w : World) (h : t ≠ 166) : (Instr.typeAssert (.iface t v) 96 166 true).run Tryz.prog w = .ok (.tuple #[.agg #[.nilIface, .nilIface, .nilIface], .bool false]) w := by
  simp [Instr.typeAssert, run_underlying Tryz.underlying166, Tryz.zeroValue166, h]
theorem tf_hit214 (v : Value) (w : World) : (Instr.typeAssert (.iface 214 v) 96 214 true).run Tryz.prog w = .ok (.tuple #[v, .bool true]) w := by kernel_rfl
theorem tf_miss214 (t : TypeId) (v : Value) (w : World) (h : t ≠ 214) : (Instr.typeAssert (.iface t v) 96 214 true).run Tryz.prog w = .ok (.tuple #[.agg #[.int .i64 0, .slice none 0 0], .bool false]) w := by
  simp [Instr.typeAssert, run_underlying Tryz.underlying214, Tryz.zeroValue214, h]
theorem tf_hit169 (v : Value) (w : World) : (Instr.typeAssert (.iface 169 v) 96 169 true).run Tryz.prog w = .ok (.tuple #[v, .bool true]) w := by kernel_rfl
theorem tf_miss169 (t : TypeId) (v : Value) (w : World) (h : t ≠ 169) : (Instr.typeAssert (.iface t v) 96 169 true).run Tryz.prog w = .ok (.tuple #[.agg #[.slice none 0 0], .bool false]) w := by
  simp [Instr.typeAssert, run_underlying Tryz.underlying169, Tryz.zeroValue169, h]
theorem tf_hit175 (v : Value) (w : World) : (Instr.typeAssert (.iface 175 v) 96 175 true).run Tryz.prog w = .ok (.tuple #[v, .bool true]) w := by kernel_rfl
theorem tf_miss175 (t : TypeId) (v : Value) (w : World) (h : t ≠ 175) : (Instr.typeAssert (.iface t v) 96 175 true).run Tryz.prog w = .ok (.tuple #[.agg #[.slice none 0 0, .slice none 0 0], .bool false]) w := by
  simp [Instr.typeAssert, run_underlying Tryz.underlying175, Tryz.zeroValue175, h]
theorem tf_hit181 (v : Value) (w : World) : (Instr.typeAssert (.iface 181 v) 96 181 true).run Tryz.prog w = .ok (.tuple #[v, .bool true]) w := by kernel_rfl
theorem tf_miss181 (t : TypeId) (v : Value) (w : World) (h : t ≠ 181) : (Instr.typeAssert (.iface t v) 96 181 true).run Tryz.prog w = .ok (.tuple #[.agg #[.string ⟨#[]⟩, .bool false, .int .i64 0, .int .i64 0, .nilIface], .bool false]) w := by
  simp [Instr.typeAssert, run_underlying Tryz.underlying181, Tryz.zeroValue181, h]
theorem tf_hit222 (v : Value) (w : World) : (Instr.typeAssert (.iface 222 v) 96 222 true).run Tryz.prog w = .ok (.tuple #[v, .bool true]) w := by kernel_rfl
theorem tf_miss222 (t : TypeId) (v : Value) (w : World) (h : t ≠ 222) : (Instr.typeAssert (.iface t v) 96 222 true).run Tryz.prog w = .ok (.tuple #[.agg #[.bool false, .slice none 0 0], .bool false]) w := by
  simp [Instr.typeAssert, run_underlying Tryz.underlying222, Tryz.zeroValue222, h]
theorem tf_hit183 (v : Value) (w : World) : (Instr.typeAssert (.iface 183 v) 96 183 true).run Tryz.prog w = .ok (.tuple #[v, .bool true]) w := by kernel_rfl
theorem tf_miss183 (t : TypeId) (v : Value) (w : World) (h : t ≠ 183) : (Instr.typeAssert (.iface t v) 96 183 true).run Tryz.prog w = .ok (.tuple #[.agg #[.slice none 0 0], .bool false]) w := by
  simp [Instr.typeAssert, run_underlying Tryz.underlying183, Tryz.zeroValue183, h]
theorem tf_hit184 (v : Value) (w : World) : (Instr.typeAssert (.iface 184 v) 96 184 true).run Tryz.prog w = .ok (.tuple #[v, .bool true]) w := by kernel_rfl
theorem tf_miss184 (t : TypeId) (v : Value) (w : World) (h : t ≠ 184) : (Instr.typeAssert (.iface t v) 96 184 true).run Tryz.prog w = .ok (.tuple #[.agg #[.slice none 0 0], .bool false]) w := by
  simp [Instr.typeAssert, run_underlying Tryz.underlying184, Tryz.zeroValue184, h]
theorem tf_hit187 (v : Value) (w : World) : (Instr.typeAssert (.iface 187 v) 96 187 true).run Tryz.prog w = .ok (.tuple #[v, .bool true]) w := by kernel_rfl
theorem tf_miss187 (t : TypeId) (v : Value) (w : World) (h : t ≠ 187) : (Instr.typeAssert (.iface t v) 96 187 true).run Tryz.prog w = .ok (.tuple #[.agg #[.string ⟨#[]⟩, .nilIface], .bool false]) w := by
  simp [Instr.typeAssert, run_underlying Tryz.underlying187, Tryz.zeroValue187, h]
theorem tf_hit190 (v : Value) (w : World) : (Instr.typeAssert (.iface 190 v) 96 190 true).run Tryz.prog w = .ok (.tuple #[v, .bool true]) w := by kernel_rfl
end Go.Proofs.YtodeeegbajgafaaGreatDoor
