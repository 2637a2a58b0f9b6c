/-
  The types that blocks are made of: how many cells, which zero.
-/
import Derived.Test.YtjicfonpldobdaaBlk
namespace Go.Proofs.Ytjicfonpldobdaa
set_option maxRecDepth 100000
open Go.RowKit Go.Sort

theorem row_cfg : Row Try.prog 24 5 := ⟨_, Try.underlying24, rfl, by kernel_rfl⟩

theorem row_rspot : Row Try.prog 29 2 := ⟨_, Try.underlying29, rfl, by kernel_rfl⟩

theorem row_rtch : Row Try.prog 31 6 := ⟨_, Try.underlying31, rfl, by kernel_rfl⟩

theorem row_rmem : Row Try.prog 33 13 := ⟨_, Try.underlying33, rfl, by kernel_rfl⟩

theorem row_spot : Row Try.prog 39 2 := ⟨_, Try.underlying39, rfl, by kernel_rfl⟩

theorem row_tch : Row Try.prog 87 6 := ⟨_, Try.underlying87, rfl, by kernel_rfl⟩

theorem row_op : Row Try.prog 38 5 := ⟨_, Try.underlying38, rfl, by kernel_rfl⟩

theorem one_int : One Try.prog 3 := ⟨_, Try.underlying3, rfl⟩

theorem one_u64 : One Try.prog 22 := ⟨_, Try.underlying22, rfl⟩

theorem one_bool : One Try.prog 4 := ⟨_, Try.underlying4, rfl⟩

theorem one_words : One Try.prog 25 := ⟨_, Try.underlying25, rfl⟩

theorem siz_cfg : (Try.prog.info? 24).map (·.size) = some 5 := by kernel_rfl

theorem siz_rspot : (Try.prog.info? 29).map (·.size) = some 2 := by kernel_rfl

theorem siz_rtch : (Try.prog.info? 31).map (·.size) = some 6 := by kernel_rfl

theorem siz_rmem : (Try.prog.info? 33).map (·.size) = some 13 := by kernel_rfl

theorem siz_spot : (Try.prog.info? 39).map (·.size) = some 2 := by kernel_rfl

theorem siz_tch : (Try.prog.info? 87).map (·.size) = some 6 := by kernel_rfl

theorem siz_int : (Try.prog.info? 3).map (·.size) = some 1 := by kernel_rfl

theorem siz_u64 : (Try.prog.info? 22).map (·.size) = some 1 := by kernel_rfl

theorem siz_bool : (Try.prog.info? 4).map (·.size) = some 1 := by kernel_rfl

theorem siz_words : (Try.prog.info? 25).map (·.size) = some 1 := by kernel_rfl

theorem zer_rspot : (Try.prog.info? 29).map (·.zero) = some (some (.agg #[.int .i64 0, .int .i64 0])) := by kernel_rfl

theorem zer_spot : (Try.prog.info? 39).map (·.zero) = some (some (.agg #[.int .i64 0, .int .i64 0])) := by kernel_rfl

theorem zer_cfg : (Try.prog.info? 24).map (·.zero) = some (some (.agg #[.int .i64 0, .int .i64 0, .int .i64 0, .int .i64 0, .int .u64 0])) := by kernel_rfl

theorem zer_rtch : (Try.prog.info? 31).map (·.zero) = some (some (.agg #[.int .i64 0, .int .i64 0, .int .i64 0, .int .u64 0, .int .u64 0, .bool false])) := by kernel_rfl

theorem zer_tch : (Try.prog.info? 87).map (·.zero) = some (some (.agg #[.int .i64 0, .int .i64 0, .int .i64 0, .int .u64 0, .int .u64 0, .bool false])) := by kernel_rfl

theorem zer_rmem : (Try.prog.info? 33).map (·.zero) = some (some (.agg #[.int .i64 0, .int .i64 0, .int .i64 0, .int .i64 0, .int .u64 0, .slice none 0 0, .int .i64 0, .int .i64 0, .int .i64 0, .int .i64 0, .int .u64 0, .int .u64 0, .bool false])) := by kernel_rfl

end Go.Proofs.Ytjicfonpldobdaa
