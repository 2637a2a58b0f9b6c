/-
  The types that blocks are made of, from layer 7 on: how many cells, which zero.
-/
import Derived.Test.YtjicfonpldobdaaBlkX
namespace Go.Proofs.Ytjicfonpldobdaa
set_option maxRecDepth 100000
open Go.RowKit Go.Sort

theorem row_pin : Row Try.prog 98 3 := ⟨_, Try.underlying98, rfl, by kernel_rfl⟩

theorem siz_pin : (Try.prog.info? 98).map (·.size) = some 3 := by kernel_rfl

theorem zer_pin : (Try.prog.info? 98).map (·.zero) = some (some (.agg #[.int .i64 0, .int .u64 0, .nilFunc])) := by kernel_rfl

theorem row_grc : Row Try.prog 103 4 := ⟨_, Try.underlying103, rfl, by kernel_rfl⟩

theorem siz_grc : (Try.prog.info? 103).map (·.size) = some 4 := by kernel_rfl

theorem zer_grc : (Try.prog.info? 103).map (·.zero) = some (some (.agg #[.int .i64 0, .int .u64 0, .int .i64 0, .nilFunc])) := by kernel_rfl

theorem row_rpin : Row Try.prog 58 3 := ⟨_, Try.underlying58, rfl, by kernel_rfl⟩

theorem siz_rpin : (Try.prog.info? 58).map (·.size) = some 3 := by kernel_rfl

theorem zer_rpin : (Try.prog.info? 58).map (·.zero) = some (some (.agg #[.int .i64 0, .int .u64 0, .int .i64 0])) := by kernel_rfl

theorem row_rgrc : Row Try.prog 69 4 := ⟨_, Try.underlying69, rfl, by kernel_rfl⟩

theorem siz_rgrc : (Try.prog.info? 69).map (·.size) = some 4 := by kernel_rfl

theorem zer_rgrc : (Try.prog.info? 69).map (·.zero) = some (some (.agg #[.int .i64 0, .int .u64 0, .int .i64 0, .bool false])) := by kernel_rfl

theorem row_poke : Row Try.prog 100 4 := ⟨_, Try.underlying100, rfl, by kernel_rfl⟩

theorem siz_poke : (Try.prog.info? 100).map (·.size) = some 4 := by kernel_rfl

theorem zer_poke : (Try.prog.info? 100).map (·.zero) = some (some (.agg #[.int .i64 0, .int .i64 0, .int .i64 0, .int .u64 0])) := by kernel_rfl

theorem row_play : Row Try.prog 54 4 := ⟨_, Try.underlying54, rfl, by kernel_rfl⟩

theorem siz_play : (Try.prog.info? 54).map (·.size) = some 4 := by kernel_rfl

theorem zer_play : (Try.prog.info? 54).map (·.zero) = some (some (.agg #[.int .i64 0, .int .u64 0, .int .i64 0, .slice none 0 0])) := by kernel_rfl

theorem siz_op : (Try.prog.info? 38).map (·.size) = some 5 := by kernel_rfl

theorem zer_op : (Try.prog.info? 38).map (·.zero) = some (some (.agg #[.int .i64 0, .int .i64 0, .int .i64 0, .int .u64 0, .int .u64 0])) := by kernel_rfl

theorem one_fn : One Try.prog 60 := ⟨_, Try.underlying60, rfl⟩

theorem siz_fn : (Try.prog.info? 60).map (·.size) = some 1 := by kernel_rfl

theorem one_pokes : One Try.prog 52 := ⟨_, Try.underlying52, rfl⟩

theorem siz_pokes : (Try.prog.info? 52).map (·.size) = some 1 := by kernel_rfl

theorem one_ops : One Try.prog 26 := ⟨_, Try.underlying26, rfl⟩

theorem siz_ops : (Try.prog.info? 26).map (·.size) = some 1 := by kernel_rfl

end Go.Proofs.Ytjicfonpldobdaa
