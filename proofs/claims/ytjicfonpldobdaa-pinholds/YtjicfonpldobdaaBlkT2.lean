/-
  The types that blocks are made of, from layer 7 on: how many cells, which zero.
-/
import Derived.Test.YtjicfonpldobdaaBlkX
namespace Go.Proofs.Ytjicfonpldobdaa
set_option maxRecDepth 100000
open Go.RowKit Go.Sort

theorem row_pin : Row Try.prog 98 3 := ⟨_, Try.underlying98, rfl, by kernel_rfl⟩

theorem siz_pin : (Try.prog.info? 98).map (·.size) = some 3 := by kernel_rfl

theorem zer_pin : (Try.prog.info? 98).map (·.zero) = some (some (.agg #[.int .i64 0, .int .u64 0, .nilFunc])) := by kernel_rfl

theorem row_grc : Row Try.prog 103 4 := ⟨_, Try.underlying103, rfl, by kernel_rfl⟩

theorem siz_grc : (Try.prog.info? 103).map (·.size) = some 4 := by kernel_rfl

theorem zer_grc : (Try.prog.info? 103).map (·.zero) = some (some (.agg #[.int .i64 0, .int .u64 0, .int .i64 0, .nilFunc])) := by kernel_rfl

theorem row_rpin : Row Try.prog 58 3 := ⟨_, Try.underlying58, rfl, by kernel_rfl⟩

theorem siz_rpin : (Try.prog.info? 58).map (·.size) = some 3 := by kernel_rfl

theorem zer_rpin : (Try.prog.info? 58).map (·.zero) = some (some (.agg #[.int .i64 0, .int .u64 0, .int .i64 0])) := by kernel_rfl

theorem row_rgrc : Row Try.prog 69 4 := ⟨_, Try.underlying69, rfl, by kernel_rfl⟩

theorem siz_rgrc : (Try.prog.info? 69).map (·.size) = some 4 := by kernel_rfl

theorem zer_rgrc : (Try.prog.info? 69).map (·.zero) = some (some (.agg #[.int .i64 0, .int .u64 0, .int .i64 0, .bool false])) := by kernel_rfl

theorem row_poke : Row Try.prog 100 4 := ⟨_, Try.underlying100, rfl, by kernel_rfl⟩

theorem siz_poke : (Try.prog.info? 100).map (·.size) = some 4 := by kernel_rfl

theorem zer_poke : (Try.prog.info? 100).map (·.zero) = some (some (.agg #[.int .i64 0, .int .i64 0, .int .i64 0, .int .u64 0])) := by kernel_rfl

theorem row_play : Row Try.prog 54 4 := ⟨_, Try.underlying54, rfl, by kernel_rfl⟩

theorem siz_play : (Try.prog.info? 54).map (·.size) = some 4 := by kernel_rfl

theorem zer_play : (Try.prog.info? 54).map (·.zero) = some (some (.agg #[.int .i64 0, .int .u64 0, .int .i64 0, .slice none 0 0])) := by kernel_rfl

theorem siz_op : (Try.prog.info? 38).map (·.size) = some 5 := by kernel_rfl

theorem zer_op : (Try.prog.info? 38).map (·.zero) = some (some (.agg #[.int .i64 0, .int .i64 0, .int .i64 0, .int .u64 0, .int .u64 0])) := by kernel_rfl

theorem one_fn : One Try.prog 60 := ⟨_, Try.underlying60, rfl⟩

theorem siz_fn : (Try.prog.info? 60).map (·.size) = some 1 := by kernel_rfl

theorem one_pokes : One Try.prog 52 := ⟨_, Try.underlying52, rfl⟩

theorem siz_pokes : (Try.prog.info? 52).map (·.size) = some 1 := by kernel_rfl

theorem one_ops : One Try.prog 26 := ⟨_, Try.underlying26, rfl⟩

theorem siz_ops : (Try.prog.info? 26).map (·.size) = some 1 := by kernel_rfl

def rowT2 : List (Nat × Nat) := [(33, 13), (31, 6), (29, 2), (24, 5), (39, 2), (87, 6), (38, 5), (98, 3), (103, 4), (58, 3), (69, 4), (100, 4), (54, 4)]

theorem row_all2 : ∀ p ∈ rowT2, Row Try.prog p.1 p.2 := by
  intro p hp
  simp only [rowT2, List.mem_cons, List.not_mem_nil, or_false] at hp
  rcases hp with rfl | rfl | rfl | rfl | rfl | rfl | rfl | rfl | rfl | rfl | rfl | rfl | rfl
  · exact row_rmem
  · exact row_rtch
  · exact row_rspot
  · exact row_cfg
  · exact row_spot
  · exact row_tch
  · exact row_op
  · exact row_pin
  · exact row_grc
  · exact row_rpin
  · exact row_rgrc
  · exact row_poke
  · exact row_play

theorem row_any2 {ty : Nat} {v : Nat} (h : rowT2.lookup ty = some v) : Row Try.prog ty v := row_all2 (ty, v) (look_mem h)

def onuT2 : List (Nat × Unit) := [(3, ()), (22, ()), (4, ()), (25, ()), (60, ()), (52, ()), (26, ())]

theorem onu_all2 : ∀ p ∈ onuT2, One Try.prog p.1 := by
  intro p hp
  simp only [onuT2, List.mem_cons, List.not_mem_nil, or_false] at hp
  rcases hp with rfl | rfl | rfl | rfl | rfl | rfl | rfl
  · exact one_int
  · exact one_u64
  · exact one_bool
  · exact one_words
  · exact one_fn
  · exact one_pokes
  · exact one_ops

theorem onu_any2 {ty : Nat} {v : Unit} (h : onuT2.lookup ty = some v) : One Try.prog ty := onu_all2 (ty, v) (look_mem h)

theorem one_any2 {ty : Nat} (h : onuT2.lookup ty = some ()) : One Try.prog ty := onu_any2 h

def sizT2 : List (Nat × Nat) := [(33, 13), (31, 6), (29, 2), (24, 5), (39, 2), (87, 6), (3, 1), (22, 1), (4, 1), (25, 1), (98, 3), (103, 4), (58, 3), (69, 4), (100, 4), (54, 4), (38, 5), (60, 1), (52, 1), (26, 1)]

theorem siz_all2 : ∀ p ∈ sizT2, (Try.prog.info? p.1).map (·.size) = some p.2 := by
  intro p hp
  simp only [sizT2, List.mem_cons, List.not_mem_nil, or_false] at hp
  rcases hp with rfl | rfl | rfl | rfl | rfl | rfl | rfl | rfl | rfl | rfl | rfl | rfl | rfl | rfl | rfl | rfl | rfl | rfl | rfl | rfl
  · exact siz_rmem
  · exact siz_rtch
  · exact siz_rspot
  · exact siz_cfg
  · exact siz_spot
  · exact siz_tch
  · exact siz_int
  · exact siz_u64
  · exact siz_bool
  · exact siz_words
  · exact siz_pin
  · exact siz_grc
  · exact siz_rpin
  · exact siz_rgrc
  · exact siz_poke
  · exact siz_play
  · exact siz_op
  · exact siz_fn
  · exact siz_pokes
  · exact siz_ops

theorem siz_any2 {ty : Nat} {v : Nat} (h : sizT2.lookup ty = some v) : (Try.prog.info? ty).map (·.size) = some v := siz_all2 (ty, v) (look_mem h)

def zerT2 : List (Nat × Value) := [(33, (.agg #[.int .i64 0, .int .i64 0, .int .i64 0, .int .i64 0, .int .u64 0, .slice none 0 0, .int .i64 0, .int .i64 0, .int .i64 0, .int .i64 0, .int .u64 0, .int .u64 0, .bool false])), (31, (.agg #[.int .i64 0, .int .i64 0, .int .i64 0, .int .u64 0, .int .u64 0, .bool false])), (29, (.agg #[.int .i64 0, .int .i64 0])), (24, (.agg #[.int .i64 0, .int .i64 0, .int .i64 0, .int .i64 0, .int .u64 0])), (39, (.agg #[.int .i64 0, .int .i64 0])), (87, (.agg #[.int .i64 0, .int .i64 0, .int .i64 0, .int .u64 0, .int .u64 0, .bool false])), (98, (.agg #[.int .i64 0, .int .u64 0, .nilFunc])), (103, (.agg #[.int .i64 0, .int .u64 0, .int .i64 0, .nilFunc])), (58, (.agg #[.int .i64 0, .int .u64 0, .int .i64 0])), (69, (.agg #[.int .i64 0, .int .u64 0, .int .i64 0, .bool false])), (100, (.agg #[.int .i64 0, .int .i64 0, .int .i64 0, .int .u64 0])), (54, (.agg #[.int .i64 0, .int .u64 0, .int .i64 0, .slice none 0 0])), (38, (.agg #[.int .i64 0, .int .i64 0, .int .i64 0, .int .u64 0, .int .u64 0]))]

theorem zer_all2 : ∀ p ∈ zerT2, (Try.prog.info? p.1).map (·.zero) = some (some p.2) := by
  intro p hp
  simp only [zerT2, List.mem_cons, List.not_mem_nil, or_false] at hp
  rcases hp with rfl | rfl | rfl | rfl | rfl | rfl | rfl | rfl | rfl | rfl | rfl | rfl | rfl
  · exact zer_rmem
  · exact zer_rtch
  · exact zer_rspot
  · exact zer_cfg
  · exact zer_spot
  · exact zer_tch
  · exact zer_pin
  · exact zer_grc
  · exact zer_rpin
  · exact zer_rgrc
  · exact zer_poke
  · exact zer_play
  · exact zer_op

theorem zer_any2 {ty : Nat} {v : Value} (h : zerT2.lookup ty = some v) : (Try.prog.info? ty).map (·.zero) = some (some v) := zer_all2 (ty, v) (look_mem h)

end Go.Proofs.Ytjicfonpldobdaa
