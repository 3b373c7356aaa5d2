/-
  DERIVED. GIVEN WITH THE SEED: THE PROGRAM's TIES (one call each: nine closed facts by the kernel) AND EACH ROW's TIE, after the 31st guide's Derived/Test/Toyas{Tie, Card}.lean. No idea stands in it: it is a product of the set-up. Laid BY PROGRAM, IN A SANDBOX (cutbox-door.mjs). By AI agents, Wed Nov 11 2026. No macro, syntax, notation, axiom, sorry.
-/
import Derived.Test.YtdabndiaflagpaaGreatDoorRows
import Derived.LaidByTextLater
import Derived.SevenTiedAt
import Derived.LaidSub
import Derived.LaidOnce
namespace Go.Proofs.YtdabndiaflagpaaGreatDoor
open Go
set_option maxRecDepth 100000
theorem seatTie1 : Tryz.prog.laidByTextLater [("math/bits.deBruijn32tab", Rows.laid_math_bits_deBruijn32tab), ("math/bits.deBruijn64tab", Rows.laid_math_bits_deBruijn64tab), ("internal/strconv.uint64pow10", Rows.laid_internal_strconv_uint64pow10), ("shuttlecock/ast.shapes", Rows.laid_shuttlecock_ast_shapes), ("strconv.ErrRange", Rows.laid_strconv_ErrRange), ("strconv.ErrSyntax", Rows.laid_strconv_ErrSyntax), ("shuttlecock/lex.signs", Rows.laid_shuttlecock_lex_signs), ("shuttlecock/parse.levels", Rows.laid_shuttlecock_parse_levels), ("shuttlecock/parse.prefixes", Rows.laid_shuttlecock_parse_prefixes), ("shuttlecock/print.operators", Rows.laid_shuttlecock_print_operators), ("shuttlecock/print.prefixes", Rows.laid_shuttlecock_print_prefixes), ("shuttlecock/print.types", Rows.laid_shuttlecock_print_types)] [.data, .data, .data, .data, .sentinel, .sentinel, .data, .data, .data, .data, .data, .data] true :=
  Program.laidByTextLater_by_one 150 8 65 (by kernel_rfl) (by kernel_rfl) (by kernel_rfl) (by kernel_rfl) (by kernel_rfl) (by kernel_rfl) (fun _ _ => by kernel_rfl)
theorem noOwnUnsafe : Tryz.pinned.checked.prog.headLifts.contains "ownunsafe" = false := by kernel_rfl
theorem tie : Tryz.prog.laidByTextLater [("math/bits.deBruijn32tab", Rows.laid_math_bits_deBruijn32tab), ("math/bits.deBruijn64tab", Rows.laid_math_bits_deBruijn64tab), ("internal/strconv.uint64pow10", Rows.laid_internal_strconv_uint64pow10), ("shuttlecock/ast.shapes", Rows.laid_shuttlecock_ast_shapes), ("strconv.ErrRange", Rows.laid_strconv_ErrRange), ("strconv.ErrSyntax", Rows.laid_strconv_ErrSyntax), ("shuttlecock/lex.signs", Rows.laid_shuttlecock_lex_signs), ("shuttlecock/parse.levels", Rows.laid_shuttlecock_parse_levels), ("shuttlecock/parse.prefixes", Rows.laid_shuttlecock_parse_prefixes)] [.data, .data, .data, .data, .sentinel, .sentinel, .data, .data, .data] true :=
  Program.laidByTextLater.sub seatTie1 ["math/bits.deBruijn32tab", "math/bits.deBruijn64tab", "internal/strconv.uint64pow10", "shuttlecock/ast.shapes", "strconv.ErrRange", "strconv.ErrSyntax", "shuttlecock/lex.signs", "shuttlecock/parse.levels", "shuttlecock/parse.prefixes"] (by kernel_rfl) (by kernel_rfl)
theorem parseTells_row_tie : Rows.parseTellsRow.laidByTextAt .later Tryz.pinned [.data, .data, .data, .data, .sentinel, .sentinel, .data, .data, .data] true :=
  OpenClaim.laidByTextAt_later rfl rfl tie noOwnUnsafe
theorem parseDeep_row_tie : Rows.parseDeepRow.laidByTextAt .later Tryz.pinned [.data, .data, .data, .data, .sentinel, .sentinel, .data, .data, .data] true :=
  OpenClaim.laidByTextAt_later rfl rfl tie noOwnUnsafe
theorem tie2 : Tryz.prog.laidByTextLater [("math/bits.deBruijn32tab", Rows.laid_math_bits_deBruijn32tab), ("math/bits.deBruijn64tab", Rows.laid_math_bits_deBruijn64tab), ("internal/strconv.uint64pow10", Rows.laid_internal_strconv_uint64pow10), ("shuttlecock/ast.shapes", Rows.laid_shuttlecock_ast_shapes), ("strconv.ErrRange", Rows.laid_strconv_ErrRange), ("strconv.ErrSyntax", Rows.laid_strconv_ErrSyntax), ("shuttlecock/lex.signs", Rows.laid_shuttlecock_lex_signs), ("shuttlecock/parse.levels", Rows.laid_shuttlecock_parse_levels), ("shuttlecock/parse.prefixes", Rows.laid_shuttlecock_parse_prefixes), ("shuttlecock/print.operators", Rows.laid_shuttlecock_print_operators), ("shuttlecock/print.prefixes", Rows.laid_shuttlecock_print_prefixes), ("shuttlecock/print.types", Rows.laid_shuttlecock_print_types)] [.data, .data, .data, .data, .sentinel, .sentinel, .data, .data, .data, .data, .data, .data] true :=
  Program.laidByTextLater.sub seatTie1 ["math/bits.deBruijn32tab", "math/bits.deBruijn64tab", "internal/strconv.uint64pow10", "shuttlecock/ast.shapes", "strconv.ErrRange", "strconv.ErrSyntax", "shuttlecock/lex.signs", "shuttlecock/parse.levels", "shuttlecock/parse.prefixes", "shuttlecock/print.operators", "shuttlecock/print.prefixes", "shuttlecock/print.types"] (by kernel_rfl) (by kernel_rfl)
theorem printBack_row_tie : Rows.printBackRow.laidByTextAt .later Tryz.pinned [.data, .data, .data, .data, .sentinel, .sentinel, .data, .data, .data, .data, .data, .data] true :=
  OpenClaim.laidByTextAt_later rfl rfl tie2 noOwnUnsafe
theorem tie3 : Tryz.prog.laidByTextLater [("math/bits.deBruijn32tab", Rows.laid_math_bits_deBruijn32tab), ("math/bits.deBruijn64tab", Rows.laid_math_bits_deBruijn64tab), ("internal/strconv.uint64pow10", Rows.laid_internal_strconv_uint64pow10), ("shuttlecock/ast.shapes", Rows.laid_shuttlecock_ast_shapes), ("strconv.ErrRange", Rows.laid_strconv_ErrRange), ("strconv.ErrSyntax", Rows.laid_strconv_ErrSyntax), ("shuttlecock/lex.signs", Rows.laid_shuttlecock_lex_signs), ("shuttlecock/parse.levels", Rows.laid_shuttlecock_parse_levels), ("shuttlecock/parse.prefixes", Rows.laid_shuttlecock_parse_prefixes), ("shuttlecock/print.operators", Rows.laid_shuttlecock_print_operators), ("shuttlecock/print.prefixes", Rows.laid_shuttlecock_print_prefixes)] [.data, .data, .data, .data, .sentinel, .sentinel, .data, .data, .data, .data, .data] true :=
  Program.laidByTextLater.sub seatTie1 ["math/bits.deBruijn32tab", "math/bits.deBruijn64tab", "internal/strconv.uint64pow10", "shuttlecock/ast.shapes", "strconv.ErrRange", "strconv.ErrSyntax", "shuttlecock/lex.signs", "shuttlecock/parse.levels", "shuttlecock/parse.prefixes", "shuttlecock/print.operators", "shuttlecock/print.prefixes"] (by kernel_rfl) (by kernel_rfl)
theorem printBrackets_row_tie : Rows.printBracketsRow.laidByTextAt .later Tryz.pinned [.data, .data, .data, .data, .sentinel, .sentinel, .data, .data, .data, .data, .data] true :=
  OpenClaim.laidByTextAt_later rfl rfl tie3 noOwnUnsafe
theorem parseTellsUpto_row_tie : Rows.parseTellsUptoRow.laidByTextAt .later Tryz.pinned [.data, .data, .data, .data, .sentinel, .sentinel, .data, .data, .data] true :=
  OpenClaim.laidByTextAt_later rfl rfl tie noOwnUnsafe
theorem parseDeepUpto_row_tie : Rows.parseDeepUptoRow.laidByTextAt .later Tryz.pinned [.data, .data, .data, .data, .sentinel, .sentinel, .data, .data, .data] true :=
  OpenClaim.laidByTextAt_later rfl rfl tie noOwnUnsafe
theorem printBackUpto_row_tie : Rows.printBackUptoRow.laidByTextAt .later Tryz.pinned [.data, .data, .data, .data, .sentinel, .sentinel, .data, .data, .data, .data, .data, .data] true :=
  OpenClaim.laidByTextAt_later rfl rfl tie2 noOwnUnsafe
theorem printBracketsUpto_row_tie : Rows.printBracketsUptoRow.laidByTextAt .later Tryz.pinned [.data, .data, .data, .data, .sentinel, .sentinel, .data, .data, .data, .data, .data] true :=
  OpenClaim.laidByTextAt_later rfl rfl tie3 noOwnUnsafe
end Go.Proofs.YtdabndiaflagpaaGreatDoor
