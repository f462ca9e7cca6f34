/-
  DERIVED. GIVEN WITH THE SEED: THE PROGRAM's TIES (one call each: nine closed facts by the kernel) AND EACH ROW's TIE, after the 31st guide's Derived/Test/Toyas{Tie, Card}.lean. No idea stands in it: it is a product of the set-up. Laid BY PROGRAM, IN A SANDBOX (cutbox-door.mjs). By AI agents, Wed Nov 11 2026. No macro, syntax, notation, axiom, sorry.
-/
import Derived.Test.YtcfjhbcpjpgodaaDoorRows
import Derived.LaidByTextLater
import Derived.SevenTiedAt
import Derived.LaidSub
import Derived.LaidOnce
namespace Go.Proofs.YtcfjhbcpjpgodaaDoor
open Go
set_option maxRecDepth 100000
theorem seatTie1 : Tryd.prog.laidByTextLater [("unicode/utf8.acceptRanges", Rows.laid_unicode_utf8_acceptRanges), ("errors.errorType", Rows.laid_errors_errorType), ("synod/api.ErrArg", Rows.laid_synod_api_ErrArg), ("synod/api.ErrForm", Rows.laid_synod_api_ErrForm), ("synod/api.ErrSeal", Rows.laid_synod_api_ErrSeal), ("synod/api.ErrPast", Rows.laid_synod_api_ErrPast), ("synod/api.ErrFar", Rows.laid_synod_api_ErrFar), ("synod/api.ErrOutsider", Rows.laid_synod_api_ErrOutsider), ("synod/api.ErrKnown", Rows.laid_synod_api_ErrKnown), ("synod/api.ErrMany", Rows.laid_synod_api_ErrMany), ("synod/api.ErrFull", Rows.laid_synod_api_ErrFull), ("synod/api.ErrCert", Rows.laid_synod_api_ErrCert), ("synod/api.ErrNone", Rows.laid_synod_api_ErrNone), ("synod/api.ErrRecord", Rows.laid_synod_api_ErrRecord)] [.data, .handle, .sentinel, .sentinel, .sentinel, .sentinel, .sentinel, .sentinel, .sentinel, .sentinel, .sentinel, .sentinel, .sentinel, .sentinel] true :=
  Program.laidByTextLater_by_one 254 8 33 (by kernel_rfl) (by kernel_rfl) (by kernel_rfl) (by kernel_rfl) (by kernel_rfl) (by kernel_rfl) (fun _ _ => by kernel_rfl)
theorem pin_laid_unicode_utf8_first : Tryd.pinned.checked.prog.pinnedFits "unicode/utf8.first" = true := by kernel_rfl
theorem noOwnUnsafe : Tryd.pinned.checked.prog.headLifts.contains "ownunsafe" = false := by kernel_rfl
theorem tie : Tryd.prog.laidByTextLater [("synod/api.ErrArg", Rows.laid_synod_api_ErrArg), ("synod/api.ErrForm", Rows.laid_synod_api_ErrForm), ("synod/api.ErrSeal", Rows.laid_synod_api_ErrSeal), ("synod/api.ErrPast", Rows.laid_synod_api_ErrPast), ("synod/api.ErrFar", Rows.laid_synod_api_ErrFar), ("synod/api.ErrOutsider", Rows.laid_synod_api_ErrOutsider), ("synod/api.ErrKnown", Rows.laid_synod_api_ErrKnown), ("synod/api.ErrMany", Rows.laid_synod_api_ErrMany), ("synod/api.ErrFull", Rows.laid_synod_api_ErrFull), ("synod/api.ErrCert", Rows.laid_synod_api_ErrCert), ("synod/api.ErrNone", Rows.laid_synod_api_ErrNone), ("synod/api.ErrRecord", Rows.laid_synod_api_ErrRecord)] [.sentinel, .sentinel, .sentinel, .sentinel, .sentinel, .sentinel, .sentinel, .sentinel, .sentinel, .sentinel, .sentinel, .sentinel] true :=
  Program.laidByTextLater.sub seatTie1 ["synod/api.ErrArg", "synod/api.ErrForm", "synod/api.ErrSeal", "synod/api.ErrPast", "synod/api.ErrFar", "synod/api.ErrOutsider", "synod/api.ErrKnown", "synod/api.ErrMany", "synod/api.ErrFull", "synod/api.ErrCert", "synod/api.ErrNone", "synod/api.ErrRecord"] (by kernel_rfl) (by kernel_rfl)
theorem names_row_tie : Rows.namesRow.laidByTextAt .later Tryd.pinned [.sentinel, .sentinel, .sentinel, .sentinel, .sentinel, .sentinel, .sentinel, .sentinel, .sentinel, .sentinel, .sentinel, .sentinel] true :=
  OpenClaim.laidByTextAt_later rfl rfl tie noOwnUnsafe
theorem frames_row_tie : Rows.framesRow.laidByTextAt .later Tryd.pinned [.sentinel, .sentinel, .sentinel, .sentinel, .sentinel, .sentinel, .sentinel, .sentinel, .sentinel, .sentinel, .sentinel, .sentinel] true :=
  OpenClaim.laidByTextAt_later rfl rfl tie noOwnUnsafe
theorem fits2 : Tryd.pinned.checked.prog.listedFits [("unicode/utf8.acceptRanges", Rows.laid_unicode_utf8_acceptRanges), ("synod/api.ErrArg", Rows.laid_synod_api_ErrArg), ("synod/api.ErrForm", Rows.laid_synod_api_ErrForm), ("synod/api.ErrSeal", Rows.laid_synod_api_ErrSeal), ("synod/api.ErrPast", Rows.laid_synod_api_ErrPast), ("synod/api.ErrFar", Rows.laid_synod_api_ErrFar), ("synod/api.ErrOutsider", Rows.laid_synod_api_ErrOutsider), ("synod/api.ErrKnown", Rows.laid_synod_api_ErrKnown), ("synod/api.ErrMany", Rows.laid_synod_api_ErrMany), ("synod/api.ErrFull", Rows.laid_synod_api_ErrFull), ("synod/api.ErrCert", Rows.laid_synod_api_ErrCert), ("synod/api.ErrNone", Rows.laid_synod_api_ErrNone), ("synod/api.ErrRecord", Rows.laid_synod_api_ErrRecord), ("unicode/utf8.first", Rows.laid_unicode_utf8_first)] = true := by
  unfold Program.listedFits
  rw [noOwnUnsafe]
  kernel_rfl
theorem tie2 : Tryd.prog.laidByTextLater [("unicode/utf8.acceptRanges", Rows.laid_unicode_utf8_acceptRanges), ("synod/api.ErrArg", Rows.laid_synod_api_ErrArg), ("synod/api.ErrForm", Rows.laid_synod_api_ErrForm), ("synod/api.ErrSeal", Rows.laid_synod_api_ErrSeal), ("synod/api.ErrPast", Rows.laid_synod_api_ErrPast), ("synod/api.ErrFar", Rows.laid_synod_api_ErrFar), ("synod/api.ErrOutsider", Rows.laid_synod_api_ErrOutsider), ("synod/api.ErrKnown", Rows.laid_synod_api_ErrKnown), ("synod/api.ErrMany", Rows.laid_synod_api_ErrMany), ("synod/api.ErrFull", Rows.laid_synod_api_ErrFull), ("synod/api.ErrCert", Rows.laid_synod_api_ErrCert), ("synod/api.ErrNone", Rows.laid_synod_api_ErrNone), ("synod/api.ErrRecord", Rows.laid_synod_api_ErrRecord)] [.data, .sentinel, .sentinel, .sentinel, .sentinel, .sentinel, .sentinel, .sentinel, .sentinel, .sentinel, .sentinel, .sentinel, .sentinel] true :=
  Program.laidByTextLater.sub seatTie1 ["unicode/utf8.acceptRanges", "synod/api.ErrArg", "synod/api.ErrForm", "synod/api.ErrSeal", "synod/api.ErrPast", "synod/api.ErrFar", "synod/api.ErrOutsider", "synod/api.ErrKnown", "synod/api.ErrMany", "synod/api.ErrFull", "synod/api.ErrCert", "synod/api.ErrNone", "synod/api.ErrRecord"] (by kernel_rfl) (by kernel_rfl)
theorem folds_row_tie : Rows.foldsRow.laidByTextAt .later Tryd.pinned [.data, .sentinel, .sentinel, .sentinel, .sentinel, .sentinel, .sentinel, .sentinel, .sentinel, .sentinel, .sentinel, .sentinel, .sentinel, .pinned] true :=
  OpenClaim.laidByTextAt_pinned rfl rfl tie2 rfl rfl rfl rfl (fun y hy _e => by
    simp only [Rows.foldsRow, List.zip_cons_cons, List.zip_nil_right, List.mem_cons, List.mem_nil_iff, or_false] at hy
    rcases hy with rfl | rfl | rfl | rfl | rfl | rfl | rfl | rfl | rfl | rfl | rfl | rfl | rfl | rfl
    · cases _e
    · cases _e
    · cases _e
    · cases _e
    · cases _e
    · cases _e
    · cases _e
    · cases _e
    · cases _e
    · cases _e
    · cases _e
    · cases _e
    · cases _e
    · exact ⟨pin_laid_unicode_utf8_first, by kernel_rfl⟩) fits2
theorem fits3 : Tryd.pinned.checked.prog.listedFits [("unicode/utf8.acceptRanges", Rows.laid_unicode_utf8_acceptRanges), ("errors.errorType", Rows.laid_errors_errorType), ("synod/api.ErrArg", Rows.laid_synod_api_ErrArg), ("synod/api.ErrForm", Rows.laid_synod_api_ErrForm), ("synod/api.ErrSeal", Rows.laid_synod_api_ErrSeal), ("synod/api.ErrPast", Rows.laid_synod_api_ErrPast), ("synod/api.ErrFar", Rows.laid_synod_api_ErrFar), ("synod/api.ErrOutsider", Rows.laid_synod_api_ErrOutsider), ("synod/api.ErrKnown", Rows.laid_synod_api_ErrKnown), ("synod/api.ErrMany", Rows.laid_synod_api_ErrMany), ("synod/api.ErrFull", Rows.laid_synod_api_ErrFull), ("synod/api.ErrCert", Rows.laid_synod_api_ErrCert), ("synod/api.ErrNone", Rows.laid_synod_api_ErrNone), ("synod/api.ErrRecord", Rows.laid_synod_api_ErrRecord), ("unicode/utf8.first", Rows.laid_unicode_utf8_first)] = true := by
  unfold Program.listedFits
  rw [noOwnUnsafe]
  kernel_rfl
theorem tie3 : Tryd.prog.laidByTextLater [("unicode/utf8.acceptRanges", Rows.laid_unicode_utf8_acceptRanges), ("errors.errorType", Rows.laid_errors_errorType), ("synod/api.ErrArg", Rows.laid_synod_api_ErrArg), ("synod/api.ErrForm", Rows.laid_synod_api_ErrForm), ("synod/api.ErrSeal", Rows.laid_synod_api_ErrSeal), ("synod/api.ErrPast", Rows.laid_synod_api_ErrPast), ("synod/api.ErrFar", Rows.laid_synod_api_ErrFar), ("synod/api.ErrOutsider", Rows.laid_synod_api_ErrOutsider), ("synod/api.ErrKnown", Rows.laid_synod_api_ErrKnown), ("synod/api.ErrMany", Rows.laid_synod_api_ErrMany), ("synod/api.ErrFull", Rows.laid_synod_api_ErrFull), ("synod/api.ErrCert", Rows.laid_synod_api_ErrCert), ("synod/api.ErrNone", Rows.laid_synod_api_ErrNone), ("synod/api.ErrRecord", Rows.laid_synod_api_ErrRecord)] [.data, .handle, .sentinel, .sentinel, .sentinel, .sentinel, .sentinel, .sentinel, .sentinel, .sentinel, .sentinel, .sentinel, .sentinel, .sentinel] true :=
  Program.laidByTextLater.sub seatTie1 ["unicode/utf8.acceptRanges", "errors.errorType", "synod/api.ErrArg", "synod/api.ErrForm", "synod/api.ErrSeal", "synod/api.ErrPast", "synod/api.ErrFar", "synod/api.ErrOutsider", "synod/api.ErrKnown", "synod/api.ErrMany", "synod/api.ErrFull", "synod/api.ErrCert", "synod/api.ErrNone", "synod/api.ErrRecord"] (by kernel_rfl) (by kernel_rfl)
theorem clients_row_tie : Rows.clientsRow.laidByTextAt .later Tryd.pinned [.data, .handle, .sentinel, .sentinel, .sentinel, .sentinel, .sentinel, .sentinel, .sentinel, .sentinel, .sentinel, .sentinel, .sentinel, .sentinel, .pinned] true :=
  OpenClaim.laidByTextAt_pinned rfl rfl tie3 rfl rfl rfl rfl (fun y hy _e => by
    simp only [Rows.clientsRow, List.zip_cons_cons, List.zip_nil_right, List.mem_cons, List.mem_nil_iff, or_false] at hy
    rcases hy with rfl | rfl | rfl | rfl | rfl | rfl | rfl | rfl | rfl | rfl | rfl | rfl | rfl | rfl | rfl
    · cases _e
    · cases _e
    · cases _e
    · cases _e
    · cases _e
    · cases _e
    · cases _e
    · cases _e
    · cases _e
    · cases _e
    · cases _e
    · cases _e
    · cases _e
    · cases _e
    · exact ⟨pin_laid_unicode_utf8_first, by kernel_rfl⟩) fits3
theorem tie4 : Tryd.prog.laidByTextLater [("synod/api.ErrForm", Rows.laid_synod_api_ErrForm), ("synod/api.ErrSeal", Rows.laid_synod_api_ErrSeal)] [.sentinel, .sentinel] true :=
  Program.laidByTextLater.sub seatTie1 ["synod/api.ErrForm", "synod/api.ErrSeal"] (by kernel_rfl) (by kernel_rfl)
theorem blames_row_tie : Rows.blamesRow.laidByTextAt .later Tryd.pinned [.sentinel, .sentinel] true :=
  OpenClaim.laidByTextAt_later rfl rfl tie4 noOwnUnsafe
theorem namesUpto_row_tie : Rows.namesUptoRow.laidByTextAt .later Tryd.pinned [.sentinel, .sentinel, .sentinel, .sentinel, .sentinel, .sentinel, .sentinel, .sentinel, .sentinel, .sentinel, .sentinel, .sentinel] true :=
  OpenClaim.laidByTextAt_later rfl rfl tie noOwnUnsafe
theorem framesUpto_row_tie : Rows.framesUptoRow.laidByTextAt .later Tryd.pinned [.sentinel, .sentinel, .sentinel, .sentinel, .sentinel, .sentinel, .sentinel, .sentinel, .sentinel, .sentinel, .sentinel, .sentinel] true :=
  OpenClaim.laidByTextAt_later rfl rfl tie noOwnUnsafe
theorem foldsUpto_row_tie : Rows.foldsUptoRow.laidByTextAt .later Tryd.pinned [.data, .sentinel, .sentinel, .sentinel, .sentinel, .sentinel, .sentinel, .sentinel, .sentinel, .sentinel, .sentinel, .sentinel, .sentinel, .pinned] true :=
  OpenClaim.laidByTextAt_pinned rfl rfl tie2 rfl rfl rfl rfl (fun y hy _e => by
    simp only [Rows.foldsUptoRow, List.zip_cons_cons, List.zip_nil_right, List.mem_cons, List.mem_nil_iff, or_false] at hy
    rcases hy with rfl | rfl | rfl | rfl | rfl | rfl | rfl | rfl | rfl | rfl | rfl | rfl | rfl | rfl
    · cases _e
    · cases _e
    · cases _e
    · cases _e
    · cases _e
    · cases _e
    · cases _e
    · cases _e
    · cases _e
    · cases _e
    · cases _e
    · cases _e
    · cases _e
    · exact ⟨pin_laid_unicode_utf8_first, by kernel_rfl⟩) fits2
theorem clientsUpto_row_tie : Rows.clientsUptoRow.laidByTextAt .later Tryd.pinned [.data, .handle, .sentinel, .sentinel, .sentinel, .sentinel, .sentinel, .sentinel, .sentinel, .sentinel, .sentinel, .sentinel, .sentinel, .sentinel, .pinned] true :=
  OpenClaim.laidByTextAt_pinned rfl rfl tie3 rfl rfl rfl rfl (fun y hy _e => by
    simp only [Rows.clientsUptoRow, List.zip_cons_cons, List.zip_nil_right, List.mem_cons, List.mem_nil_iff, or_false] at hy
    rcases hy with rfl | rfl | rfl | rfl | rfl | rfl | rfl | rfl | rfl | rfl | rfl | rfl | rfl | rfl | rfl
    · cases _e
    · cases _e
    · cases _e
    · cases _e
    · cases _e
    · cases _e
    · cases _e
    · cases _e
    · cases _e
    · cases _e
    · cases _e
    · cases _e
    · cases _e
    · cases _e
    · exact ⟨pin_laid_unicode_utf8_first, by kernel_rfl⟩) fits3
theorem blamesUpto_row_tie : Rows.blamesUptoRow.laidByTextAt .later Tryd.pinned [.sentinel, .sentinel] true :=
  OpenClaim.laidByTextAt_later rfl rfl tie4 noOwnUnsafe
end Go.Proofs.YtcfjhbcpjpgodaaDoor
