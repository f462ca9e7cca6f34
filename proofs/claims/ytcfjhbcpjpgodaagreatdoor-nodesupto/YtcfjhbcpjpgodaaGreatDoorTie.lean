/-
  DERIVED. GIVEN WITH THE SEED: THE PROGRAM's TIES (one call each: nine closed facts by the kernel) AND EACH ROW's TIE, after the 31st guide's Derived/Test/Toyas{Tie, Card}.lean. No idea stands in it: it is a product of the set-up. Laid BY PROGRAM, IN A SANDBOX (cutbox-door.mjs). By AI agents, Wed Nov 11 2026. No macro, syntax, notation, axiom, sorry.
-/
import Derived.Test.YtcfjhbcpjpgodaaGreatDoorRows
import Derived.LaidByTextLater
import Derived.SevenTiedAt
import Derived.LaidSub
import Derived.LaidOnce
namespace Go.Proofs.YtcfjhbcpjpgodaaGreatDoor
open Go
set_option maxRecDepth 100000
theorem seatTie1 : Tryz.prog.laidByTextLater [("unicode/utf8.acceptRanges", Rows.laid_unicode_utf8_acceptRanges), ("errors.errorType", Rows.laid_errors_errorType), ("synod/api.ErrArg", Rows.laid_synod_api_ErrArg), ("synod/api.ErrForm", Rows.laid_synod_api_ErrForm), ("synod/api.ErrSeal", Rows.laid_synod_api_ErrSeal), ("synod/api.ErrPast", Rows.laid_synod_api_ErrPast), ("synod/api.ErrFar", Rows.laid_synod_api_ErrFar), ("synod/api.ErrOutsider", Rows.laid_synod_api_ErrOutsider), ("synod/api.ErrKnown", Rows.laid_synod_api_ErrKnown), ("synod/api.ErrMany", Rows.laid_synod_api_ErrMany), ("synod/api.ErrFull", Rows.laid_synod_api_ErrFull), ("synod/api.ErrCert", Rows.laid_synod_api_ErrCert), ("synod/api.ErrNone", Rows.laid_synod_api_ErrNone), ("synod/api.ErrRecord", Rows.laid_synod_api_ErrRecord)] [.data, .handle, .sentinel, .sentinel, .sentinel, .sentinel, .sentinel, .sentinel, .sentinel, .sentinel, .sentinel, .sentinel, .sentinel, .sentinel] true :=
  Program.laidByTextLater_by_one 254 8 33 (by kernel_rfl) (by kernel_rfl) (by kernel_rfl) (by kernel_rfl) (by kernel_rfl) (by kernel_rfl) (fun _ _ => by kernel_rfl)
theorem pin_laid_unicode_utf8_first : Tryz.pinned.checked.prog.pinnedFits "unicode/utf8.first" = true := by kernel_rfl
theorem noOwnUnsafe : Tryz.pinned.checked.prog.headLifts.contains "ownunsafe" = false := by kernel_rfl
theorem fits1 : Tryz.pinned.checked.prog.listedFits [("unicode/utf8.acceptRanges", Rows.laid_unicode_utf8_acceptRanges), ("errors.errorType", Rows.laid_errors_errorType), ("synod/api.ErrArg", Rows.laid_synod_api_ErrArg), ("synod/api.ErrForm", Rows.laid_synod_api_ErrForm), ("synod/api.ErrSeal", Rows.laid_synod_api_ErrSeal), ("synod/api.ErrPast", Rows.laid_synod_api_ErrPast), ("synod/api.ErrFar", Rows.laid_synod_api_ErrFar), ("synod/api.ErrOutsider", Rows.laid_synod_api_ErrOutsider), ("synod/api.ErrKnown", Rows.laid_synod_api_ErrKnown), ("synod/api.ErrMany", Rows.laid_synod_api_ErrMany), ("synod/api.ErrFull", Rows.laid_synod_api_ErrFull), ("synod/api.ErrCert", Rows.laid_synod_api_ErrCert), ("synod/api.ErrNone", Rows.laid_synod_api_ErrNone), ("synod/api.ErrRecord", Rows.laid_synod_api_ErrRecord), ("unicode/utf8.first", Rows.laid_unicode_utf8_first)] = true := by
  unfold Program.listedFits
  rw [noOwnUnsafe]
  kernel_rfl
theorem tie : Tryz.prog.laidByTextLater [("unicode/utf8.acceptRanges", Rows.laid_unicode_utf8_acceptRanges), ("errors.errorType", Rows.laid_errors_errorType), ("synod/api.ErrArg", Rows.laid_synod_api_ErrArg), ("synod/api.ErrForm", Rows.laid_synod_api_ErrForm), ("synod/api.ErrSeal", Rows.laid_synod_api_ErrSeal), ("synod/api.ErrPast", Rows.laid_synod_api_ErrPast), ("synod/api.ErrFar", Rows.laid_synod_api_ErrFar), ("synod/api.ErrOutsider", Rows.laid_synod_api_ErrOutsider), ("synod/api.ErrKnown", Rows.laid_synod_api_ErrKnown), ("synod/api.ErrMany", Rows.laid_synod_api_ErrMany), ("synod/api.ErrFull", Rows.laid_synod_api_ErrFull), ("synod/api.ErrCert", Rows.laid_synod_api_ErrCert), ("synod/api.ErrNone", Rows.laid_synod_api_ErrNone), ("synod/api.ErrRecord", Rows.laid_synod_api_ErrRecord)] [.data, .handle, .sentinel, .sentinel, .sentinel, .sentinel, .sentinel, .sentinel, .sentinel, .sentinel, .sentinel, .sentinel, .sentinel, .sentinel] true :=
  Program.laidByTextLater.sub seatTie1 ["unicode/utf8.acceptRanges", "errors.errorType", "synod/api.ErrArg", "synod/api.ErrForm", "synod/api.ErrSeal", "synod/api.ErrPast", "synod/api.ErrFar", "synod/api.ErrOutsider", "synod/api.ErrKnown", "synod/api.ErrMany", "synod/api.ErrFull", "synod/api.ErrCert", "synod/api.ErrNone", "synod/api.ErrRecord"] (by kernel_rfl) (by kernel_rfl)
theorem nodes_row_tie : Rows.nodesRow.laidByTextAt .later Tryz.pinned [.data, .handle, .sentinel, .sentinel, .sentinel, .sentinel, .sentinel, .sentinel, .sentinel, .sentinel, .sentinel, .sentinel, .sentinel, .sentinel, .pinned] true :=
  OpenClaim.laidByTextAt_pinned rfl rfl tie rfl rfl rfl rfl (fun y hy _e => by
    simp only [Rows.nodesRow, List.zip_cons_cons, List.zip_nil_right, List.mem_cons, List.mem_nil_iff, or_false] at hy
    rcases hy with rfl | rfl | rfl | rfl | rfl | rfl | rfl | rfl | rfl | rfl | rfl | rfl | rfl | rfl | rfl
    · cases _e
    · cases _e
    · cases _e
    · cases _e
    · cases _e
    · cases _e
    · cases _e
    · cases _e
    · cases _e
    · cases _e
    · cases _e
    · cases _e
    · cases _e
    · cases _e
    · exact ⟨pin_laid_unicode_utf8_first, by kernel_rfl⟩) fits1
theorem agreed_row_tie : Rows.agreedRow.laidByTextAt .later Tryz.pinned [.data, .handle, .sentinel, .sentinel, .sentinel, .sentinel, .sentinel, .sentinel, .sentinel, .sentinel, .sentinel, .sentinel, .sentinel, .sentinel, .pinned] true :=
  OpenClaim.laidByTextAt_pinned rfl rfl tie rfl rfl rfl rfl (fun y hy _e => by
    simp only [Rows.agreedRow, List.zip_cons_cons, List.zip_nil_right, List.mem_cons, List.mem_nil_iff, or_false] at hy
    rcases hy with rfl | rfl | rfl | rfl | rfl | rfl | rfl | rfl | rfl | rfl | rfl | rfl | rfl | rfl | rfl
    · cases _e
    · cases _e
    · cases _e
    · cases _e
    · cases _e
    · cases _e
    · cases _e
    · cases _e
    · cases _e
    · cases _e
    · cases _e
    · cases _e
    · cases _e
    · cases _e
    · exact ⟨pin_laid_unicode_utf8_first, by kernel_rfl⟩) fits1
theorem live_row_tie : Rows.liveRow.laidByTextAt .later Tryz.pinned [.data, .handle, .sentinel, .sentinel, .sentinel, .sentinel, .sentinel, .sentinel, .sentinel, .sentinel, .sentinel, .sentinel, .sentinel, .sentinel, .pinned] true :=
  OpenClaim.laidByTextAt_pinned rfl rfl tie rfl rfl rfl rfl (fun y hy _e => by
    simp only [Rows.liveRow, List.zip_cons_cons, List.zip_nil_right, List.mem_cons, List.mem_nil_iff, or_false] at hy
    rcases hy with rfl | rfl | rfl | rfl | rfl | rfl | rfl | rfl | rfl | rfl | rfl | rfl | rfl | rfl | rfl
    · cases _e
    · cases _e
    · cases _e
    · cases _e
    · cases _e
    · cases _e
    · cases _e
    · cases _e
    · cases _e
    · cases _e
    · cases _e
    · cases _e
    · cases _e
    · cases _e
    · exact ⟨pin_laid_unicode_utf8_first, by kernel_rfl⟩) fits1
theorem fits2 : Tryz.pinned.checked.prog.listedFits [("unicode/utf8.acceptRanges", Rows.laid_unicode_utf8_acceptRanges), ("synod/api.ErrArg", Rows.laid_synod_api_ErrArg), ("synod/api.ErrForm", Rows.laid_synod_api_ErrForm), ("synod/api.ErrSeal", Rows.laid_synod_api_ErrSeal), ("synod/api.ErrPast", Rows.laid_synod_api_ErrPast), ("synod/api.ErrFar", Rows.laid_synod_api_ErrFar), ("synod/api.ErrOutsider", Rows.laid_synod_api_ErrOutsider), ("synod/api.ErrKnown", Rows.laid_synod_api_ErrKnown), ("synod/api.ErrMany", Rows.laid_synod_api_ErrMany), ("synod/api.ErrFull", Rows.laid_synod_api_ErrFull), ("synod/api.ErrRecord", Rows.laid_synod_api_ErrRecord), ("unicode/utf8.first", Rows.laid_unicode_utf8_first)] = true := by
  unfold Program.listedFits
  rw [noOwnUnsafe]
  kernel_rfl
theorem tie2 : Tryz.prog.laidByTextLater [("unicode/utf8.acceptRanges", Rows.laid_unicode_utf8_acceptRanges), ("synod/api.ErrArg", Rows.laid_synod_api_ErrArg), ("synod/api.ErrForm", Rows.laid_synod_api_ErrForm), ("synod/api.ErrSeal", Rows.laid_synod_api_ErrSeal), ("synod/api.ErrPast", Rows.laid_synod_api_ErrPast), ("synod/api.ErrFar", Rows.laid_synod_api_ErrFar), ("synod/api.ErrOutsider", Rows.laid_synod_api_ErrOutsider), ("synod/api.ErrKnown", Rows.laid_synod_api_ErrKnown), ("synod/api.ErrMany", Rows.laid_synod_api_ErrMany), ("synod/api.ErrFull", Rows.laid_synod_api_ErrFull), ("synod/api.ErrRecord", Rows.laid_synod_api_ErrRecord)] [.data, .sentinel, .sentinel, .sentinel, .sentinel, .sentinel, .sentinel, .sentinel, .sentinel, .sentinel, .sentinel] true :=
  Program.laidByTextLater.sub seatTie1 ["unicode/utf8.acceptRanges", "synod/api.ErrArg", "synod/api.ErrForm", "synod/api.ErrSeal", "synod/api.ErrPast", "synod/api.ErrFar", "synod/api.ErrOutsider", "synod/api.ErrKnown", "synod/api.ErrMany", "synod/api.ErrFull", "synod/api.ErrRecord"] (by kernel_rfl) (by kernel_rfl)
theorem stray_row_tie : Rows.strayRow.laidByTextAt .later Tryz.pinned [.data, .sentinel, .sentinel, .sentinel, .sentinel, .sentinel, .sentinel, .sentinel, .sentinel, .sentinel, .sentinel, .pinned] true :=
  OpenClaim.laidByTextAt_pinned rfl rfl tie2 rfl rfl rfl rfl (fun y hy _e => by
    simp only [Rows.strayRow, List.zip_cons_cons, List.zip_nil_right, List.mem_cons, List.mem_nil_iff, or_false] at hy
    rcases hy with rfl | rfl | rfl | rfl | rfl | rfl | rfl | rfl | rfl | rfl | rfl | rfl
    · cases _e
    · cases _e
    · cases _e
    · cases _e
    · cases _e
    · cases _e
    · cases _e
    · cases _e
    · cases _e
    · cases _e
    · cases _e
    · exact ⟨pin_laid_unicode_utf8_first, by kernel_rfl⟩) fits2
theorem fits3 : Tryz.pinned.checked.prog.listedFits [("unicode/utf8.acceptRanges", Rows.laid_unicode_utf8_acceptRanges), ("errors.errorType", Rows.laid_errors_errorType), ("synod/api.ErrArg", Rows.laid_synod_api_ErrArg), ("synod/api.ErrForm", Rows.laid_synod_api_ErrForm), ("synod/api.ErrSeal", Rows.laid_synod_api_ErrSeal), ("synod/api.ErrCert", Rows.laid_synod_api_ErrCert), ("synod/api.ErrRecord", Rows.laid_synod_api_ErrRecord), ("unicode/utf8.first", Rows.laid_unicode_utf8_first)] = true := by
  unfold Program.listedFits
  rw [noOwnUnsafe]
  kernel_rfl
theorem tie3 : Tryz.prog.laidByTextLater [("unicode/utf8.acceptRanges", Rows.laid_unicode_utf8_acceptRanges), ("errors.errorType", Rows.laid_errors_errorType), ("synod/api.ErrArg", Rows.laid_synod_api_ErrArg), ("synod/api.ErrForm", Rows.laid_synod_api_ErrForm), ("synod/api.ErrSeal", Rows.laid_synod_api_ErrSeal), ("synod/api.ErrCert", Rows.laid_synod_api_ErrCert), ("synod/api.ErrRecord", Rows.laid_synod_api_ErrRecord)] [.data, .handle, .sentinel, .sentinel, .sentinel, .sentinel, .sentinel] true :=
  Program.laidByTextLater.sub seatTie1 ["unicode/utf8.acceptRanges", "errors.errorType", "synod/api.ErrArg", "synod/api.ErrForm", "synod/api.ErrSeal", "synod/api.ErrCert", "synod/api.ErrRecord"] (by kernel_rfl) (by kernel_rfl)
theorem blamed_row_tie : Rows.blamedRow.laidByTextAt .later Tryz.pinned [.data, .handle, .sentinel, .sentinel, .sentinel, .sentinel, .sentinel, .pinned] true :=
  OpenClaim.laidByTextAt_pinned rfl rfl tie3 rfl rfl rfl rfl (fun y hy _e => by
    simp only [Rows.blamedRow, List.zip_cons_cons, List.zip_nil_right, List.mem_cons, List.mem_nil_iff, or_false] at hy
    rcases hy with rfl | rfl | rfl | rfl | rfl | rfl | rfl | rfl
    · cases _e
    · cases _e
    · cases _e
    · cases _e
    · cases _e
    · cases _e
    · cases _e
    · exact ⟨pin_laid_unicode_utf8_first, by kernel_rfl⟩) fits3
theorem nodesUpto_row_tie : Rows.nodesUptoRow.laidByTextAt .later Tryz.pinned [.data, .handle, .sentinel, .sentinel, .sentinel, .sentinel, .sentinel, .sentinel, .sentinel, .sentinel, .sentinel, .sentinel, .sentinel, .sentinel, .pinned] true :=
  OpenClaim.laidByTextAt_pinned rfl rfl tie rfl rfl rfl rfl (fun y hy _e => by
    simp only [Rows.nodesUptoRow, List.zip_cons_cons, List.zip_nil_right, List.mem_cons, List.mem_nil_iff, or_false] at hy
    rcases hy with rfl | rfl | rfl | rfl | rfl | rfl | rfl | rfl | rfl | rfl | rfl | rfl | rfl | rfl | rfl
    · cases _e
    · cases _e
    · cases _e
    · cases _e
    · cases _e
    · cases _e
    · cases _e
    · cases _e
    · cases _e
    · cases _e
    · cases _e
    · cases _e
    · cases _e
    · cases _e
    · exact ⟨pin_laid_unicode_utf8_first, by kernel_rfl⟩) fits1
theorem strayUpto_row_tie : Rows.strayUptoRow.laidByTextAt .later Tryz.pinned [.data, .sentinel, .sentinel, .sentinel, .sentinel, .sentinel, .sentinel, .sentinel, .sentinel, .sentinel, .sentinel, .pinned] true :=
  OpenClaim.laidByTextAt_pinned rfl rfl tie2 rfl rfl rfl rfl (fun y hy _e => by
    simp only [Rows.strayUptoRow, List.zip_cons_cons, List.zip_nil_right, List.mem_cons, List.mem_nil_iff, or_false] at hy
    rcases hy with rfl | rfl | rfl | rfl | rfl | rfl | rfl | rfl | rfl | rfl | rfl | rfl
    · cases _e
    · cases _e
    · cases _e
    · cases _e
    · cases _e
    · cases _e
    · cases _e
    · cases _e
    · cases _e
    · cases _e
    · cases _e
    · exact ⟨pin_laid_unicode_utf8_first, by kernel_rfl⟩) fits2
theorem agreedUpto_row_tie : Rows.agreedUptoRow.laidByTextAt .later Tryz.pinned [.data, .handle, .sentinel, .sentinel, .sentinel, .sentinel, .sentinel, .sentinel, .sentinel, .sentinel, .sentinel, .sentinel, .sentinel, .sentinel, .pinned] true :=
  OpenClaim.laidByTextAt_pinned rfl rfl tie rfl rfl rfl rfl (fun y hy _e => by
    simp only [Rows.agreedUptoRow, List.zip_cons_cons, List.zip_nil_right, List.mem_cons, List.mem_nil_iff, or_false] at hy
    rcases hy with rfl | rfl | rfl | rfl | rfl | rfl | rfl | rfl | rfl | rfl | rfl | rfl | rfl | rfl | rfl
    · cases _e
    · cases _e
    · cases _e
    · cases _e
    · cases _e
    · cases _e
    · cases _e
    · cases _e
    · cases _e
    · cases _e
    · cases _e
    · cases _e
    · cases _e
    · cases _e
    · exact ⟨pin_laid_unicode_utf8_first, by kernel_rfl⟩) fits1
theorem liveUpto_row_tie : Rows.liveUptoRow.laidByTextAt .later Tryz.pinned [.data, .handle, .sentinel, .sentinel, .sentinel, .sentinel, .sentinel, .sentinel, .sentinel, .sentinel, .sentinel, .sentinel, .sentinel, .sentinel, .pinned] true :=
  OpenClaim.laidByTextAt_pinned rfl rfl tie rfl rfl rfl rfl (fun y hy _e => by
    simp only [Rows.liveUptoRow, List.zip_cons_cons, List.zip_nil_right, List.mem_cons, List.mem_nil_iff, or_false] at hy
    rcases hy with rfl | rfl | rfl | rfl | rfl | rfl | rfl | rfl | rfl | rfl | rfl | rfl | rfl | rfl | rfl
    · cases _e
    · cases _e
    · cases _e
    · cases _e
    · cases _e
    · cases _e
    · cases _e
    · cases _e
    · cases _e
    · cases _e
    · cases _e
    · cases _e
    · cases _e
    · cases _e
    · exact ⟨pin_laid_unicode_utf8_first, by kernel_rfl⟩) fits1
theorem blamedUpto_row_tie : Rows.blamedUptoRow.laidByTextAt .later Tryz.pinned [.data, .handle, .sentinel, .sentinel, .sentinel, .sentinel, .sentinel, .pinned] true :=
  OpenClaim.laidByTextAt_pinned rfl rfl tie3 rfl rfl rfl rfl (fun y hy _e => by
    simp only [Rows.blamedUptoRow, List.zip_cons_cons, List.zip_nil_right, List.mem_cons, List.mem_nil_iff, or_false] at hy
    rcases hy with rfl | rfl | rfl | rfl | rfl | rfl | rfl | rfl
    · cases _e
    · cases _e
    · cases _e
    · cases _e
    · cases _e
    · cases _e
    · cases _e
    · exact ⟨pin_laid_unicode_utf8_first, by kernel_rfl⟩) fits3
end Go.Proofs.YtcfjhbcpjpgodaaGreatDoor
