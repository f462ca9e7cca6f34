/- Proved here: what is read out of a message's frame is the message. -/
import Derived.Test.YtcfjhbcpjpgodaaGreatDoorJ2
import Derived.Test.YtcfjhbcpjpgodaaGreatDoorJ1
import Derived.Test.YtcfjhbcpjpgodaaGreatDoorJ18
namespace Go.Proofs.YtcfjhbcpjpgodaaGreatDoor
open Go.RowKit

theorem byt_front (l : List Int) (s : ByteArray) (i : Nat) (x : Int) (hi : l[i]? = some x) (h0 : 0 ≤ x) (h1 : x ≤ 255) : byt (strOfNums l ++ s) i = x := by
  have hl : i < l.length := (List.getElem?_eq_some_iff.1 hi).1
  unfold byt strOfNums
  rw [ByteArray.data_append, Array.toList_append, List.getD_eq_getElem?_getD, List.getElem?_append_left (by simpa using hl)]
  simp only [List.getElem?_map, hi, Option.map_some, Option.getD_some, UInt8.toNat_ofNat']
  omega

theorem extract_back (l : List Int) (s : ByteArray) : (strOfNums l ++ s).extract l.length (strOfNums l ++ s).size = s := by
  apply ByteArray.ext
  apply Array.ext'
  rw [Lib.extract_data]
  have hz : (strOfNums l ++ s).size = l.length + s.size := by rw [ByteArray.size_append, strOfNums_size]
  rw [hz]
  have hd : (strOfNums l ++ s).data.toList = (strOfNums l).data.toList ++ s.data.toList := by rw [ByteArray.data_append, Array.toList_append]
  rw [hd]
  have hll : (strOfNums l).data.toList.length = l.length := by unfold strOfNums; simp
  rw [List.drop_append_of_le_length (by omega)]
  have h0 : (strOfNums l).data.toList.drop l.length = [] := List.drop_of_length_le (by omega)
  rw [h0, List.nil_append]
  exact List.take_of_length_le (by simp)

theorem dec_enc {K H R F V : Int} {nl : Bool} {s : ByteArray} (h : hasB K H R F V nl s.size = true) : decOk (encS K H R F V nl s) = true ∧ decV (encS K H R F V nl s) = ⟨K, H, R, F, V, nl, s⟩ := by
  rw [encS_yes h]
  have h' := of_decide_eq_true h
  obtain ⟨h1, h2, h3, h4, h5, h6, h7, h8⟩ := h'
  obtain ⟨M, hM⟩ : ∃ M, M = markOf K V nl := ⟨_, rfl⟩
  have hv : vOf K M = V := by
    rw [hM]
    unfold vOf markOf
    rcases h8 with ⟨rfl, rfl, _, _⟩ | ⟨hk, rfl, hn⟩
    · simp
    · have : ¬ K = 1 := by omega
      simp [this]
  have hn : nlOf K M = nl := by
    rw [hM]
    unfold nlOf markOf
    rcases h8 with ⟨rfl, rfl, _, _⟩ | ⟨hk, rfl, hn⟩
    · simp
    · have : ¬ K = 1 := by omega
      cases nl <;> simp [this]
  have hMb : 0 ≤ M ∧ M ≤ 255 := by
    rw [hM]
    unfold markOf
    rcases h8 with ⟨rfl, rfl, _, _⟩ | ⟨hk, rfl, hn⟩
    · simp; omega
    · have : ¬ K = 1 := by omega
      cases nl <;> simp [this]
  have hK : 0 ≤ K ∧ K ≤ 255 := by omega
  rw [← hM]
  have b0 : byt (frameOf K H R F M s) 0 = K := byt_front [K, H, R, F, M, s.size] s 0 K rfl hK.1 hK.2
  have b1 : byt (frameOf K H R F M s) 1 = H := byt_front [K, H, R, F, M, s.size] s 1 H rfl h1 (by omega)
  have b2 : byt (frameOf K H R F M s) 2 = R := byt_front [K, H, R, F, M, s.size] s 2 R rfl h3 h4
  have b3 : byt (frameOf K H R F M s) 3 = F := byt_front [K, H, R, F, M, s.size] s 3 F rfl h5 (by omega)
  have b4 : byt (frameOf K H R F M s) 4 = M := byt_front [K, H, R, F, M, s.size] s 4 M rfl hMb.1 hMb.2
  have b5 : byt (frameOf K H R F M s) 5 = s.size := byt_front [K, H, R, F, M, s.size] s 5 s.size rfl (by omega) (by omega)
  have ex : (frameOf K H R F M s).extract 6 (frameOf K H R F M s).size = s := extract_back [K, H, R, F, M, s.size] s
  have hz : 6 ≤ (frameOf K H R F M s).size := by unfold frameOf; rw [ByteArray.size_append, size6]; omega
  have hok : decOk (frameOf K H R F M s) = true := by
    unfold decOk decB
    rw [b0, b1, b2, b3, b4, b5, ex, hv, hn, h, decide_eq_true hz, ← hM]
    simp
  refine ⟨hok, ?_⟩
  unfold decV
  rw [if_pos hok, b0, b1, b2, b3, b4, ex, hv, hn]

end Go.Proofs.YtcfjhbcpjpgodaaGreatDoor
