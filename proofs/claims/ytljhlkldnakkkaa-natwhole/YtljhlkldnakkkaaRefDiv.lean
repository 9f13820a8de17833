/- The document's quotient of two texts, and what is left. -/
import Derived.Test.YtljhlkldnakkkaaParse
namespace Go.Proofs.Ytljhlkldnakkkaa
set_option linter.unusedVariables false
set_option linter.unusedSimpArgs false
open Go.RowKit

theorem extract_one {s : ByteArray} (hd : Dec s) {i : Nat} (h : i < s.size) : s.extract i (i + 1) = sg ((s[i].toNat : Int) - 48) := by
  have hb := hd.byte h
  apply ByteArray.ext
  apply Array.toList_inj.1
  rw [Lib.extract_data]
  have e1 : UInt8.ofNat (48 + ((s[i].toNat : Int) - 48).toNat) = s[i] := by
    apply UInt8.toNat_inj.1
    rw [UInt8.toNat_ofNat']; omega
  have e2 : (sg ((s[i].toNat : Int) - 48)).data.toList = [s[i]] := by
    show [UInt8.ofNat (48 + ((s[i].toNat : Int) - 48).toNat)] = _
    rw [e1]
  rw [e2, show i + 1 - i = 1 by omega, List.drop_eq_getElem_cons (by rw [size_eq]; exact h), List.take_succ_cons, List.take_zero]
  rfl

set_option maxHeartbeats 4000000 in
theorem rdivmod_any (a b : ByteArray) (w : World) (ha : Dec a) (hb : Dec b) (cb : Can b) (hsa : a.size ≤ 1000000) (hsb : b.size ≤ 1000000) (hY : 0 < num b) :
    Calls Try.prog 28 #[.string a, .string b] w fun r w' => ∃ p s, r = .returned (.tuple #[.string p, .string s]) ∧ Dec p ∧ Can p ∧ num p = num a / num b ∧ Dec s ∧ Can s ∧ num s = num a % num b ∧ w' = w := by
  have HY := hide hY
  have HYB := hide (num_lt hb)
  clear hY
  go_enter Try.func28, Try.ntmps28
  go_wp2
  go_loopw [6, 7, 8] (fun o x i wr => ∃ (k : Nat) (t u : ByteArray), k ≤ a.size ∧ i = .int .i64 k ∧ o = .string t ∧ x = .string u ∧ Dec t ∧ t.size = k ∧ Dec u ∧ Can u ∧ pre a k = num t * num b + num u ∧ num u < num b ∧ wr = w) (fun _ _ i _ => a.size - (intOf i).toNat)
  case atStart => exact ⟨0, _, _, Nat.zero_le _, rfl, rfl, rfl, Dec.empty, rfl, dec0, can0, by rw [num0, num_empty]; simp [pre], by rw [num0]; exact unhide HY, rfl⟩
  case round =>
    obtain ⟨k, t, u, hk, rfl, rfl, rfl, hdt, hts, hdu, hcu, hval, hlt0, rfl⟩ := hrel
    have HL := hide hval
    have HLT := hide hlt0
    have HTS := hide hts
    have hus : u.size ≤ 1000000 := by have := can_len hdu hcu (k := b.size) (by have := unhide HYB; omega) cb.1; omega
    have htz : t.size ≤ 1000000 := by omega
    clear hval hlt0 hts
    by_cases hlt : k < a.size
    · have hbt := ha.byte hlt
      have hex := hide (extract_one ha hlt)
      have hpr := hide (pre_succ hlt)
      have hi1 : (k : Int) < (a.size : Int) := by omega
      have hi2 : (k : Int) + 1 ≤ (a.size : Int) := by omega
      have hxs : (a.extract k (k + 1)).size = 1 := by rw [unhide hex]; rfl
      have hdx : Dec (u ++ a.extract k (k + 1)) := hdu.append (dec_extract ha _ _)
      have hnx : Hid (num (u ++ a.extract k (k + 1)) = 10 * num u + ((a[k].toNat : Int) - 48)) := by
        show _ = _
        rw [unhide hex]; exact num_snoc (by omega) (by omega)
      go_wp2_with fail
      refine (cut_any _ _ hdx (by rw [size_append]; omega)).mono ?_
      rintro r w1 ⟨v, rfl, hdv, hcv, hnv, _, rfl⟩
      have HNV := hide hnv
      clear hnv hdx
      go_wp2
      go_loopg [7, 9] (num v).toNat (fun gk x i wr => ∃ (j : Nat) (z : ByteArray), j ≤ 9 ∧ i = .int .i64 j ∧ x = .string z ∧ Dec z ∧ Can z ∧ num z + j * num b = num v ∧ gk = (num z).toNat ∧ wr = w1)
      case atStart => exact ⟨0, v, by omega, rfl, rfl, hdv, hcv, by simp, rfl, rfl⟩
      case round =>
        obtain ⟨j, z, hj, rfl, rfl, hdz, hcz, hvz, hgk, rfl⟩ := hrel
        have HZ := hide hvz
        have HG := hide hgk
        have hzv : Hid (num v < 10 * num b) := by
          show _ < _
          rw [unhide HNV, hnx.out]
          have := unhide HLT
          omega
        have hjb : Hid (0 ≤ (j : Int) * num b) := Int.mul_nonneg (by omega) (by have := unhide HY; omega)
        have hzs : z.size ≤ 1000001 := by
          have h1 : num z < Ten.pw (b.size + 1) := by
            have q1 := unhide HZ
            have q2 := hzv.out
            have q3 := unhide HYB
            have q4 := hjb.out
            rw [Ten.pw_succ]; omega
          have := can_len hdz hcz h1 (by omega)
          omega
        clear hvz hgk
        by_cases hc : num z < num b
        · have hl : decide (num z < num b) = true := by simpa using hc
          have HLc := hide hl
          have HC := hide hc
          clear hl hc
          go_wp2_with fail
          refine (rless_any z b _ hdz hb hcz cb (by omega) (by omega)).mono ?_
          rintro r w2 ⟨rfl, rfl⟩
          rw [unhide HLc]
          go_wp2_with fail
          refine (sign_any j _ (by omega) (by omega)).mono ?_
          rintro r w3 ⟨rfl, rfl⟩
          have hfin : Hid (pre a (k + 1) = num (t ++ sg j) * num b + num z) := by
            show _ = _
            have q1 := unhide HZ
            have q2 := unhide HNV
            have q3 := hnx.out
            rw [unhide hpr, unhide HL, num_snoc (by omega) (by omega), Int.add_mul, Int.mul_add, Int.mul_assoc]
            omega
          have hsg := size_sg
          go_wp2
          go_roundw
          case rel => exact ⟨k + 1, _, z, by omega, by go_num, rfl, rfl, hdt.append (Dec.sg (by omega) (by omega)), by rw [size_append, size_sg, unhide HTS], hdz, hcz, hfin.out, unhide HC, by first | rfl | trivial⟩
          case measure => simp [intOf]; omega
        · have hl : decide (num z < num b) = false := by simpa using hc
          have HLc := hide hl
          have HC : Hid (num b ≤ num z) := by show _ ≤ _; omega
          have hj8 : j ≤ 8 := by
            rcases Nat.lt_or_ge 8 j with q | q
            · exfalso
              obtain rfl : j = 9 := by omega
              have q1 := unhide HZ
              have q2 := hzv.out
              have q3 := unhide HC
              omega
            · exact q
          clear hl hc
          go_wp2_with fail
          refine (rless_any z b _ hdz hb hcz cb (by omega) (by omega)).mono ?_
          rintro r w2 ⟨rfl, rfl⟩
          rw [unhide HLc]
          go_wp2_with fail
          refine (rsub_any z b _ hdz hb (by omega) ?hsz (unhide HC)).mono ?_
          case hsz =>
            rcases Nat.lt_or_ge z.size b.size with q | q
            · have q1 := can_shorter hdz hb hcz cb q
              have q2 := unhide HC
              omega
            · exact q
          rintro r w3 ⟨y, rfl, hdy, hcy, hny, rfl⟩
          have HNY := hide hny
          clear hny
          go_wp2
          go_roundg (num y).toNat
          case measure =>
            have q1 := unhide HG
            have q2 := unhide HNY
            have q3 := unhide HY
            have q4 := unhide HC
            omega
          case rel =>
            refine ⟨j + 1, y, by omega, by go_num, rfl, hdy, hcy, ?_, rfl, by first | rfl | trivial⟩
            have q1 := unhide HZ
            rw [unhide HNY, ← q1, Int.natCast_add, Int.add_mul]
            omega
    · obtain rfl : k = a.size := by omega
      have hfin : Hid (num t = num a / num b ∧ num u = num a % num b) := by
        have q1 := unhide HL
        rw [pre_num a ha] at q1
        have q2 := (Int.ediv_emod_unique (a := num a) (r := num u) (q := num t) (unhide HY)).2 ⟨by rw [q1, Int.mul_comm]; omega, num_nonneg hdu, unhide HLT⟩
        exact ⟨q2.1.symm, q2.2.symm⟩
      go_wp2_with fail
      refine (cut_any t _ hdt (by omega)).mono ?_
      rintro r w1 ⟨p, rfl, hdp, hcp, hnp, _, rfl⟩
      have HNP := hide hnp
      clear hnp
      go_wp2
      go_ret2
      exact ⟨p, u, rfl, hdp, hcp, by rw [unhide HNP]; exact hfin.out.1, hdu, hcu, hfin.out.2, rfl⟩

end Go.Proofs.Ytljhlkldnakkkaa
