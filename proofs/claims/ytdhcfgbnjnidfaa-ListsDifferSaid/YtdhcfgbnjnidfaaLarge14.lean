/- Layer 14: the statements' sorted lists. -/
import Derived.Test.YtdhcfgbnjnidfaaRef14E
import Derived.Test.YtdhcfgbnjnidfaaArAt
set_option linter.unusedVariables false
set_option maxRecDepth 20000
namespace Go.Proofs.Ytdhcfgbnjnidfaa
open Go Go.RowKit

theorem elemLL14 : Elem Try.prog 25 22 1 24 := Elem.mk' (z := .slice none 0 0) Try.underlying25 (by kernel_rfl) rfl (by decide)
theorem flat_take {m : List (List Int)} {i : Nat} {l : List Int} (h : m[i]? = some l) : (m.take (i + 1)).flatten.length = (m.take i).flatten.length + l.length := by
  rw [List.take_add_one, h, Option.toList_some, List.flatten_append, List.length_append]; simp
theorem map_take {m : List (List Int)} {i : Nat} {l : List Int} (h : m[i]? = some l) (f : List Int → List Int) : (m.take (i + 1)).map f = (m.take i).map f ++ [f l] := by
  rw [List.take_add_one, h, Option.toList_some, List.map_append]; rfl
theorem flat_mem_len {m : List (List Int)} {l : List Int} (h : l ∈ m) : l.length ≤ m.flatten.length := by
  induction m with
  | nil => cases h
  | cons a m ih =>
    rw [List.flatten_cons, List.length_append]
    rcases List.mem_cons.1 h with e | e
    · subst e; omega
    · have := ih e; omega

theorem flat_take_le (m : List (List Int)) (i : Nat) : (m.take i).flatten.length ≤ m.flatten.length := by
  have : m.flatten.length = (m.take i).flatten.length + (m.drop i).flatten.length := by rw [← List.length_append, ← List.flatten_append, List.take_append_drop]
  omega

set_option maxHeartbeats 4000000 in
theorem sorted14s (mv : Value) (m : List (List Int)) (w : World) (hm : RdLL w mv m) :
    Calls Try.prog 12 #[mv] w fun e w' => ((300 < m.flatten.length + m.length ∧ e = .returned (.tuple #[.slice none 0 0, .int .i64 0])) ∨ (m.flatten.length + m.length ≤ 300 ∧ ∃ v, e = .returned (.tuple #[v, .int .i64 1]) ∧ RdLL w' v (m.map sortZ))) ∧ Below w.heap.size w w' := by
  have H := Lib.hid hm
  have hmx := hm.le
  obtain ⟨p, c, hv⟩ := hm.shape
  subst hv
  clear hm
  have hmx' : (m.length : Int) ≤ 9223372036854775807 := by unfold maxLen at hmx; omega
  clear hmx
  obtain ⟨T, hT⟩ : ∃ T, m.flatten.length + m.length = T := ⟨_, rfl⟩
  rw [hT]
  have HT := Lib.hid hT
  clear hT
  go_enter Try.func12, Try.ntmps12
  go_wp2_with fail
  go_loopw [4, 5, 10] (fun nv vv iv wr => ∃ (j N : Nat), j ≤ m.length ∧ N ≤ 300 ∧ nv = .int .i64 (N : Int) ∧ iv = .int .i64 (j : Int) ∧ Hid ((m.take j).flatten.length + j = N) ∧ Hid (∃ hs, ArAt 22 w wr hs ((m.take j).map sortZ) vv)) (fun _ _ iv _ => m.length - (intOf iv).toNat)
  case atStart => exact ⟨0, 0, Nat.zero_le _, Nat.zero_le _, rfl, rfl, rfl, ⟨[], ArAt.nil w⟩⟩
  case round =>
    obtain ⟨j, N, hj, hN, rfl, rfl, HF, HO⟩ := hrel
    have hNi : (N : Int) ≤ 300 := by omega
    obtain ⟨hs, hO⟩ := HO.out
    have HA := Lib.hid hO
    have HLh : Hid (hs.length ≤ 300) := by
      show _ ≤ _
      rw [hO.len, List.length_map, List.length_take]; have := HF.out; omega
    clear HO hO
    obtain ⟨pv, cv, hvv⟩ := HA.out.row.shape
    subst hvv
    obtain ⟨n1, hn1⟩ : ∃ n1, hs.length = n1 := ⟨_, rfl⟩
    have HN1 : Hid (hs.length = n1) := hn1
    rw [hn1] at HA HLh ⊢
    clear hn1
    by_cases hlt : j < m.length
    · have hlt' : (j : Int) < (m.length : Int) := by omega
      obtain ⟨l, hl⟩ : ∃ l, m[j]? = some l := ⟨_, List.getElem?_eq_getElem hlt⟩
      obtain ⟨blk, off, p1, c1, e, hal⟩ := H.out.always hl
      subst e
      obtain ⟨c0, hR⟩ := hal wr HA.out.row.bel
      have hlm : (l.length : Int) ≤ 9223372036854775807 := by have := hR.le; unfold maxLen at this; omega
      have HFt := Lib.hid (flat_take hl)
      have HMt := Lib.hid (map_take hl sortZ)
      have HS : Hid (l.length ≤ 100000 → Calls Try.prog 24 #[.slice p1 l.length c1] wr fun e w' => ∃ v, e = .returned v ∧ OwnI wr w' (sortZ l) v) := fun hn => ref_sort14 _ l wr hR hn
      clear hl hal hR
      by_cases hz : (l.length : Int) ≤ 300
      · by_cases hS : N + (1 + l.length) ≤ 300
        · have hS' : ¬ (300 : Int) < (N : Int) + (1 + (l.length : Int)) := by omega
          have hSm : (N : Int) + (1 + (l.length : Int)) ≤ 300 := by omega
          have HH : Hid (N + (1 + l.length) ≤ 300) := hS
          have HCs : Hid (((N + (1 + l.length) : Nat) : Int) = (N : Int) + (1 + (l.length : Int))) := by show _ = _; omega
          have HS2 := Lib.hid (HS.out (by omega))
          clear hS HS
          go_wp2_with fail
          refine HS2.out.mono ?_
          rintro e w1 ⟨v1, rfl, hO1⟩
          have HA1 := Lib.hid (HA.out.below hO1.bel)
          have HR1 := Lib.hid hO1.rd
          have HOff : Hid (IntOff (fun k => (Value.slice pv n1 cv).ownBlock = some k) v1 (sortZ l)) := fun _ k hk hv => by
            have h1 := (hO1.row.lt k hk).1
            have h2 := (HA.out.row.row.lt k hv).2
            omega
          obtain ⟨p2, c2, hv1⟩ := hO1.shape
          subst hv1
          clear hO1 HS2 c0 HA
          have HOv : Hid (w1.ownsRow 0 22 1 (.slice pv n1 cv) n1 hs) := by
            have h := HA1.out.row.base0
            rw [HN1.out, List.map_id'] at h
            exact h
          have HLb : Hid ((n1 + 1) * 24 ≤ 140737488355328 ∧ n1 + 1 ≤ maxLen) := by show _ ∧ _; have := HLh.out; unfold maxLen; omega
          go_wp2_with (at_builtin; refine wpList_push elemLL14 _ #[.slice p2 (sortZ l).length c2] _ _ _ HOv.out rfl (by simp [Value.oneCell']) HLb.out rfl _ _ rfl rfl rfl ?_)
          intro v3 w3 k1 m1 f1
          have HO3 : Hid (ArAt 22 w w3 (hs ++ [.slice p2 (sortZ l).length c2]) ((m.take (j + 1)).map sortZ) v3) := by
            show ArAt _ _ _ _ _ _
            rw [HMt.out]
            exact HA1.out.pushed HR1.out HOff.out (by rw [HN1.out]; exact k1) m1 f1
          clear k1 m1 f1 HA1 HOv HR1 HOff
          go_wp2_with fail
          go_round
          case rel => exact ⟨j + 1, N + (1 + l.length), by omega, HH.out, by rw [HCs.out], by go_num, by show _ = _; rw [HFt.out]; have := HF.out; omega, ⟨_, HO3.out⟩⟩
          case measure => simp [intOf]; omega
        · have hS' : (300 : Int) < (N : Int) + (1 + (l.length : Int)) := by omega
          have HB := Lib.hid HA.out.row.bel
          have HBig : Hid (300 < T) := by show _ < _; have h1 := HFt.out; have h2 := flat_take_le m (j + 1); have h3 := HF.out; have h4 := HT.out; omega
          clear hS HS
          go_wp2_with fail
          go_ret2
          exact ⟨Or.inl ⟨HBig.out, rfl⟩, HB.out⟩
      · have hz' : (300 : Int) ≤ (l.length : Int) := by omega
        have hS' : (300 : Int) < (N : Int) + 301 := by omega
        have HB := Lib.hid HA.out.row.bel
        have HBig : Hid (300 < T) := by show _ < _; have h1 := HFt.out; have h2 := flat_take_le m (j + 1); have h3 := HF.out; have h4 := HT.out; omega
        clear HS
        go_wp2_with fail
        go_ret2
        exact ⟨Or.inl ⟨HBig.out, rfl⟩, HB.out⟩
    · have hlt' : ¬ (j : Int) < (m.length : Int) := by omega
      have HD : Hid (T ≤ 300) := by
        have f := HF.out
        rw [List.take_of_length_le (by omega)] at f
        have := HT.out
        show _ ≤ _
        omega
      have HE : Hid (m.take j = m) := List.take_of_length_le (by omega)
      rw [HE.out] at HA
      go_wp2_with fail
      go_ret2
      exact ⟨Or.inr ⟨HD.out, _, rfl, HA.out.rd⟩, HA.out.row.bel⟩
theorem sorted14 (mv : Value) (m : List (List Int)) (w : World) (hm : RdLL w mv m) :
    Calls Try.prog 12 #[mv] w fun e w' => (e = .returned (.tuple #[.slice none 0 0, .int .i64 0]) ∨ (m.flatten.length + m.length ≤ 300 ∧ ∃ v, e = .returned (.tuple #[v, .int .i64 1]) ∧ RdLL w' v (m.map sortZ))) ∧ Below w.heap.size w w' :=
  (sorted14s mv m w hm).mono fun _ _ ⟨h, hb⟩ => ⟨h.imp (fun h => h.2) id, hb⟩
end Go.Proofs.Ytdhcfgbnjnidfaa
