/- Layer 7: the program's Get. -/
import Derived.Test.YtnjdjmfjkjpelaaRnI
set_option linter.unusedVariables false
set_option maxRecDepth 20000
namespace Go.Proofs.Ytnjdjmfjkjpelaa
open Go Go.RowKit

theorem runval_get_nil (n : Int) (w : World) : Calls Try.prog 25 #[.pointer none, .int .i64 n] w fun e w' => (∃ r, e = .returned (.tuple #[r, .int .i64 1])) ∧ Below w.heap.size w w' := by
  go_enter Try.func25, Try.ntmps25
  go_wp2_with fail
  go_ret2
  exact ⟨⟨_, rfl⟩, Below.refl _ _⟩
theorem runval_get_neg (p : Nat) (v : Value) (i : Nat) (n : Int) (bs : List Nat) (w : World) (h : ReaderIn w p v i bs) (hn : n < 0) (hm : -9223372036854775808 ≤ n) :
    Calls Try.prog 25 #[.pointer (some ⟨p, 0, none⟩), .int .i64 n] w fun e w' => (∃ r, e = .returned (.tuple #[r, .int .i64 2]) ∧ Rd w' 1 r 0 []) ∧ RBitsPost p v i bs w w' := by
  have H := Lib.hid h
  clear h
  go_enter Try.func25, Try.ntmps25
  go_wp2_with fail
  go_ret2
  exact ⟨⟨_, rfl, Rd.nil _ _⟩, H.out, Mods.refl _ _⟩

theorem RP.qr {p : Nat} {v : Value} {bs : List Nat} {o : Res (List Nat)} {w w' : World} {e : Ending} (h : RP p v bs o.r w w') (hr : ∃ r, e = .returned (.tuple #[r, .int .i64 (o.e : Int)]) ∧ Rd w' 1 r o.x.length (u64s o.x) ∧ (∀ k, r.ownBlock = some k → w.heap.size ≤ k)) : GetQR p v bs w o e w' :=
  ⟨hr, h.1.1, h.2⟩

set_option maxHeartbeats 2000000 in
theorem runval_get (p : Nat) (v : Value) (n : Nat) (bs : List Nat) (bits : List Bool) (w : World) (h : RIs p v bs bits w) (hn : n ≤ 1000000) :
    Calls Try.prog 25 #[.pointer (some ⟨p, 0, none⟩), .int .i64 (n : Int)] w (GetQR p v bs w (decR n bits)) := by
  have HG := Lib.hid (getRuns_any p v n bs bits w h hn)
  have HN := Lib.hid (decR_nil n bits)
  have HX : Hid ((decR n bits).e = 0 → (decR n bits).x.length = n) := fun h => (decR_inv n bits h).2.1
  have hnn : ¬ (n : Int) < 0 := by omega
  have HNn := Lib.hid hn
  clear h hn
  obtain ⟨o, ho⟩ : ∃ o, decR n bits = o := ⟨_, rfl⟩
  rw [ho] at HG HN HX ⊢
  clear ho
  by_cases he : o.e = 0
  · go_enter Try.func25, Try.ntmps25
    go_wp2_with fail
    refine HG.out.mono ?_
    rintro e w2 ⟨⟨r, rs, rfl, hR, hO⟩, hP⟩
    rw [he]
    obtain ⟨h1, h2, h3⟩ := hO he
    obtain ⟨pr, cr, hv⟩ := hR.shape
    subst hv
    have hlen : rs.length ≤ 1000000 := by rw [h1, HX.out he] at h3; have := HNn.out; omega
    rw [rnCells_eq] at hR
    have HJ := Lib.hid (runval_join (.slice pr rs.length cr) (runsI rs) w2 (by rw [runsI_length]; exact hR) (fun r hr => by
      obtain ⟨s, hs, rfl⟩ := List.mem_map.1 hr
      have := h2 s hs
      unfold runOk at this
      refine ⟨this.2.2, ?_, ?_⟩
      · show _ ≤ ((s.2 : Nat) : Int); omega
      · show ((s.2 : Nat) : Int) < _; omega) (by rw [runsI_length]; exact hlen))
    have HE : Hid (joinI (runsI rs) = o.x) := by show _ = _; rw [joinI_runs h2, h1]
    have HP := Lib.hid hP
    have HE0 : Hid (o.e = 0) := he
    clear hR hO hP h1 h2 h3 hlen he HG
    go_wp2_with fail
    refine HJ.out.mono ?_
    rintro e w3 ⟨r3, rfl, hR3, hF3, hB3⟩
    obtain ⟨p3, c3, hv⟩ := hR3.shape
    subst hv
    rw [HE.out] at hR3
    have HR3 : Hid (Rd w3 1 (.slice p3 (joinI (runsI rs)).length c3) o.x.length (u64s o.x) ∧ (∀ k, (Value.slice p3 (joinI (runsI rs)).length c3).ownBlock = some k → w.heap.size ≤ k)) := ⟨by rw [HE.out]; exact hR3, fun k hk => by have := hF3 k hk; have := HP.out.2.size; omega⟩
    have HP3 := Lib.hid (HP.out.below hB3)
    clear hR3 hF3 hB3 HJ
    generalize (joinI (runsI rs)).length = J at *
    go_wp2_with fail
    go_ret2
    exact HP3.out.qr ⟨_, by rw [HE0.out]; rfl, HR3.out⟩
  · have he' : ¬ (o.e : Int) = 0 := by omega
    have hneb : ((o.e : Int) == 0) = false := by rw [beq_eq_false_iff_ne]; exact he'
    have HXn : Hid (o.x = []) := HN.out he
    have HE0 := Lib.hid he
    clear he
    go_enter Try.func25, Try.ntmps25
    go_wp2_with fail
    refine HG.out.mono ?_
    rintro e w2 ⟨⟨r, rs, rfl, hR, hO⟩, hP⟩
    obtain ⟨pr, cr, hv⟩ := hR.shape
    subst hv
    have HP := Lib.hid hP
    clear hR hO hP HG
    go_wp2_with fail
    go_ret2
    exact HP.out.qr ⟨_, rfl, by rw [HXn.out]; exact Rd.nil _ _, fun k e => by cases e⟩
end Go.Proofs.Ytnjdjmfjkjpelaa
