/-
  PLAIN: layer 9's DiskCuts.
-/
import Derived.Test.YtdiegglnfbmpdaaPlDskK
namespace Go.Proofs.Ytdiegglnfbmpdaa
namespace Dsk

theorem cut_read {d : Dk} {f : Int} (hf : f = 0 ∨ f = 1) (h1 : (d.get f).all.length ≤ 6000) (h2 : (d.get (1 - f)).all.length ≤ 6000) : readK d f = (d.get f).all ∧ readK d (1 - f) = (d.get (1 - f)).all := by
  have hr := right_small hf (by omega) (show (d.get (1 - f)).all.length ≤ 65536 by omega)
  unfold readK
  rw [if_pos (ok_of hr hf), if_pos (ok_of hr (by rcases hf with rfl | rfl <;> simp))]
  exact ⟨rfl, rfl⟩
theorem cut_over {d : Dk} {f n : Int} (h : ((d.get f).all.length : Int) < n) : cutK d f n = (d, 1) := by
  unfold cutK
  rw [if_neg (by omega)]
theorem cut_in {d : Dk} {f n : Int} {b : List UInt8} (k0 k1 : Int) (hf : f = 0 ∨ f = 1) (h1 : (d.get f).all.length ≤ 6000) (h2 : (d.get (1 - f)).all.length ≤ 6000) (hb : b.length ≤ 3000) (h0 : 0 ≤ n) (hn : n ≤ ((d.get f).all.length : Int)) :
    ∃ c x, cutK d f n = (c, 0) ∧ writeK c f b = (x, 0) ∧ readK (crashK c k0 k1) f = (d.get f).all.take n.toNat ∧ readK x f = (d.get f).all.take n.toNat ++ b ∧ readK x (1 - f) = (d.get (1 - f)).all := by
  have hr := right_small hf (by omega) (show (d.get (1 - f)).all.length ≤ 65536 by omega)
  have hlt : ((d.get f).all.take n.toNat).length ≤ 6000 := by rw [List.length_take]; omega
  have hc : rightK (d.put f ⟨(d.get f).all.take n.toNat, []⟩) = true := right_small hf (by rw [get_put]; unfold Fi.all at hlt ⊢; simp only [List.append_nil]; omega) (by rw [get_put_other d _ hf]; omega)
  have hcf : (d.put f ⟨(d.get f).all.take n.toNat, []⟩).get f = ⟨(d.get f).all.take n.toNat, []⟩ := get_put _ _ _
  have hco := get_put_other d ⟨(d.get f).all.take n.toNat, []⟩ hf
  have hf1 : 1 - f = 0 ∨ 1 - f = 1 := by omega
  refine ⟨d.put f ⟨(d.get f).all.take n.toNat, []⟩, (d.put f ⟨(d.get f).all.take n.toNat, []⟩).put f ⟨(d.get f).all.take n.toNat, b⟩, ?_, ?_, ?_, ?_⟩
  · unfold cutK
    rw [if_pos ⟨ok_of hr hf, h0, hn⟩]
  · unfold writeK
    rw [if_pos (ok_of hc hf), hcf]
    have e : (⟨(d.get f).all.take n.toNat, []⟩ : Fi).all = (d.get f).all.take n.toNat := List.append_nil _
    rw [e, if_pos (by omega)]
    rfl
  · have e1 : crashK (d.put f ⟨(d.get f).all.take n.toNat, []⟩) k0 k1 = ⟨kept (d.put f ⟨(d.get f).all.take n.toNat, []⟩).f0 k0, kept (d.put f ⟨(d.get f).all.take n.toNat, []⟩).f1 k1⟩ := by unfold crashK; rw [if_pos hc]
    have ke : ∀ k, kept ⟨(d.get f).all.take n.toNat, []⟩ k = ⟨(d.get f).all.take n.toNat, []⟩ := fun k => by unfold kept; simp
    have kl : ∀ (g : Fi) k, (kept g k).all.length ≤ g.all.length := fun g k => by
      unfold kept Fi.all
      simp only [List.append_nil, List.length_append, List.length_take]
      omega
    have hrc := (right_iff _).1 hc
    have hy : rightK (crashK (d.put f ⟨(d.get f).all.take n.toNat, []⟩) k0 k1) = true := by
      rw [e1, right_iff]
      exact ⟨Nat.le_trans (kl _ _) hrc.1, Nat.le_trans (kl _ _) hrc.2⟩
    unfold readK
    rw [if_pos (ok_of hy hf), e1]
    rcases hf with rfl | rfl
    · show (kept ((d.put 0 _).get 0) k0).all = _
      rw [get_put, ke]
      exact List.append_nil _
    · show (kept ((d.put 1 _).get 1) k1).all = _
      rw [get_put, ke]
      exact List.append_nil _
  · have hx : rightK ((d.put f ⟨(d.get f).all.take n.toNat, []⟩).put f ⟨(d.get f).all.take n.toNat, b⟩) = true := right_small hf (by rw [get_put]; unfold Fi.all at hlt ⊢; simp only [List.length_append]; omega) (by rw [get_put_other _ _ hf, hco]; omega)
    unfold readK
    rw [if_pos (ok_of hx hf), if_pos (ok_of hx hf1), get_put, get_put_other _ _ hf, hco]
    exact ⟨rfl, rfl⟩

end Dsk
end Go.Proofs.Ytdiegglnfbmpdaa
