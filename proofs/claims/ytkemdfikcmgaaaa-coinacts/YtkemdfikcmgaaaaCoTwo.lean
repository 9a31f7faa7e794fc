/-
  Several sets and rows in one memory. Nothing here speaks of one function.
-/
import Derived.Test.YtkemdfikcmgaaaaCoBackP
namespace Go.Proofs.Ytkemdfikcmgaaaa
open Go.RowKit

theorem SetAt.besides {w w' : World} {b p q : Nat} {m : Option Nat} {C : List Cn} (h : SetAt w b m C) (hb : Besides p q w w') (h1 : b ≠ p ∧ b ≠ q) (h2 : ∀ k, m = some k → k ≠ p ∧ k ≠ q) : SetAt w' b m C :=
  h.heap (hb.block b h.lt h1.1 h1.2) fun k hk => hb.block k (h.2.2.2 k hk).2.lt (h2 k hk).1 (h2 k hk).2
/-- What lies at base and behind it alone. -/
theorem keep_own {w : World} {base base' : Nat} {ty : TypeId} {s : Nat} {v : Value} {C : List (List Value)} (h : RowOwn w base ty s v C) (hb : base' ≤ base) : Keeps (fun g => base' ≤ g) w fun w => RowAt w s v C :=
  own_keeps h fun _ h1 _ => Nat.le_trans hb h1
theorem keep_over {w w' : World} {X : World → Prop} {base p q : Nat} (h : Keeps (fun g => base ≤ g) w X) (hb : Besides p q w w') (hp : p < base) (hq : q < base) : Keeps (fun g => base ≤ g) w' X :=
  h.step hb.size fun g hg hP => hb.block g hg (by omega) (by omega)
theorem drop_all (L : List Cn) : dropPts L (L.map Cn.pt) = [] := by
  unfold dropPts
  rw [List.filter_eq_nil_iff]
  intro c hc
  simpa using ⟨c, hc, rfl⟩
theorem cns_same {w : World} {v : Value} {L M : List Cn} (h : CnsAt w v L) (e : L = M) : CnsAt w v M := e ▸ h

end Go.Proofs.Ytkemdfikcmgaaaa
