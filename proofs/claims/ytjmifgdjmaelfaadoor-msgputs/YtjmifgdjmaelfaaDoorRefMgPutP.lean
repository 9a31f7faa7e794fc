/-
  What Put of messages answers, case by case: plain words.
-/
import Derived.Test.YtjmifgdjmaelfaaDoorMgA
namespace Go.Proofs.YtjmifgdjmaelfaaDoor

theorem mpA {m : Mg} (hk : isKind m.kind = true) (h : coversB (shp m.kind) m = false) : mpE m = 2 := by
  have e : chkE (shp m.kind) m = 2 := if_pos h
  unfold mpE
  rw [if_neg (by rw [hk]; decide), e, if_pos (by decide)]
theorem mpN {m : Mg} (hk : isKind m.kind = false) : mpE m = 2 := if_pos hk
theorem mp9 {m : Mg} (hk : isKind m.kind = true) (h : coversB (shp m.kind) m = true) (h1 : 0 < (shp m.kind).maxIds) (h2 : m.ids.length = 0) : mpE m = 9 := by
  have e : chkE (shp m.kind) m = 9 := by
    unfold chkE
    rw [if_neg (by rw [h]; decide), if_pos ⟨h1, h2⟩]
  unfold mpE
  rw [if_neg (by rw [hk]; decide), e, if_pos (by decide)]
theorem mp5 {m : Mg} (hk : isKind m.kind = true) (h : coversB (shp m.kind) m = true) (h2 : (shp m.kind).maxIds < m.ids.length) : mpE m = 5 := by
  have e : chkE (shp m.kind) m = 5 := by
    unfold chkE
    rw [if_neg (by rw [h]; decide), if_neg (by omega), if_pos h2]
  unfold mpE
  rw [if_neg (by rw [hk]; decide), e, if_pos (by decide)]
theorem mp3 {m : Mg} (hk : isKind m.kind = true) (h : coversB (shp m.kind) m = true) (h1 : 0 < (shp m.kind).maxIds → 0 < m.ids.length) (h2 : ¬ (shp m.kind).maxIds < m.ids.length) (h3 : (shp m.kind).maxCode < m.code) : mpE m = 3 := by
  have e : chkE (shp m.kind) m = 3 := by
    unfold chkE
    rw [if_neg (by rw [h]; decide), if_neg (by omega), if_neg h2, if_pos h3]
  unfold mpE
  rw [if_neg (by rw [hk]; decide), e, if_pos (by decide)]
theorem mp0 {m : Mg} (hk : isKind m.kind = true) (h : coversB (shp m.kind) m = true) (h1 : 0 < (shp m.kind).maxIds → 0 < m.ids.length) (h2 : ¬ (shp m.kind).maxIds < m.ids.length) (h3 : ¬ (shp m.kind).maxCode < m.code) :
    mpE m = mbE (shp m.kind) m ∧ (mbE (shp m.kind) m = 0 → mpC m = (shp m.kind).cmd ∧ mpB m = mbL (shp m.kind) m) := by
  have e : chkE (shp m.kind) m = 0 := by
    unfold chkE
    rw [if_neg (by rw [h]; decide), if_neg (by omega), if_neg h2, if_neg h3]
  have e2 : mpE m = mbE (shp m.kind) m := by
    unfold mpE
    rw [if_neg (by rw [hk]; decide), e, if_neg (by decide)]
  exact ⟨e2, fun h => ⟨if_pos (e2.trans h), if_pos (e2.trans h)⟩⟩
theorem cov_n {s : Shp} {m : Mg} (h : s.nLen = 0) (hn : m.n ≠ 0) : coversB s m = false := by
  cases e : coversB s m with
  | false => rfl
  | true => exact absurd (((coversB_iff s m).1 e).2.2.1 h) hn
theorem cov_c {s : Shp} {m : Mg} (h : s.codeLen = 0) (hn : m.code ≠ 0) : coversB s m = false := by
  cases e : coversB s m with
  | false => rfl
  | true => exact absurd (((coversB_iff s m).1 e).2.1 h) hn
theorem cov_i {s : Shp} {m : Mg} (h : s.maxIds = 0) (hn : 0 < m.ids.length) : coversB s m = false := by
  cases e : coversB s m with
  | false => rfl
  | true =>
    have := ((coversB_iff s m).1 e).1 h
    rw [this] at hn
    exact absurd hn (by decide)
theorem cov_t {s : Shp} {m : Mg} (h : s.hasTx = false) (hn : bareB m.tx = false) : coversB s m = false := by
  cases e : coversB s m with
  | false => rfl
  | true =>
    have := (bareB_iff m.tx).2 (((coversB_iff s m).1 e).2.2.2 h)
    rw [this] at hn
    cases hn

end Go.Proofs.YtjmifgdjmaelfaaDoor
