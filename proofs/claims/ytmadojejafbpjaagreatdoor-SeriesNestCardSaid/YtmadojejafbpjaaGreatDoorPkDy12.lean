/-
  What is cut down and up encloses a number; so do quotients times the divisor, and roots squared: in plain numbers.
  For the walk of DyadEnclose: order, products over numbers, and blocks that are written once more.
-/
import Derived.Test.YtmadojejafbpjaaGreatDoorPkDy11
namespace Go.Proofs.YtmadojejafbpjaaGreatDoor
open Go.RowKit

/-- What a dyad stands for, in units of 2 to the g. -/
def mag (V : Nat) (e g : Int) : Nat := V * 2 ^ (e - g).toNat
def valI (neg : Bool) (V : Nat) (e g : Int) : Int := if neg then - (mag V e g : Int) else (mag V e g : Int)
theorem mag_on {Va : Nat} {ea eb g : Int} (ha : g ≤ ea) (hb : g ≤ eb) : mag Va ea g = onE Va ea eb * 2 ^ (min ea eb - g).toNat := by
  unfold mag onE
  rw [Nat.mul_assoc, ← Nat.pow_add]
  congr 2
  omega
theorem cmpN_le {a b : Nat} (h : a ≤ b) : cmpN a b ≤ 0 := by
  unfold cmpN
  split
  · omega
  · split <;> omega
theorem cmpN_ge {a b : Nat} (h : b ≤ a) : 0 ≤ cmpN a b := by
  unfold cmpN
  split
  · omega
  · split <;> omega
theorem onE_le {Va Vb : Nat} {ea eb g : Int} (ha : Va = 0 ∨ g ≤ ea) (hb : Vb = 0 ∨ g ≤ eb) (h : mag Va ea g ≤ mag Vb eb g) : onE Va ea eb ≤ onE Vb eb ea := by
  rcases Nat.eq_zero_or_pos Va with h0 | h0
  · subst h0; unfold onE; rw [Nat.zero_mul]; exact Nat.zero_le _
  · have ha' : g ≤ ea := by
      rcases ha with h | h
      · omega
      · exact h
    have hp : 0 < mag Va ea g := Nat.mul_pos h0 (Nat.two_pow_pos _)
    rcases Nat.eq_zero_or_pos Vb with h1 | h1
    · subst h1; unfold mag at h hp; rw [Nat.zero_mul] at h; omega
    · have hb' : g ≤ eb := by
        rcases hb with h | h
        · omega
        · exact h
      rw [mag_on ha' hb', mag_on hb' ha', show min eb ea = min ea eb by omega] at h
      exact Nat.le_of_mul_le_mul_right h (Nat.two_pow_pos _)
theorem ord_le {na nb' : Bool} {Va Vb : Nat} {ea eb g : Int} (za : Va = 0 → na = false) (zb : Vb = 0 → nb' = false) (ha : Va = 0 ∨ g ≤ ea) (hb : Vb = 0 ∨ g ≤ eb) (h : valI na Va ea g ≤ valI nb' Vb eb g) : ordD na nb' Va Vb ea eb ≤ 0 := by
  unfold valI at h
  unfold ordD sizeC
  cases na <;> cases nb'
  · simp only [if_true, if_false, Bool.false_eq_true] at h ⊢
    exact cmpN_le (onE_le ha hb (by omega))
  · simp only [if_true, if_false, Bool.false_eq_true] at h ⊢
    have h1 : 0 < Vb := by
      rcases Nat.eq_zero_or_pos Vb with h1 | h1
      · cases zb h1
      · exact h1
    have h2 : 0 < mag Vb eb g := Nat.mul_pos h1 (Nat.two_pow_pos _)
    omega
  · simp
  · simp only [if_true] at h ⊢
    have := cmpN_ge (onE_le hb ha (by omega : mag Vb eb g ≤ mag Va ea g))
    omega

/-- What is known of an answer that is one: of V times 2 to the e. -/
structure Good (r : DR) (neg : Bool) (V : Nat) (e : Int) : Prop where
  ok : r.ok = true
  plain : plainV r.neg r.m r.e = true
  le : r.m ≤ V
  sg : r.m = 0 → r.neg = false
  z : V = 0 → r.m = 0 ∧ r.neg = false
  nz : 0 < V → r.neg = neg ∧ ∃ z : Nat, V = r.m * 2 ^ z ∧ r.e = e + z
  e1 : V = 0 ∨ e ≤ r.e
  e2 : r.m = 0 ∨ r.e ≤ e + (nb V : Int)
theorem mkD_good (neg : Bool) {V : Nat} {e : Int} (h1 : nb V ≤ 16384) (h2 : -262144 ≤ e) (h3 : e + (nb V : Int) ≤ 262144) : Good (mkD neg V e) neg V e := by
  unfold mkD
  rcases Nat.eq_zero_or_pos V with h | h
  · subst h
    rw [if_pos rfl]
    exact ⟨rfl, rfl, Nat.le_refl _, fun _ => rfl, fun _ => ⟨rfl, rfl⟩, fun h => absurd h (by omega), .inl rfl, .inl rfl⟩
  · obtain ⟨g1, g2⟩ := od_spec h
    have hv : v2 V < nb V := by
      have e1 : 1 * 2 ^ v2 V ≤ od V * 2 ^ v2 V := Nat.mul_le_mul_right _ (od_pos h)
      have e2 := nb_lt V
      exact (Nat.pow_lt_pow_iff_right (by omega : 1 < 2)).1 (by omega)
    have hb := nb_mono (od_le V)
    have hf : fitE (e + (v2 V : Int)) := ⟨by omega, by omega⟩
    have hc : nb (od V) ≤ MB ∧ fitE (e + (v2 V : Int)) := ⟨by rw [MB_eq]; omega, hf⟩
    have hp := od_pos h
    rw [if_neg (by omega), if_pos hc]
    refine ⟨rfl, ?_, od_le V, fun h0 => ?_, fun h0 => absurd h0 (by omega), fun _ => ⟨rfl, v2 V, g1, rfl⟩, .inr (by simp only; omega), .inr (by simp only; omega)⟩
    · unfold plainV
      rw [if_neg (by simp only; omega)]
      simp [g2, hc.1, hc.2]
    · simp only at h0; omega
theorem Good.val {r : DR} {neg : Bool} {V : Nat} {e g : Int} (h : Good r neg V e) (hg : g ≤ e) : mag r.m r.e g = mag V e g ∧ valI r.neg r.m r.e g = valI neg V e g := by
  have hm : mag r.m r.e g = mag V e g := by
    rcases Nat.eq_zero_or_pos V with h0 | h0
    · obtain ⟨h1, _⟩ := h.z h0
      unfold mag; rw [h1, h0, Nat.zero_mul, Nat.zero_mul]
    · obtain ⟨_, z, h1, h2⟩ := h.nz h0
      unfold mag
      rw [h2]
      conv => rhs; rw [h1]
      rw [Nat.mul_assoc, ← Nat.pow_add]
      congr 2
      omega
  refine ⟨hm, ?_⟩
  unfold valI
  rw [hm]
  rcases Nat.eq_zero_or_pos V with h0 | h0
  · subst h0; unfold mag; rw [Nat.zero_mul]; simp
  · rw [(h.nz h0).1]
theorem plainV_zero {neg : Bool} {V : Nat} {e : Int} (h : plainV neg V e = true) : V = 0 → neg = false ∧ e = 0 := fun h0 => by
  unfold plainV at h
  rw [if_pos h0] at h
  simp at h
  exact ⟨h.2, h.1⟩

/-- What is kept of Q, and one more where it is cut away from 0 and something is lost. -/
def kept (neg : Bool) (Q : Nat) (more : Bool) (P : Nat) (up : Bool) : Nat := Q / 2 ^ (nb Q - P) + (if (more || decide (Q / 2 ^ (nb Q - P) * 2 ^ (nb Q - P) ≠ Q)) && (up != neg) then 1 else 0)
theorem cut_kept (neg : Bool) (Q : Nat) (e : Int) (more : Bool) (P : Nat) (up : Bool) : cutD neg Q e more P up = mkD neg (kept neg Q more P up) (e + ((nb Q - P : Nat) : Int)) := rfl
theorem kept_low {neg : Bool} {Q : Nat} {more : Bool} {P : Nat} {up : Bool} (h : up = neg) : kept neg Q more P up * 2 ^ (nb Q - P) ≤ Q := by
  unfold kept
  rw [show (up != neg) = false by simp [h], Bool.and_false]
  simp only [Bool.false_eq_true, if_false, Nat.add_zero]
  exact Nat.div_mul_le_self _ _
theorem kept_high {neg : Bool} {Q : Nat} {more : Bool} {P : Nat} {up : Bool} (h : up ≠ neg) : Q + (if more then 1 else 0) ≤ kept neg Q more P up * 2 ^ (nb Q - P) := by
  have hu : (up != neg) = true := by simpa using h
  have h1 : Q < (Q / 2 ^ (nb Q - P) + 1) * 2 ^ (nb Q - P) := Nat.lt_mul_of_div_lt (Nat.lt_succ_self _) (Nat.two_pow_pos _)
  unfold kept
  rw [hu, Bool.and_true]
  cases more
  · simp only [Bool.false_or, Bool.false_eq_true, if_false, Nat.add_zero]
    by_cases h2 : Q / 2 ^ (nb Q - P) * 2 ^ (nb Q - P) = Q
    · rw [show decide (Q / 2 ^ (nb Q - P) * 2 ^ (nb Q - P) ≠ Q) = false by simp [h2]]
      simp only [Bool.false_eq_true, if_false, Nat.add_zero]
      omega
    · rw [show decide (Q / 2 ^ (nb Q - P) * 2 ^ (nb Q - P) ≠ Q) = true by simp [h2]]
      simp only [if_true]
      omega
  · simp only [Bool.true_or, if_true]
    omega
theorem nb_kept (neg : Bool) (Q : Nat) (more : Bool) (P : Nat) (up : Bool) : nb (kept neg Q more P up) + (nb Q - P) ≤ nb Q + 1 + (nb Q - P) := by
  have h1 : kept neg Q more P up ≤ Q + 1 := by
    unfold kept
    have := Nat.div_le_self Q (2 ^ (nb Q - P))
    split <;> omega
  have h2 := nb_mono h1
  have h3 := nb_succ_le Q
  omega

theorem valI_mul (neg : Bool) (T D : Nat) (e g : Int) (hg : g ≤ e) : valI neg T (e + (D : Int)) g = valI neg (T * 2 ^ D) e g := by
  unfold valI mag
  rw [show (e + (D : Int) - g).toNat = D + (e - g).toNat by omega, Nat.pow_add, ← Nat.mul_assoc]
theorem valI_low {neg : Bool} {A B : Nat} {e g : Int} (h : if neg then B ≤ A else A ≤ B) : valI neg A e g ≤ valI neg B e g := by
  unfold valI mag
  cases neg
  · simp only [Bool.false_eq_true, if_false] at h ⊢
    have := Nat.mul_le_mul_right (2 ^ (e - g).toNat) h
    omega
  · simp only [if_true] at h ⊢
    have := Nat.mul_le_mul_right (2 ^ (e - g).toNat) h
    omega

/-- Cut down, a number isn't above what it was; cut up, not below. -/
theorem cut_ok {neg : Bool} {V : Nat} {e : Int} {P : Nat} (up : Bool) (hz : V = 0 → neg = false) (hV : nb V ≤ 3000) (he1 : -30000 ≤ e) (he2 : e ≤ 30000) :
    (cutD neg V e false P up).ok = true ∧ plainV (cutD neg V e false P up).neg (cutD neg V e false P up).m (cutD neg V e false P up).e = true ∧
    (up = false → ordD (cutD neg V e false P up).neg neg (cutD neg V e false P up).m V (cutD neg V e false P up).e e ≤ 0) ∧
    (up = true → ordD neg (cutD neg V e false P up).neg V (cutD neg V e false P up).m e (cutD neg V e false P up).e ≤ 0) := by
  have hk := nb_kept neg V false P up
  rw [cut_kept]
  have G := mkD_good neg (V := kept neg V false P up) (e := e + ((nb V - P : Nat) : Int)) (by omega) (by omega) (by omega)
  generalize mkD neg (kept neg V false P up) (e + ((nb V - P : Nat) : Int)) = r at *
  obtain ⟨_, hval⟩ := G.val (g := e) (by omega)
  rw [valI_mul neg _ _ e e (Int.le_refl _)] at hval
  have hge : r.m = 0 ∨ e ≤ r.e := by
    rcases G.e1 with h | h
    · exact .inl (G.z h).1
    · exact .inr (by omega)
  refine ⟨G.ok, G.plain, fun hu => ?_, fun hu => ?_⟩
  · refine ord_le G.sg hz hge (.inr (Int.le_refl _)) ?_
    rw [hval]
    refine valI_low ?_
    cases neg
    · simp only [Bool.false_eq_true, if_false]; exact kept_low hu
    · simp only [if_true]
      have := kept_high (neg := true) (Q := V) (more := false) (P := P) (up := up) (by rw [hu]; decide)
      omega
  · refine ord_le hz G.sg (.inr (Int.le_refl _)) hge ?_
    rw [hval]
    refine valI_low ?_
    cases neg
    · simp only [Bool.false_eq_true, if_false]
      have := kept_high (neg := false) (Q := V) (more := false) (P := P) (up := up) (by rw [hu]; decide)
      omega
    · simp only [if_true]; exact kept_low hu
theorem nb_mul (A B : Nat) : nb (A * B) ≤ nb A + nb B := by
  refine (nb_le_iff _ _).2 ?_
  rw [Nat.pow_add]
  exact Nat.mul_lt_mul'' (nb_lt A) (nb_lt B)

/-- A quotient times the divisor. -/
theorem over_ok {na nb' : Bool} {Va Vb : Nat} {ea eb : Int} {P : Nat} (up : Bool) (r s : DR) (hr : r = quoD na nb' Va Vb ea eb (P + nb Vb - nb Va) P up) (hs : s = mkD (r.neg != nb') (r.m * Vb) (r.e + eb))
    (za : Va = 0 → na = false) (hb : 0 < Vb) (hVa : nb Va ≤ 3000) (hVb : nb Vb ≤ 3000) (hP : P ≤ 600) (ea1 : -30000 ≤ ea) (ea2 : ea ≤ 30000) (eb1 : -30000 ≤ eb) (eb2 : eb ≤ 30000) :
    r.ok = true ∧ plainV r.neg r.m r.e = true ∧ nb r.m ≤ 16384 ∧ s.ok = true ∧ plainV s.neg s.m s.e = true ∧
    (up = nb' → ordD s.neg na s.m Va s.e ea ≤ 0) ∧ (up ≠ nb' → ordD na s.neg Va s.m ea s.e ≤ 0) := by
  obtain ⟨R, hR⟩ : ∃ R, R = P + nb Vb - nb Va := ⟨_, rfl⟩
  have hR1 : R ≤ 3600 := by omega
  rw [← hR] at hr
  unfold quoD at hr
  rw [cut_kept] at hr
  obtain ⟨q, hq⟩ : ∃ q : Bool, q = (na != nb') := ⟨_, rfl⟩
  rw [← hq] at hr
  have hN := nb_mul_le Va R
  generalize hNN : Va * 2 ^ R = N at *
  have hQ := nb_mono (Nat.div_le_self N Vb)
  have hdm := Nat.div_add_mod N Vb
  have hlt := Nat.mod_lt N hb
  generalize N / Vb = Q at *
  have low : up = q → kept q Q (decide (N % Vb ≠ 0)) P up * 2 ^ (nb Q - P) * Vb ≤ N := fun h => by
    have h1 := Nat.mul_le_mul_right Vb (kept_low (neg := q) (Q := Q) (more := decide (N % Vb ≠ 0)) (P := P) h)
    rw [Nat.mul_comm Vb Q] at hdm
    omega
  have high : up ≠ q → N ≤ kept q Q (decide (N % Vb ≠ 0)) P up * 2 ^ (nb Q - P) * Vb := fun h => by
    have h1 := Nat.mul_le_mul_right Vb (kept_high (neg := q) (Q := Q) (more := decide (N % Vb ≠ 0)) (P := P) h)
    rw [Nat.mul_comm Vb Q] at hdm
    by_cases h2 : N % Vb = 0
    · rw [show decide (N % Vb ≠ 0) = false by simp [h2]] at h1 ⊢
      simp only [Bool.false_eq_true, if_false, Nat.add_zero] at h1
      omega
    · rw [show decide (N % Vb ≠ 0) = true by simp [h2]] at h1 ⊢
      simp only [if_true] at h1
      rw [Nat.add_mul, Nat.one_mul] at h1
      omega
  have hk := nb_kept q Q (decide (N % Vb ≠ 0)) P up
  generalize kept q Q (decide (N % Vb ≠ 0)) P up = T at *
  generalize hD : nb Q - P = D at *
  have G1 := mkD_good q (V := T) (e := ea - eb - (R : Int) + (D : Int)) (by omega) (by omega) (by omega)
  rw [← hr] at G1
  have hm1 := nb_mono G1.le
  have hm2 := nb_mul r.m Vb
  have hre : (r.m = 0 ∧ r.e = 0) ∨ (0 < T ∧ 0 < r.m ∧ ea - eb - (R : Int) + (D : Int) ≤ r.e ∧ r.e ≤ ea - eb - (R : Int) + (D : Int) + (nb T : Int)) := by
    rcases Nat.eq_zero_or_pos r.m with h | h
    · exact .inl ⟨h, (plainV_zero G1.plain h).2⟩
    · have hT : 0 < T := Nat.lt_of_lt_of_le h G1.le
      have h1 := G1.e1
      have h2 := G1.e2
      exact .inr ⟨hT, h, by omega, by omega⟩
  have hm0 : r.m = 0 → nb r.m = 0 := fun h => by rw [h]; rfl
  have G2 := mkD_good (r.neg != nb') (V := r.m * Vb) (e := r.e + eb) (by omega) (by omega) (by omega)
  rw [← hs] at G2
  have hmag : mag s.m s.e (ea - (R : Int)) = T * 2 ^ D * Vb := by
    rcases hre with ⟨h, _⟩ | ⟨hT, hr0, h1, h2⟩
    · have hs0 : s.m = 0 := (G2.z (by rw [h, Nat.zero_mul])).1
      have hT0 : T = 0 := by
        rcases Nat.eq_zero_or_pos T with h0 | h0
        · exact h0
        · obtain ⟨_, z, hz, _⟩ := G1.nz h0
          rw [h, Nat.zero_mul] at hz; exact hz
      unfold mag
      rw [hs0, hT0, Nat.zero_mul, Nat.zero_mul, Nat.zero_mul]
    · rw [(G2.val (g := ea - (R : Int)) (by omega)).1]
      obtain ⟨_, z, hz, he⟩ := G1.nz hT
      unfold mag
      rw [show (r.e + eb - (ea - (R : Int))).toNat = D + z by omega, hz, Nat.pow_add]
      ac_rfl
  have hval : valI s.neg s.m s.e (ea - (R : Int)) = if na then - ((T * 2 ^ D * Vb : Nat) : Int) else ((T * 2 ^ D * Vb : Nat) : Int) := by
    unfold valI
    rw [hmag]
    rcases Nat.eq_zero_or_pos (T * 2 ^ D * Vb) with h | h
    · rw [h]; simp
    · have hT : 0 < T := by
        rcases Nat.eq_zero_or_pos T with h0 | h0
        · rw [h0, Nat.zero_mul, Nat.zero_mul] at h; omega
        · exact h0
      obtain ⟨hn, z, hz, _⟩ := G1.nz hT
      have hr0 : 0 < r.m := by
        rcases Nat.eq_zero_or_pos r.m with h0 | h0
        · rw [h0, Nat.zero_mul] at hz; omega
        · exact h0
      rw [(G2.nz (Nat.mul_pos hr0 hb)).1, hn, hq]
      cases na <;> cases nb' <;> rfl
  have hva : valI na Va ea (ea - (R : Int)) = if na then - ((N : Nat) : Int) else ((N : Nat) : Int) := by
    unfold valI mag
    rw [show (ea - (ea - (R : Int))).toNat = R by omega, hNN]
  have hgs : s.m = 0 ∨ ea - (R : Int) ≤ s.e := by
    rcases G2.e1 with h | h
    · exact .inl (G2.z h).1
    · rcases hre with ⟨h0, _⟩ | ⟨_, _, h1, _⟩
      · exact .inl (G2.z (by rw [h0, Nat.zero_mul])).1
      · exact .inr (by omega)
  refine ⟨G1.ok, G1.plain, by omega, G2.ok, G2.plain, fun hu => ?_, fun hu => ?_⟩
  · refine ord_le (g := ea - (R : Int)) G2.sg za hgs (.inr (by omega)) ?_
    rw [hval, hva]
    cases na
    · have := low (by rw [hq, hu]; cases nb' <;> rfl)
      simp only [Bool.false_eq_true, if_false]; omega
    · have := high (by rw [hq, hu]; cases nb' <;> decide)
      simp only [if_true]; omega
  · refine ord_le (g := ea - (R : Int)) za G2.sg (.inr (by omega)) hgs ?_
    rw [hval, hva]
    have hu' : up = !nb' := by cases up <;> cases nb' <;> simp_all
    cases na
    · have := high (by rw [hq, hu']; cases nb' <;> decide)
      simp only [Bool.false_eq_true, if_false]; omega
    · have := low (by rw [hq, hu']; cases nb' <;> rfl)
      simp only [if_true]; omega

/-- A root squared. -/
theorem root_ok {V : Nat} {e : Int} {P : Nat} (up : Bool) (r s : DR) (hr : r = sqD V e (even1 e (2 * P - nb V)) P up) (hs : s = mkD (r.neg != r.neg) (r.m * r.m) (r.e + r.e))
    (hV : nb V ≤ 3000) (hP : P ≤ 600) (e1 : -30000 ≤ e) (e2 : e ≤ 30000) :
    r.ok = true ∧ plainV r.neg r.m r.e = true ∧ nb r.m ≤ 16384 ∧ s.ok = true ∧ plainV s.neg s.m s.e = true ∧
    (up = false → ordD s.neg false s.m V s.e e ≤ 0) ∧ (up = true → ordD false s.neg V s.m e s.e ≤ 0) := by
  have hev := even1_even e (2 * P - nb V)
  have hle := even1_le e (2 * P - nb V)
  generalize even1 e (2 * P - nb V) = R at *
  have hR1 : R ≤ 1201 := by omega
  unfold sqD at hr
  rw [cut_kept] at hr
  obtain ⟨h, hh⟩ : ∃ h : Int, e - (R : Int) = 2 * h := ⟨(e - (R : Int)) / 2, by omega⟩
  rw [show (e - (R : Int)) / 2 = h by omega] at hr
  have hN := nb_mul_le V R
  generalize hNN : V * 2 ^ R = N at *
  have hrt := rt_is N
  have hQ := (nb_root hrt).1
  obtain ⟨h1, h2⟩ := hrt
  generalize rt N = Q at *
  generalize rtr N = m at *
  have low : up = false → (kept false Q (decide (m ≠ 0)) P up * 2 ^ (nb Q - P)) * (kept false Q (decide (m ≠ 0)) P up * 2 ^ (nb Q - P)) ≤ N := fun hu => by
    have h3 := kept_low (neg := false) (Q := Q) (more := decide (m ≠ 0)) (P := P) hu
    have h4 := Nat.mul_le_mul h3 h3
    omega
  have high : up = true → N ≤ (kept false Q (decide (m ≠ 0)) P up * 2 ^ (nb Q - P)) * (kept false Q (decide (m ≠ 0)) P up * 2 ^ (nb Q - P)) := fun hu => by
    have h3 := kept_high (neg := false) (Q := Q) (more := decide (m ≠ 0)) (P := P) (up := up) (by rw [hu]; decide)
    have h4 := Nat.mul_le_mul h3 h3
    by_cases h5 : m = 0
    · rw [show decide (m ≠ 0) = false by simp [h5]] at h4 ⊢
      simp only [Bool.false_eq_true, if_false, Nat.add_zero] at h4
      omega
    · rw [show decide (m ≠ 0) = true by simp [h5]] at h4 ⊢
      simp only [if_true] at h4
      have h6 : (Q + 1) * (Q + 1) = Q * Q + 2 * Q + 1 := by rw [Nat.add_mul, Nat.mul_add]; omega
      omega
  have hk := nb_kept false Q (decide (m ≠ 0)) P up
  generalize kept false Q (decide (m ≠ 0)) P up = T at *
  generalize hD : nb Q - P = D at *
  have G1 := mkD_good false (V := T) (e := h + (D : Int)) (by omega) (by omega) (by omega)
  rw [← hr] at G1
  have hm1 := nb_mono G1.le
  have hm2 := nb_mul r.m r.m
  have hre : (r.m = 0 ∧ r.e = 0) ∨ (0 < T ∧ 0 < r.m ∧ h + (D : Int) ≤ r.e ∧ r.e ≤ h + (D : Int) + (nb T : Int)) := by
    rcases Nat.eq_zero_or_pos r.m with h' | h'
    · exact .inl ⟨h', (plainV_zero G1.plain h').2⟩
    · have hT : 0 < T := Nat.lt_of_lt_of_le h' G1.le
      have h3 := G1.e1
      have h4 := G1.e2
      exact .inr ⟨hT, h', by omega, by omega⟩
  have hm0 : r.m = 0 → nb r.m = 0 := fun h => by rw [h]; rfl
  have G2 := mkD_good (r.neg != r.neg) (V := r.m * r.m) (e := r.e + r.e) (by omega) (by omega) (by omega)
  rw [← hs] at G2
  have hsn : s.neg = false := by
    rcases Nat.eq_zero_or_pos (r.m * r.m) with h' | h'
    · exact (G2.z h').2
    · rw [(G2.nz h').1]; cases r.neg <;> rfl
  have hmag : mag s.m s.e (e - (R : Int)) = T * 2 ^ D * (T * 2 ^ D) := by
    rcases hre with ⟨h', _⟩ | ⟨hT, hr0, h3, h4⟩
    · have hs0 : s.m = 0 := (G2.z (by rw [h', Nat.zero_mul])).1
      have hT0 : T = 0 := by
        rcases Nat.eq_zero_or_pos T with h0 | h0
        · exact h0
        · obtain ⟨_, z, hz, _⟩ := G1.nz h0
          rw [h', Nat.zero_mul] at hz; exact hz
      unfold mag
      rw [hs0, hT0, Nat.zero_mul, Nat.zero_mul, Nat.zero_mul]
    · rw [(G2.val (g := e - (R : Int)) (by omega)).1]
      obtain ⟨_, z, hz, he⟩ := G1.nz hT
      unfold mag
      rw [show (r.e + r.e - (e - (R : Int))).toNat = (D + z) + (D + z) by omega, hz, Nat.pow_add, Nat.pow_add]
      ac_rfl
  have hval : valI s.neg s.m s.e (e - (R : Int)) = ((T * 2 ^ D * (T * 2 ^ D) : Nat) : Int) := by
    unfold valI
    rw [hmag, hsn]
    rfl
  have hva : valI false V e (e - (R : Int)) = ((N : Nat) : Int) := by
    unfold valI mag
    rw [show (e - (e - (R : Int))).toNat = R by omega, hNN]
    rfl
  have hgs : s.m = 0 ∨ e - (R : Int) ≤ s.e := by
    rcases G2.e1 with h' | h'
    · exact .inl (G2.z h').1
    · rcases hre with ⟨h0, _⟩ | ⟨_, _, h3, _⟩
      · exact .inl (G2.z (by rw [h0, Nat.zero_mul])).1
      · exact .inr (by omega)
  refine ⟨G1.ok, G1.plain, by omega, G2.ok, G2.plain, fun hu => ?_, fun hu => ?_⟩
  · refine ord_le (g := e - (R : Int)) G2.sg (fun _ => rfl) hgs (.inr (by omega)) ?_
    rw [hval, hva]
    have := low hu
    omega
  · refine ord_le (g := e - (R : Int)) (fun _ => rfl) G2.sg (.inr (by omega)) hgs ?_
    rw [hval, hva]
    have := high hu
    omega
end Go.Proofs.YtmadojejafbpjaaGreatDoor

namespace Go.Proofs.YtmadojejafbpjaaGreatDoor
open Go.RowKit

theorem K3.only {w w' : World} {g g' : Nat} {a b c : Value} (h : K3 w g' a b c) (o : Only w w' g) (hne : g' ≠ g) : K3 w' g' a b c := ⟨(o.block g' h.2 (by simpa using hne)).trans h.1, Nat.lt_of_lt_of_le h.2 o.size⟩
theorem K3.set0 {w : World} {g : Nat} {a b c : Value} (h : K3 w g a b c) (v : Value) : K3 (w.setCell ⟨g, 0, none⟩ v) g v b c := by
  obtain ⟨h1, h2⟩ := h
  unfold Blk3 at h1
  refine ⟨?_, by simpa [World.setCell] using h2⟩
  unfold Blk3
  simp [World.setCell, Array.getElem?_modify, h1]
theorem K3.put {w : World} {g : Nat} {a b c : Value} (h : K3 w g a b c) (x y z : Value) : K3 (put3 w g x y z) g x y z := by
  obtain ⟨h1, h2⟩ := h
  unfold Blk3 at h1
  refine ⟨?_, by simpa [put3, World.setCell] using h2⟩
  unfold Blk3
  simp [put3, World.setCell, Array.getElem?_modify, h1]
theorem K3.frozen {w : World} {g : Nat} {a b c : Value} (h : K3 w g a b c) : w.frozen? ⟨g, 0, none⟩ = false ∧ w.frozen? ⟨g, 1, none⟩ = false ∧ w.frozen? ⟨g, 2, none⟩ = false := h.1.frozen
theorem num_only {w w' : World} {v : Value} {V g : Nat} {na : Bool} {A : Option Addr} {n c : Nat} {e : Int} (h : Num w v V) (k : K3 w g (.bool na) (.slice A n c) (.int .i64 e)) (o : Only w w' g) : Num w' v V := by
  obtain ⟨A, n, cp, f, hv, hs, hc, he⟩ := h
  exact ⟨A, n, cp, f, hv, hs.only o (hs.apart k.1 (notU_bool _) (notU_slice _ _ _) (notU_int _)), hc, he⟩
theorem only_set0 (w : World) (g : Nat) (v : Value) : Only w (w.setCell ⟨g, 0, none⟩ v) g := (Only.refl w g).set_ 0 v
theorem below_only {w0 w w' : World} {g : Nat} (h : Below w0.heap.size w0 w) (o : Only w w' g) (hg : w0.heap.size ≤ g) : Below w0.heap.size w0 w' := Only.below h o h.size hg

/-- What a call answers, where it is one. -/
def DY (w : World) (r : DR) (e : Ending) (w' : World) : Prop := ∃ A p c, e = .returned (.tuple #[.agg #[.bool r.neg, .slice A p c, .int .i64 r.e], .bool true]) ∧ Num w' (.slice A p c) r.m ∧ Below w.heap.size w w'
theorem DP.dy {w w' : World} {r : DR} {e : Ending} (h : DP w r e w') (hok : r.ok = true) : DY w r e w' := by
  obtain ⟨A, p, c, rfl, hm, b⟩ := h
  exact ⟨A, p, c, by rw [hok], hm, b⟩
/-- a isn't above b. -/
structure Le (na : Bool) (Va : Nat) (ea : Int) (nb' : Bool) (Vb : Nat) (eb : Int) : Prop where
  pa : plainV na Va ea = true
  pb : plainV nb' Vb eb = true
  le : ordD na nb' Va Vb ea eb ≤ 0
theorem root_false {na : Bool} {n : Nat} {x : Nat → Nat} {e : Int} (h : plainB na n x e = true) : plainB false n x e = true := by
  unfold plainB at h ⊢
  by_cases h0 : n = 0
  · simp only [h0, if_true] at h ⊢
    simp at h ⊢
    exact h.1
  · simp only [h0, if_false] at h ⊢
    exact h
end Go.Proofs.YtmadojejafbpjaaGreatDoor
