import PyProof.Rows.All
import Wide.All
import OpenK.AllK
import Wide.FinOn
import PyProof.ExcRepr
import PyProof.ReprReads
import KE.KExcStr
import HandS.ForExc
import HandS.ExcInit
import HandS.ForMost
import HandS.Wide
import HandS.Flow
import HandS.More
import PyProof.InstEq
import PyProof.CallFns
import PyProof.ReprRoads
import HandS.DeepEq
import KE.GoesMore
import KE.GoesEnum
import HandS.Nested
import HandS.Words
import HandS.DictComp
import HandS.Strs
import HandS.IsInst
import HandS.Exc
import HandS.ExcField
import HandS.WordsExc
import HandS.RaiseMore
import KE.KeyNested
import HandS.TupSets
import HandS.SetFor
import KE.SortData
import KE.SortCalls
import HandS.TupAny
import KE.DatumOrd
import HandS.WordsDict
import HandS.Style
import HandS.EndTab
import KE.KNestM
import PySem.Challenge.RW_goneyet_k89_from_when_answers_are_fresh
set_option Elab.async false
set_option linter.all false
set_option maxHeartbeats 1000000
/-! from when answers are fresh: the numbers alone -/
namespace KaU
abbrev NEV : Int := 2000000
abbrev ALW : Int := -1000000
section
variable {α : Type} [DecidableEq α]
abbrev Nd (α : Type) := Option (α × Int)
def dN (x : α → Int) : Nd α → Int
  | none => 0
  | some (m, a) => if x m + a > 0 then x m + a else 0
theorem dN0 (x : α → Int) (d : Nd α) : 0 ≤ dN x d := by
  cases d with
  | none => exact Int.le_refl _
  | some p =>
    obtain ⟨m, a⟩ := p
    unfold dN
    dsimp only
    split <;> omega
theorem dN_mono {x y : α → Int} (h : ∀ n, x n ≤ y n) (d : Nd α) : dN x d ≤ dN y d := by
  cases d with
  | none => exact Int.le_refl _
  | some p =>
    obtain ⟨m, a⟩ := p
    have := h m
    unfold dN
    dsimp only
    split <;> split <;> omega
def up (x : α → Int) (n : α) (v : Int) : α → Int := fun m => if m = n then v else x m
theorem up_same (x : α → Int) (n : α) (v : Int) : up x n v n = v := if_pos rfl
theorem up_ne (x : α → Int) {n m : α} (v : Int) (h : m ≠ n) : up x n v m = x m := if_neg h
theorem up_le {x : α → Int} {n : α} {v : Int} (h : v ≤ x n) (m : α) : up x n v m ≤ x m := by
  unfold up
  split
  · rename_i e
    subst e
    exact h
  · exact Int.le_refl _
/-- what the grounds are -/
structure Gk (ns : List α) (L : α → List (List (Nd α))) : Prop where
  a : ∀ n, ∀ g ∈ L n, ∀ m b, some (m, b) ∈ g → m ∈ ns ∧ 1 ≤ b ∧ b ≤ 9
/-- the program's numbers at any moment -/
structure PI (L : α → List (List (Nd α))) (cl : α → Bool) (x : α → Int) : Prop where
  c : ∀ n, cl n = true → x n = ALW
  z : ∀ n, cl n = false → 0 ≤ x n
  le : ∀ n, x n ≤ NEV
  w : ∀ n, cl n = false → x n < NEV → ∃ g ∈ L n, ∀ d ∈ g, dN x d ≤ x n
/-- the least day of a kind's grounds, by x -/
def IsDay (L : α → List (List (Nd α))) (x : α → Int) (n : α) (day : Int) : Prop :=
  (day = NEV ∧ L n = []) ∨ ((∃ g ∈ L n, ∀ d ∈ g, dN x d ≤ day) ∧ ∀ g ∈ L n, ∃ d ∈ g, day ≤ dN x d)
theorem IsDay.nonneg {L : α → List (List (Nd α))} {x : α → Int} {n : α} {day : Int} (h : IsDay L x n day) : 0 ≤ day := by
  rcases h with ⟨rfl, _⟩ | ⟨⟨g, mg, h1⟩, h2⟩
  · decide
  · obtain ⟨d, md, _⟩ := h2 g mg
    exact Int.le_trans (dN0 x d) (h1 d md)
theorem PI.step {L : α → List (List (Nd α))} {cl : α → Bool} {x : α → Int} (h : PI L cl x) {n : α} {day : Int} (hd : IsDay L x n day) (lt : day < x n) : PI L cl (up x n day) := by
  have d0 := hd.nonneg
  have hc : cl n = false := by
    cases e : cl n with
    | false => rfl
    | true =>
      have h1 := h.c n e
      have h2 : ALW = (-1000000 : Int) := rfl
      omega
  have hn := h.le n
  have le := up_le (x := x) (n := n) (v := day) (Int.le_of_lt lt)
  refine ⟨fun m hm => ?_, fun m hm => ?_, fun m => Int.le_trans (le m) (h.le m), fun m hm hlt => ?_⟩
  · rw [up_ne x day (fun z => by rw [z, hc] at hm; cases hm)]
    exact h.c m hm
  · unfold up
    split
    · exact d0
    · exact h.z m hm
  · by_cases e : m = n
    · subst e
      rcases hd with ⟨rfl, _⟩ | ⟨⟨g, mg, h1⟩, _⟩
      · omega
      · refine ⟨g, mg, fun d md => ?_⟩
        rw [up_same]
        exact Int.le_trans (dN_mono le d) (h1 d md)
    · rw [up_ne x day e] at hlt ⊢
      obtain ⟨g, mg, h1⟩ := h.w m hm hlt
      exact ⟨g, mg, fun d md => Int.le_trans (dN_mono le d) (h1 d md)⟩
/-- what is left to fall -/
def sumN (ns : List α) (x : α → Int) : Nat := (ns.map fun n => (x n).toNat).sum
theorem sumN_le {x y : α → Int} (h : ∀ n, y n ≤ x n) : ∀ ns : List α, sumN ns y ≤ sumN ns x
  | [] => Nat.le_refl _
  | n :: r => by
    have ih := sumN_le h r
    have hn := h n
    unfold sumN at ih ⊢
    rw [List.map_cons, List.map_cons, List.sum_cons, List.sum_cons]
    omega
theorem sumN_lt {x : α → Int} {n : α} {v : Int} (h : v < x n) (h0 : 0 ≤ v) : ∀ ns : List α, n ∈ ns → sumN ns (up x n v) < sumN ns x
  | [], m => nomatch m
  | k :: r, m => by
    have le := sumN_le (up_le (x := x) (n := n) (v := v) (Int.le_of_lt h)) r
    have hk := up_le (x := x) (n := n) (v := v) (Int.le_of_lt h) k
    by_cases e : k = n
    · subst e
      have hs := up_same x k v
      unfold sumN at le ⊢
      rw [List.map_cons, List.map_cons, List.sum_cons, List.sum_cons, hs]
      omega
    · have ih := sumN_lt h h0 r ((List.mem_cons.mp m).resolve_left fun z => e z.symm)
      unfold sumN at ih ⊢
      rw [List.map_cons, List.map_cons, List.sum_cons, List.sum_cons]
      omega
/-- nothing falls any more -/
def PF (ns : List α) (L : α → List (List (Nd α))) (x : α → Int) : Prop := ∀ n ∈ ns, ∀ g ∈ L n, ∃ d ∈ g, x n ≤ dN x d
theorem IsDay.pf {L : α → List (List (Nd α))} {x : α → Int} {n : α} {day : Int} (h : IsDay L x n day) (le : ¬ day < x n) : ∀ g ∈ L n, ∃ d ∈ g, x n ≤ dN x d := fun g mg => by
  rcases h with ⟨_, e⟩ | ⟨_, h2⟩
  · rw [e] at mg
    cases mg
  · obtain ⟨d, md, hd⟩ := h2 g mg
    exact ⟨d, md, by omega⟩
/-! ### the fixed point -/
def rk (ns : List α) (x : α → Int) (n : α) : Nat := (ns.filter fun m => decide (x m < x n)).length
theorem rk_lt {ns : List α} {x : α → Int} {m n : α} (hm : m ∈ ns) (h : x m < x n) : rk ns x m < rk ns x n := by
  unfold rk
  induction ns with
  | nil => cases hm
  | cons k r ih =>
    have sub : (r.filter fun q => decide (x q < x m)).length ≤ (r.filter fun q => decide (x q < x n)).length := by
      clear ih hm
      induction r with
      | nil => exact Nat.le_refl _
      | cons q r ih =>
        rw [List.filter_cons, List.filter_cons]
        by_cases e1 : x q < x m
        · rw [if_pos (decide_eq_true e1), if_pos (decide_eq_true (show x q < x n by omega))]
          exact Nat.succ_le_succ ih
        · rw [if_neg (by simpa using e1)]
          split
          · exact Nat.le_succ_of_le ih
          · exact ih
    rw [List.filter_cons, List.filter_cons]
    by_cases e : k = m
    · subst e
      rw [if_neg (by simp), if_pos (decide_eq_true h)]
      exact Nat.lt_succ_of_le sub
    · have ih := ih ((List.mem_cons.mp hm).resolve_left fun z => e z.symm)
      by_cases e1 : x k < x m
      · rw [if_pos (decide_eq_true e1), if_pos (decide_eq_true (show x k < x n by omega))]
        exact Nat.succ_lt_succ ih
      · rw [if_neg (by simpa using e1)]
        split
        · exact Nat.lt_succ_of_lt ih
        · exact ih
theorem rk_len {ns : List α} {x : α → Int} {n : α} (h : n ∈ ns) : rk ns x n < ns.length := by
  unfold rk
  induction ns with
  | nil => cases h
  | cons k r ih =>
    rw [List.filter_cons]
    by_cases e : k = n
    · subst e
      rw [if_neg (by simp)]
      exact Nat.lt_succ_of_le (List.length_filter_le ..)
    · have ih := ih ((List.mem_cons.mp h).resolve_left fun z => e z.symm)
      split
      · exact Nat.succ_lt_succ ih
      · exact Nat.lt_succ_of_lt ih
/-- each number that is told is small -/
theorem small {ns : List α} {L : α → List (List (Nd α))} {cl : α → Bool} {x : α → Int} (G : Gk ns L) (h : PI L cl x) (f : PF ns L x) : ∀ (r : Nat) (n : α), n ∈ ns → cl n = false → x n < NEV → rk ns x n ≤ r → x n ≤ 9 * r := by
  intro r
  induction r with
  | zero =>
    intro n mn hc lt hr
    obtain ⟨g, mg, h1⟩ := h.w n hc lt
    obtain ⟨d, md, h2⟩ := f n mn g mg
    have h3 := h1 d md
    cases d with
    | none => simpa [dN] using h2
    | some p =>
      obtain ⟨m, a⟩ := p
      obtain ⟨mm, a1, a9⟩ := G.a n g mg m a md
      unfold dN at h2 h3
      dsimp only at h2 h3
      split at h2
      · rename_i hpos
        rw [if_pos hpos] at h3
        have := rk_lt (x := x) (n := n) mm (by omega)
        omega
      · omega
  | succ r ih =>
    intro n mn hc lt hr
    obtain ⟨g, mg, h1⟩ := h.w n hc lt
    obtain ⟨d, md, h2⟩ := f n mn g mg
    have h3 := h1 d md
    cases d with
    | none =>
      have : x n ≤ 0 := by simpa [dN] using h2
      omega
    | some p =>
      obtain ⟨m, a⟩ := p
      obtain ⟨mm, a1, a9⟩ := G.a n g mg m a md
      unfold dN at h2 h3
      dsimp only at h2 h3
      split at h2
      · rename_i hpos
        rw [if_pos hpos] at h3
        cases hcm : cl m with
        | true =>
          have h4 := h.c m hcm
          have h5 : ALW = (-1000000 : Int) := rfl
          omega
        | false =>
          have h6 := rk_lt (x := x) (n := n) mm (by omega)
          have := ih m mm hcm (by omega) (by omega)
          omega
      · omega
theorem small36 {ns : List α} {L : α → List (List (Nd α))} {cl : α → Bool} {x : α → Int} (G : Gk ns L) (h : PI L cl x) (f : PF ns L x) (l5 : ns.length ≤ 5) {n : α} (mn : n ∈ ns) (hc : cl n = false) (lt : x n < NEV) : x n ≤ 36 := by
  have h1 := rk_len (x := x) mn
  have := small G h f 4 n mn hc lt (by omega)
  omega
/-! ### the law's numbers -/
structure LI (ns : List α) (cl : α → Bool) (x y : α → Int) (t : Nat) (D : List α) : Prop where
  lo : ∀ n ∈ ns, cl n = false → 1000 ≤ y n ∨ x n ≤ y n
  up : ∀ n ∈ ns, cl n = false → x n < NEV → (rk ns x n < t ∨ (rk ns x n ≤ t ∧ n ∈ D)) → y n ≤ x n
/-- the greatest of 0 and the days of a ground's needs on kinds that are not clean -/
structure IsV (cl : α → Bool) (y : α → Int) (g : List (Nd α)) (v : Int) : Prop where
  z : 0 ≤ v
  ge : ∀ m b, some (m, b) ∈ g → cl m = false → y m + b ≤ v
  at_ : v = 0 ∨ ∃ m b, some (m, b) ∈ g ∧ cl m = false ∧ v = y m + b
abbrev minV (a v : Int) : Int := if v < a then v else a
theorem minV_le (a v : Int) : minV a v ≤ a ∧ minV a v ≤ v := by
  unfold minV
  split <;> omega
theorem minV_or (a v : Int) : minV a v = a ∨ minV a v = v := by
  unfold minV
  split
  · exact .inr rfl
  · exact .inl rfl
theorem LI.step {ns : List α} {L : α → List (List (Nd α))} {cl : α → Bool} {x y : α → Int} {t : Nat} {D : List α} (G : Gk ns L) (h : PI L cl x) (f : PF ns L x) (l : LI ns cl x y t D) {n : α} (mn : n ∈ ns) {g : List (Nd α)} (mg : g ∈ L n) {v : Int} (hv : IsV cl y g v) :
    LI ns cl x (KaU.up y n (minV (y n) v)) t D ∧ (cl n = false → x n < NEV → (∀ d ∈ g, dN x d ≤ x n) → rk ns x n ≤ t → minV (y n) v ≤ x n) := by
  have hle := minV_le (y n) v
  refine ⟨⟨fun m mm hm => ?_, fun m mm hm lt hr => ?_⟩, fun hc lt hg hr => ?_⟩
  · by_cases e : m = n
    · subst e
      rw [up_same]
      rcases minV_or (y m) v with e1 | e1
      · rw [e1]
        exact l.lo m mm hm
      · rw [e1]
        obtain ⟨d, md, hd⟩ := f m mn g mg
        have z := hv.z
        cases d with
        | none =>
          have hd : x m ≤ 0 := hd
          exact .inr (by omega)
        | some p =>
          obtain ⟨q, a⟩ := p
          obtain ⟨mq, a1, a9⟩ := G.a m g mg q a md
          unfold dN at hd
          dsimp only at hd
          split at hd
          · rename_i hpos
            cases hcq : cl q with
            | true =>
              have h4 := h.c q hcq
              have h5 : ALW = (-1000000 : Int) := rfl
              omega
            | false =>
              have h6 := hv.ge q a md hcq
              rcases l.lo q mq hcq with h7 | h7
              · exact .inl (by omega)
              · exact .inr (by omega)
          · exact .inr (by omega)
    · rw [up_ne y _ e]
      exact l.lo m mm hm
  · have := l.up m mm hm lt hr
    by_cases e : m = n
    · subst e
      rw [up_same]
      omega
    · rw [up_ne y _ e]
      exact this
  · rcases hv.at_ with e | ⟨q, b, mq, hcq, e⟩
    · have := h.z n hc
      omega
    · obtain ⟨mq', b1, b9⟩ := G.a n g mg q b mq
      have h1 := hg _ mq
      unfold dN at h1
      dsimp only at h1
      have hq0 := h.z q hcq
      rw [if_pos (by omega)] at h1
      have h2 := rk_lt (x := x) (n := n) mq' (by omega)
      have h3 := l.up q mq' hcq (by omega) (.inl (by omega))
      omega
theorem LI.start {ns : List α} {cl : α → Bool} {x y : α → Int} (hy : ∀ n ∈ ns, y n = 1000) : LI ns cl x y 0 [] := ⟨fun n m _ => .inl (by rw [hy n m]; exact Int.le_refl _), fun n m _ _ r => by
  rcases r with r | ⟨_, r⟩
  · exact absurd r (Nat.not_lt_zero _)
  · cases r⟩
theorem LI.turn {ns : List α} {cl : α → Bool} {x y : α → Int} {t : Nat} (h : LI ns cl x y t ns) : LI ns cl x y (t + 1) [] := ⟨h.lo, fun n m hc lt r => by
  refine h.up n m hc lt (.inr ⟨?_, m⟩)
  rcases r with r | ⟨_, r⟩
  · omega
  · cases r⟩
/-- a kind's grounds are done -/
theorem LI.add {ns : List α} {L : α → List (List (Nd α))} {cl : α → Bool} {x y : α → Int} {t : Nat} {D : List α} (h : PI L cl x) (l : LI ns cl x y t D) {n : α} (hn : ∀ g ∈ L n, cl n = false → x n < NEV → (∀ d ∈ g, dN x d ≤ x n) → rk ns x n ≤ t → y n ≤ x n) : LI ns cl x y t (D ++ [n]) := ⟨l.lo, fun m mm hm lt hr => by
  rcases hr with r | ⟨r, md⟩
  · exact l.up m mm hm lt (.inl r)
  · rcases List.mem_append.mp md with z | z
    · exact l.up m mm hm lt (.inr ⟨r, z⟩)
    · rw [List.mem_singleton.mp z] at hm lt r ⊢
      obtain ⟨g, mg, hg⟩ := h.w n hm lt
      exact hn g mg hm lt hg r⟩
/-- behind all turns both say the same -/
theorem LI.done {ns : List α} {L : α → List (List (Nd α))} {cl : α → Bool} {x y : α → Int} {t : Nat} {D : List α} (G : Gk ns L) (h : PI L cl x) (f : PF ns L x) (l5 : ns.length ≤ 5) (l : LI ns cl x y t D) (ht : ns.length ≤ t) {n : α} (mn : n ∈ ns) (hc : cl n = false) : (x n < NEV → y n = x n ∧ y n < 1000) ∧ (¬ x n < NEV → ¬ y n < 1000) := by
  refine ⟨fun lt => ?_, fun nl => ?_⟩
  · have h1 := l.up n mn hc lt (.inl (by have := rk_len (x := x) mn; omega))
    have h2 := small36 G h f l5 mn hc lt
    rcases l.lo n mn hc with z | z
    · omega
    · exact ⟨by omega, by omega⟩
  · rcases l.lo n mn hc with z | z
    · omega
    · have : NEV = (2000000 : Int) := rfl
      omega
end
end KaU


set_option maxRecDepth 100000
set_option maxHeartbeats 2000000
namespace KaX
open PySem PySem.Builtin PySem.Builtin.BaseException
open PySem.W (Looks Frag findIn subIn looks_findIn looks_subIn clsIn)
section
variable {prog : Program} {w : World} {A : Around} {E : Value → Shared → Prop} {s : Shared} {K : Frag} {C e t0 : Addr}

/-- the class's own name, off the written part -/
theorem cdat {M : Model} {nm : Str} {cd : ClassData} (X : K.In s.heap) (hc : clsIn K C = some cd) (hn : cd.name = nm) {Q : String → Shared → Prop} (q : Q nm.toString s) :
    wpAny M A (typeNameWhole (.ref C)) Q E s := by
  unfold clsIn at hc
  split at hc
  · rename_i c' d' cd' sl' ho
    cases hc
    have hl := X _ _ ho
    unfold typeNameWhole classData
    refine wpAny_bind (wpAny_bind (wpAny_load hl ?_))
    subst hn
    exact wpAny_pure (wpAny_pure q)
  · cases hc

theorem tnm {M : Model} {nm : Str} {cd : ClassData} (x : ExcC K C e t0 s.heap) (hc : clsIn K C = some cd) (hn : cd.name = nm) {Q : String → Shared → Prop} (q : Q nm.toString s) :
    wpAny M A (typeNameOfWhole (.ref e)) Q E s := by
  unfold typeNameOfWhole shownTypeOf
  refine wpAny_bind (wpAny_bind (x.LT.here ?_))
  have hne : ((Value.ref C) == Value.type "builtin_function_or_method") = false := rfl
  rw [hne]
  simp only [Bool.false_eq_true, if_false]
  exact wpAny_pure (cdat x.1 hc hn q)

theorem bra {nm : Str} {cd : ClassData} {N T : Str} {u0 : Value} {d0 : Nat} {as : List Addr} {h₀ : Heap} {g : List Code} (b : Nat) (x : ExcC K C e t0 s.heap) (hc : clsIn K C = some cd) (hn : cd.name = nm) (hN : Str.ofString ((nm.toString.cutAt '.').getLastD "") = N)
    (ht : s.heap.TupAt t0 [u0]) (hu0 : ReprK prog w as h₀ d0 u0 T) (hg : A.guards = some g) (hcl : ∀ b ∈ as, Clear g b) (hu : A.units + d0 < cLine) (hk : ∀ b o, h₀.get? b = some o → s.heap.get? b = some o) {Q : Fin → Shared → Prop}
    (hq : ∀ u h' tk, (∀ b o, s.heap.get? b = some o → h'.get? b = some o) → Q (.done (.ret (.str (N ++ Str.ofString "(" ++ T ++ Str.ofString ")") u))) { s with heap := h', toks := tk })
    (hsz : b + (N ++ Str.ofString "(" ++ T ++ Str.ofString ")").length ≤ sizeLine) :
    wpAny (model prog w) A (bexcReprAt b ⟨[.ref e], []⟩) Q E s := by
  have e1 := hsz
  have hsz2 : (N ++ Str.ofString "(" ++ T ++ Str.ofString ")").length ≤ sizeLine := Nat.le_trans (Nat.le_add_left _ b) e1
  have eP : (Str.ofString "(").length = 1 := by rw [ofString_length]; rfl
  rw [strLen_append, strLen_append, strLen_append, eP] at e1
  have hpile : b + (N.length + 1) + T.length ≤ sizeLine := by omega
  unfold bexcReprAt
  refine wpAny_bind (wpAny_of_eq (a := ((Value.ref e : Value), ([] : List Value))) (by first | rfl | (simp only [slotArgs]; rfl)) ?_)
  refine wpAny_bind (tnm x hc hn ?_)
  refine wpAny_bind (bexcArgs_C x ht ?_)
  dsimp only
  rw [hN]
  refine wpAny_bind (wpAny_rule ?_)
  refine wpAny_bind (hu0 _ hpile A g E s _ hg hcl hu hk (fun h' tk' hk' => ?_))
  unfold retStr
  refine wpAny_bind (wpAny_mkStr (wpAny_pure ?_) hsz2)
  exact hq _ _ _ hk'
end
end KaX


set_option maxRecDepth 100000
set_option maxHeartbeats 2000000
namespace KaX
open PySem PySem.Builtin PySem.Builtin.BaseException
open PySem.W (Looks Frag findIn subIn looks_findIn looks_subIn clsIn)
section
variable {prog : Program} {w : World} {A : Around} {E : Value → Shared → Prop} {s : Shared} {K : Frag} {C e t0 : Addr}

theorem twinCall {nm : Str} {cd : ClassData} {N T : Str} {u0 : Value} {d0 : Nat} {as : List Addr} {h₀ : Heap} {g : List Code} (b : Nat) (x : ExcC K C e t0 s.heap) (hc : clsIn K C = some cd) (hn : cd.name = nm) (hN : Str.ofString ((nm.toString.cutAt '.').getLastD "") = N)
    (hB : subIn K (.ref C) (.type "BaseException") = some true)
    (ht : s.heap.TupAt t0 [u0]) (hu0 : ReprK prog w as h₀ d0 u0 T) (hg : A.guards = some g) (hcl : ∀ b ∈ as, Clear g b) (hu : A.units + 1 + d0 < cLine) (hk : ∀ b o, h₀.get? b = some o → s.heap.get? b = some o) {Q : Value → Shared → Prop}
    (hq : ∀ u h' tk, (∀ b o, s.heap.get? b = some o → h'.get? b = some o) → Q (.str (N ++ Str.ofString "(" ++ T ++ Str.ofString ")") u) { s with heap := h', toks := tk })
    (hsz : b + (N ++ Str.ofString "(" ++ T ++ Str.ofString ")").length ≤ sizeLine) :
    wpAny (model prog w) A (call (.builtin "BaseException.__repr__.under") [.ref e, rawInt b]) Q E s := by
  refine wpAny_call (codeAny_call_builtin F.plain_bexc_repr_under F.entry_bexc_repr_under ?_)
  rw [F.check_bexc_repr_under]
  refine wpAny_pure ?_
  unfold «BaseException.__repr__.under»
  rw [reprTwin_eq]
  refine wpAny_bind ?_
  refine PySem.W.check_slot (i := "BaseException.__repr__") (owner := "BaseException") (n := "__repr__") (by decide +kernel) (by decide +kernel) (x.LI hB) (F.args_bexc_repr _) ?_
  exact wpAny_mono (bra b x hc hn hN ht hu0 (by exact hg) hcl (show A.units + 1 + d0 < cLine by omega) hk (fun u h' tk k => hq u h' tk k) hsz) (fun _ _ z => z) fun _ _ z => z

theorem ReprK_exc {nm : Str} {cd : ClassData} {N T : Str} {u0 : Value} {d0 : Nat} {as : List Addr} {h₀ : Heap} (x : ExcC K C e t0 h₀) (hc : clsIn K C = some cd) (hn : cd.name = nm) (hN : Str.ofString ((nm.toString.cutAt '.').getLastD "") = N)
    (hB : subIn K (.ref C) (.type "BaseException") = some true) (hR : findIn K (.ref C) "__repr__" = some (some (.builtin "BaseException.__repr__")))
    (ht : h₀.TupAt t0 [u0]) (hu0 : ReprK prog w as h₀ d0 u0 T) : ReprK prog w as h₀ (d0 + 2) (.ref e) (N ++ Str.ofString "(" ++ T ++ Str.ofString ")") := by
  intro base hb A g E s Q hg hcl hu hk hQ
  have x1 : ExcC K C e t0 s.heap := by
    obtain ⟨X, o, vs, ho, hcc, hd, h0⟩ := x
    exact ⟨X.keeps hk, o, vs, hk _ _ ho, hcc, hd, h0⟩
  have t1 : s.heap.TupAt t0 [u0] := by
    obtain ⟨ot, k, hto, h1, h2⟩ := ht
    exact ⟨ot, k, hk _ _ hto, h1, h2⟩
  have hf : Looks (model prog w) s.heap (typeLookup (.ref C) "__repr__") (some (.builtin "BaseException.__repr__")) := looks_findIn x1.1 hR
  refine wpAny_pyReprUnder_ref (by omega) ?_
  unfold pyReprObjUnder pyReprObjBy
  refine wpAny_bind (wpAny_cRoomFor (by omega) ?_)
  refine wpAny_bind ?_
  unfold specialOf
  refine wpAny_bind (x1.LT.here (hf.here ?_))
  simp only [Option.isNone_some, Bool.false_eq_true, if_false]
  refine wpAny_bind ?_
  simp only [callSpecialIfBoundBy?, bindSpecialIfBound?]
  refine wpAny_holding (wpAny_bind (wpAny_bind ?_))
  unfold specialOf
  refine wpAny_bind (x1.LT.here (hf.here ?_))
  simp only [F.excStr_Exception.repr.bind]
  refine wpAny_bind (wpAny_askSetting (wpAny_ite ?_))
  have fin : wpAny (model prog w) A (call (.builtin "BaseException.__repr__.under") [.ref e, rawInt base]) (fun v s' => ∃ x u, v = .str x u ∧ Q x s') E s :=
    twinCall base x1 hc hn hN hB t1 hu0 hg hcl (by omega) hk (fun u h' tk k => ⟨_, _, rfl, hQ h' tk k⟩) hb
  have htw : reprUnder? (.builtin "BaseException.__repr__") = some (.builtin "BaseException.__repr__.under") := by kernel_rfl
  have fin2 : wpAny (model prog w) A (do
            let r ← call (.builtin "BaseException.__repr__.under") [.ref e, rawInt base]
            pure (some r)) (fun a s' => wpAny (model prog w) A (match a with
              | some r => do
                let c ← isInstance r (Value.type "str")
                if c = true then pure r
                  else do
                    let n ← typeNameOf r
                    raiseErrorMade "TypeError" (toString "__repr__ returned non-string (type " ++ toString n ++ toString ")")
              | none => unsupported "repr:special-get-raises") (fun v s' => ∃ x u, v = .str x u ∧ Q x s') E s') E s := by
    refine wpAny_bind (wpAny_mono fin (fun v s' hv => ?_) fun _ _ z => z)
    obtain ⟨y, u, rfl, hq⟩ := hv
    refine wpAny_pure ?_
    exact wpAny_bind (wpAny_isInstance (T := "str") (b := true) rfl isSubtype_str_str (wpAny_pure ⟨_, _, rfl, hq⟩))
  split
  · refine wpAny_bind (wpAny_pure (wpAny_pure ?_))
    simp only [htw]
    exact fin2
  · refine wpAny_tryCatch (wpAny_bind (wpAny_pure (wpAny_pure ?_)))
    simp only [htw]
    exact fin2
end
end KaX


set_option maxRecDepth 100000
set_option maxHeartbeats 2000000
/-! a def's promise where the guards around are known -/
namespace KaG
open PySem PySem.Spec PyProof.Rows L2

structure GR (k : Nat) (A : Around) : Prop where
  gd : A.guards = some []
  dp : A.depth + 3 * k + 5 < recursionLimit
  un : A.units + 16 * k + 200 < cLine
theorem GR.low {j k : Nat} {A : Around} (r : GR k A) (h : j ≤ k) : GR j A := ⟨r.gd, by have := r.dp; omega, by have := r.un; omega⟩
theorem GR.into {k : Nat} {A : Around} (r : GR (k + 1) A) (env : Env) (h : (A.deeper env).guards = A.guards := by rfl) : GR k (A.deeper env) :=
  ⟨by rw [h]; exact r.gd, by have := r.dp; show A.depth + 1 + 3 * k + 5 < _; omega, by have := r.un; show A.units + 3 + 16 * k + 200 < _; omega⟩
theorem GR.room {k : Nat} {A : Around} (r : GR k A) (h : A.handled = none) : Room k A := ⟨h, r.dp, r.un⟩

/-- the promise: c tells whether nothing is handled around -/
structure FnG (c : Bool) (P : Program) (w : World) (K : PySem.W.Frag) (mg : Str → Option Value) (base : Heap) (CX : CXT) (k : Nat) (f : Addr) (fd : FuncData) (ps : List Str) (sp : Sp) : Prop where
  len : ∀ vs H Q E, sp vs H Q E → vs.length = ps.length
  run : ∀ (A : Around) (outer : List Env) (s : Shared) (H : Hp) (args : Args) (us : List Value) (vs : List V) (Q : VK) (E : XK), GR k A → (c = true → A.handled = none) → Env0 P w K mg base A outer s H →
    BindsTo s fd args (ps.zip us) → Vals vs us → sp vs H Q E → codeAny (model P w) A (.call (.ref f) args) (CR CX outer P w H s Q E) s

/-- the same context under another look at what runs around -/
def recx (X : Cx) (A : Around) (c : Bool) : Cx := { X with A := A, calm := c }
theorem inv_re {X : Cx} {pins : List (Addr × Obj)} {σ : L2.St} {H : Hp} {s : Shared} (I : Inv X pins σ H s) (A : Around) (c : Bool) (hf : A.frames = some X.stack) (hc : c = true → A.handled = none) : Inv (recx X A c) pins σ H s :=
  let o := I.ok
  ⟨⟨o.mod, o.kind, o.glob, o.blt, o.above, o.inj, o.has, o.cab, hc, hf, o.stk, o.exf, o.bs, o.bsz, o.noex, o.exfs, o.funs, o.frf⟩, I.os, I.bare, I.base, I.loc, I.cell, I.free, I.freeC, I.pin, I.hok, I.len⟩

/-- the context of such a def's body -/
def cxG (c : Bool) (CX : CXT) (P : Program) (w : World) (K : PySem.W.Frag) (mg : Str → Option Value) (base : Heap) (N : List Str) (qual : Str) (scope : Scope) (f : Addr) (cd : Value) (A : Around) (outer : List Env) (s : Shared) (H : Hp) (E : XK) : Cx :=
  { cxOf CX P w K mg base N qual scope f cd A outer s H E with calm := c }

theorem fnG_of {c : Bool} {CX : CXT} {P : Program} {w : World} {K : PySem.W.Frag} {mg : Str → Option Value} {base : Heap} {k : Nat} {x qual : Str} {st : Stmt} {f : Addr} {fd : FuncData} {N ps : List Str} {sp : Sp} (F : Fun K x qual st f fd) (S : FnScope N ps (defScope st))
    (len : ∀ vs H Q E, sp vs H Q E → vs.length = ps.length)
    (hbody : ∀ (cdv : Value) (A : Around) (outer : List Env) (s : Shared) (H : Hp) (vs : List V) (Q : VK) (E : XK), GR k (A.deeper (envOfC qual (defScope st) s.heap.objs.size f cdv)) → (c = true → A.handled = none) → sp vs H Q E →
      ∃ t, PSs (cxG c CX P w K mg base N qual (defScope st) f cdv A outer s H E) (defBody st) t ∧ t { nx := fun _ H' => Q .non H', rt := Q } (start N vs) H) :
    FnG c P w K mg base CX (k + 1) f fd ps sp := by
  obtain ⟨oc, od, kV, doc, pm, an, cdv, ct, osl, rfl, lk, hcd⟩ := F.ex
  refine ⟨len, fun A outer s H args us vs Q E hr hcm e0 hb r hsp => ?_⟩
  have hl := len _ _ _ _ hsp
  have KX : K.In s.heap := e0.mod.kin.keeps fun b o e => (e0.bs b o e).1
  have lim : s.heap.NoLimit := e0.mod.nolimit.keeps fun b o e => (e0.bs b o e).1
  have hkind : ∀ y ∈ ps.zip us, (defScope st).names.lookup y.1 = some .local ∨ ((defScope st).names.lookup y.1 = some .cell ∧ ((cellsFrom (s.heap.objs.size + 1) (defScope st).names []).lookup y.1).isSome = true) := by
    rintro ⟨n, v⟩ hy
    rcases S.par n (List.of_mem_zip hy).1 with q | q
    · exact Or.inl q
    · exact Or.inr ⟨q, PySem.W.cellsFrom_some _ _ _ (.inl q)⟩
  refine codeAny_call_function (by have := hr.dp; omega) (KX _ _ lk) rfl S.co S.gen rfl (PySem.W.codeRec_of KX hcd) (hb _ _ _ _ ?_)
  refine wpAny_newFunctionEnv_cells S.kind hkind fun env he s1 y => ?_
  subst he
  refine ⟨lim.keeps y.toInCall.keep, codeAny_func ?_⟩
  obtain ⟨t, ht, hq⟩ := hbody cdv A outer s H vs Q E (hr.into _) hcm hsp
  have I0 : Inv (cxOf CX P w K mg base N qual (defScope st) f cdv ({ A with handled := none }) outer s H E) [] (start N vs) H s1 :=
    inv_start S rfl ⟨e0.frames, e0.mod, e0.bs, e0.bsz, e0.funs, e0.frf, e0.hok, e0.bare⟩ hl r y
  have I : Inv (cxG c CX P w K mg base N qual (defScope st) f cdv A outer s H E) [] (start N vs) H s1 := by
    have J := inv_re I0 (A.deeper (envOfC qual (defScope st) s.heap.objs.size f cdv)) c (Around.frames_deeper e0.frames) (fun z => hcm z)
    exact ⟨⟨J.ok.mod, J.ok.kind, J.ok.glob, J.ok.blt, J.ok.above, J.ok.inj, J.ok.has, J.ok.cab, J.ok.hd, J.ok.frames, J.ok.stk, J.ok.exf, J.ok.bs, J.ok.bsz, J.ok.noex, J.ok.exfs, J.ok.funs, J.ok.frf⟩, J.os, J.bare, J.base, J.loc, J.cell, J.free, J.freeC, J.pin, J.hok, J.len⟩
  refine wpAny_mono (ht.run [] s1 (start N vs) H _ I hq) (fun fl s' hs => ?_) fun e s' hs => hs
  have fin : ∀ {σ' : L2.St} {H' : Hp} {v : V} {u : Value}, Inv (cxG c CX P w K mg base N qual (defScope st) f cdv A outer s H E) [] σ' H' s' → RelV v u → Q v H' → CE outer P w H s Q u s' := by
    intro σ' H' v u J rv q
    exact ⟨v, H', J.os, J.bare, J.base, J.hok, rv, q⟩
  cases fl with
  | ret u => obtain ⟨v, σ', H', J, rv, q⟩ := hs; exact fin J rv q
  | next => obtain ⟨σ', H', J, q⟩ := hs; exact fin (v := V.non) (u := Value.none) J rfl q
  | brk => obtain ⟨_, _, _, q⟩ := hs; exact q.elim
  | cont => obtain ⟨_, _, _, q⟩ := hs; exact q.elim
end KaG


set_option maxRecDepth 100000
set_option maxHeartbeats 2000000
/-! what is shown: the text of a value, by the abstract heap -/
namespace KaG
open PySem PySem.Spec PyProof.Rows L2
/-- an exception at a, of the class at C, its own dict (none as yet | at d), its arguments at t1 -/
def exw (a C : Addr) (d : Option Addr) (t1 : Addr) : HO := .ext fun h => h.get? a = some ({ cls := .ref C, dict := d, data := .fields #[.ref t1, .none, .none, .none, .bool false, .none] } : Obj)
theorem exw_at {P : Program} {w : World} {H : Hp} {h : Heap} {a C t1 : Addr} {d : Option Addr} (hok : HOk P w H h) (e : H a = some (exw a C d t1)) : h.get? a = some ({ cls := .ref C, dict := d, data := .fields #[.ref t1, .none, .none, .none, .bool false, .none] } : Obj) := by
  have x : ObjOk P w H h a (.ext fun h => h.get? a = some ({ cls := .ref C, dict := d, data := .fields #[.ref t1, .none, .none, .none, .bool false, .none] } : Obj)) := hok a _ e
  exact x.1
theorem exw_ok {P : Program} {w : World} {H : Hp} {h : Heap} {a C t1 : Addr} {d : Option Addr} (e : h.get? a = some ({ cls := .ref C, dict := d, data := .fields #[.ref t1, .none, .none, .none, .bool false, .none] } : Obj)) : ObjOk P w H h a (exw a C d t1) :=
  ⟨e, ⟨_, e⟩, fun h1 h2 z k => k _ z⟩

mutual
inductive Sh (H : Hp) (CW : Addr) (NW : Str) : List Addr → Nat → V → Str → Prop
  | non {as d} : Sh H CW NW as d .non "None"
  | bl {as d} (b : Bool) : Sh H CW NW as d (.bl b) (if b then "True" else "False")
  | int {as d} (i : Int) (h : i.natAbs.log2 < 1920) : Sh H CW NW as d (.int i) (toString i : String)
  | str {as d} (x : Str) : Sh H CW NW as d (.str x) (reprText x)
  | lst {as as' d a xs ts} (e : H a = some (.lst xs)) (ha : a ∈ as') (hs : ∀ b ∈ as, b ∈ as') (hn : a ∉ as) (hi : ShA H CW NW as d xs ts) : Sh H CW NW as' (d + 1) (.ref a) (listText ts)
  | tup {as as' d a xs ts} (e : H a = some (.tup xs)) (ha : a ∈ as') (hs : ∀ b ∈ as, b ∈ as') (hn : a ∉ as) (hi : ShA H CW NW as d xs ts) : Sh H CW NW as' (d + 1) (.ref a) (tupleText ts)
  | dct {as as' d a kvs ps} (e : H a = some (.dK kvs)) (ha : a ∈ as') (hs : ∀ b ∈ as, b ∈ as') (hn : a ∉ as) (hi : ShD H CW NW as d kvs ps) : Sh H CW NW as' (d + 1) (.ref a) (dictText ps)
  | exc {as as' d a dd t1 v t} (e : H a = some (exw a CW dd t1)) (et : H t1 = some (.tup [v])) (ha : a ∈ as') (ht : t1 ∈ as') (hd : ∀ b, dd = some b → b ∈ as' ∧ ∃ fs, H b = some (exd b fs)) (hs : ∀ b ∈ as, b ∈ as') (hi : Sh H CW NW as d v t) : Sh H CW NW as' (d + 2) (.ref a) (NW ++ Str.ofString "(" ++ t ++ Str.ofString ")")
inductive ShA (H : Hp) (CW : Addr) (NW : Str) : List Addr → Nat → List V → List Str → Prop
  | nil {as d} : ShA H CW NW as d [] []
  | cons {as d v t vs ts} (h : Sh H CW NW as d v t) (r : ShA H CW NW as d vs ts) : ShA H CW NW as d (v :: vs) (t :: ts)
inductive ShD (H : Hp) (CW : Addr) (NW : Str) : List Addr → Nat → List (Key × V) → List Str → Prop
  | nil {as d} : ShD H CW NW as d [] []
  | cons {as d x v t kvs ps} (h : Sh H CW NW as d v t) (r : ShD H CW NW as d kvs ps) : ShD H CW NW as d ((Sum.inr x, v) :: kvs) ((reprText x ++ ": " ++ t) :: ps)
end

/-- what the written part says of the class of such exceptions -/
structure WrK (K : PySem.W.Frag) (CW : Addr) (NW : Str) : Prop where
  cl : ∃ cd : ClassData, PySem.W.clsIn K CW = some cd ∧ Str.ofString ((cd.name.toString.cutAt '.').getLastD "") = NW
  ex : PySem.W.subIn K (.ref CW) (.type "BaseException") = some true
  rp : PySem.W.findIn K (.ref CW) "__repr__" = some (some (.builtin "BaseException.__repr__"))
  eq : PySem.W.findIn K (.ref CW) "__eq__" = some (some (.builtin "object.__eq__"))
  ob : PySem.W.subIn K (.ref CW) (.type "object") = some true

section
variable {P : Program} {w : World} {K : PySem.W.Frag} {H : Hp} {CW : Addr} {NW : Str} {h : Heap}
theorem ReprK.str' {as : List Addr} {d : Nat} (x : Str) (t : Tok) : ReprK P w as h d (.str x t) (reprText x) := by
  intro base hb
  exact (ReprK.of_is (ReprIs.str x t (Nat.le_trans (Nat.le_add_left _ base) hb)) as h d) base hb
mutual
theorem Sh.run (T : WrK K CW NW) (X : K.In h) (hok : HOk P w H h) : ∀ {as : List Addr} {d : Nat} {v : V} {t : Str}, Sh H CW NW as d v t → ∀ u, RelV v u → ReprK P w as h d u t
  | _, _, _, _, .non, u, r => by cases (show u = Value.none from r); exact ReprK.of_is ReprIs.none _ _ _
  | _, _, _, _, .bl b, u, r => by cases (show u = Value.bool b from r); exact ReprK.of_is (ReprIs.bool b) _ _ _
  | _, _, _, _, .int i hi, u, r => by
    obtain ⟨tk, q⟩ := (show ∃ t, u = Value.int i t from r)
    cases q
    exact ReprK.of_is (ReprIs.int tk hi) _ _ _
  | _, _, _, _, .str x, u, r => by
    obtain ⟨tk, q⟩ := (show ∃ t, u = Value.str x t from r)
    cases q
    exact ReprK.str' x tk
  | _, _, _, _, .lst (as := as0) (a := a) (xs := xs) e ha hs hn hi, u, r => by
    cases (show u = Value.ref a from r)
    obtain ⟨_, its, n, rv, ho⟩ := (show ObjOk P w H h a (.lst xs) from hok a _ e)
    have hA := ShA.run T X hok hi its rv
    refine ReprK.more (as := a :: as0) ?_ (fun b hb => ?_)
    · cases its with
      | nil =>
        cases hA
        rw [listText_nil]
        exact (ReprK.listEmpty ho rfl rfl).level_le (Nat.le_succ _)
      | cons x l => exact ReprK.list ho rfl rfl hn (by simpa using hA.length_eq) (fun i y q => hA.item i y (by simpa using q))
    · rcases List.mem_cons.mp hb with z | z
      · rw [z]; exact ha
      · exact hs b z
  | _, _, _, _, .tup (as := as0) (a := a) (xs := xs) e ha hs hn hi, u, r => by
    cases (show u = Value.ref a from r)
    obtain ⟨_, its, rv, o, ho, hc, n, hd⟩ := (show ObjOk P w H h a (.tup xs) from hok a _ e)
    have hA := ShA.run T X hok hi its rv
    refine ReprK.more (as := a :: as0) (ReprK.tuple ho hc hd hn (by simpa using hA)) (fun b hb => ?_)
    rcases List.mem_cons.mp hb with z | z
    · rw [z]; exact ha
    · exact hs b z
  | _, _, _, _, .dct (as := as0) (a := a) (kvs := kvs) e ha hs hn hi, u, r => by
    cases (show u = Value.ref a from r)
    obtain ⟨_, hsys, vs, kv, o, es, ep, ho, hx, hd, _, hp, _⟩ := (show ObjOk P w H h a (.dK kvs) from hok a _ e)
    have hE := ShD.run T X hok hi vs kv es.toList hp
    refine ReprK.more (as := a :: as0) (ReprK.dict ho hx.1 hd hsys hn hE) (fun b hb => ?_)
    rcases List.mem_cons.mp hb with z | z
    · rw [z]; exact ha
    · exact hs b z
  | _, _, _, _, .exc (a := a) (t1 := t1) (v := v) e et ha ht _ hs hi, u, r => by
    cases (show u = Value.ref a from r)
    have ho := exw_at hok e
    obtain ⟨_, its, rv, o, hto, hc, n, hd⟩ := (show ObjOk P w H h t1 (.tup [v]) from hok t1 _ et)
    cases rv with
    | cons r1 r2 =>
      cases r2
      obtain ⟨cd, hcd, hN⟩ := T.cl
      have x : ExcC K CW a t1 h := ⟨X, _, _, ho, rfl, rfl, rfl⟩
      exact KaX.ReprK_exc x hcd rfl hN T.ex T.rp ⟨o, n, hto, hc, hd⟩ ((Sh.run T X hok hi _ r1).more hs)
theorem ShA.run (T : WrK K CW NW) (X : K.In h) (hok : HOk P w H h) : ∀ {as : List Addr} {d : Nat} {vs : List V} {ts : List Str}, ShA H CW NW as d vs ts → ∀ us, Vals vs us → ReprAllK P w as h d us ts
  | _, _, _, _, .nil, us, r => by cases r; exact .nil
  | _, _, _, _, .cons h1 h2, us, r => by
    cases r with
    | cons r1 r2 => exact .cons (Sh.run T X hok h1 _ r1) (ShA.run T X hok h2 _ r2)
theorem ShD.run (T : WrK K CW NW) (X : K.In h) (hok : HOk P w H h) : ∀ {as : List Addr} {d : Nat} {kvs : List (Key × V)} {ps : List Str}, ShD H CW NW as d kvs ps → ∀ vs, KV kvs vs → ∀ es, Pairs (mixKind P w) es vs → ReprEntriesK P w as h d es ps
  | _, _, _, _, .nil, vs, r, es, hp => by
    cases r
    cases hp
    exact .nil
  | _, _, _, _, .cons (x := x) h1 h2, vs, r, es, hp => by
    cases r with
    | cons r1 r2 =>
      rename_i q1 q2
      cases hp with
      | cons hk hv hp2 =>
        obtain ⟨e1, rv⟩ := r1
        have e1' : Sum.inr x = q1.1 := e1
        rw [← e1', mixKind_is] at hk
        rcases keyIs_shape hk with ⟨i, tk, z, _⟩ | ⟨y, tk, z, ek⟩
        · cases z
        · cases z
          refine .cons ?_ (Sh.run T X hok h1 _ (by rw [hv]; exact rv)) (ShD.run T X hok h2 _ r2 _ hp2)
          rw [ek]
          exact ReprK.str' x tk
end
end
end KaG


set_option maxRecDepth 100000
set_option maxHeartbeats 2000000
namespace KaG
open PySem PySem.Spec PyProof.Rows L2
section
variable {H H' : Hp} {CW : Addr} {NW : Str}
mutual
theorem Sh.wide : ∀ {as bs : List Addr} {d e : Nat} {v : V} {t : Str}, Sh H CW NW as d v t → (∀ b ∈ as, b ∈ bs) → d ≤ e → Sh H CW NW bs e v t
  | _, _, _, _, _, _, .non, _, _ => .non
  | _, _, _, _, _, _, .bl b, _, _ => .bl b
  | _, _, _, _, _, _, .int i h, _, _ => .int i h
  | _, _, _, _, _, _, .str x, _, _ => .str x
  | _, _, _, e + 1, _, _, .lst x1 x2 x3 x4 x5, k, hd => .lst x1 (k _ x2) (fun b z => k b (x3 b z)) x4 (ShA.wide x5 (fun _ z => z) (Nat.le_of_succ_le_succ hd))
  | _, _, _, e + 1, _, _, .tup x1 x2 x3 x4 x5, k, hd => .tup x1 (k _ x2) (fun b z => k b (x3 b z)) x4 (ShA.wide x5 (fun _ z => z) (Nat.le_of_succ_le_succ hd))
  | _, _, _, e + 1, _, _, .dct x1 x2 x3 x4 x5, k, hd => .dct x1 (k _ x2) (fun b z => k b (x3 b z)) x4 (ShD.wide x5 (fun _ z => z) (Nat.le_of_succ_le_succ hd))
  | _, _, _, e + 2, _, _, .exc x1 x2 x3 x4 x7 x5 x6, k, hd => .exc x1 x2 (k _ x3) (k _ x4) (fun b z => ⟨k _ (x7 b z).1, (x7 b z).2⟩) (fun b z => k b (x5 b z)) (Sh.wide x6 (fun _ z => z) (Nat.le_of_succ_le_succ (Nat.le_of_succ_le_succ hd)))
theorem ShA.wide : ∀ {as bs : List Addr} {d e : Nat} {vs : List V} {ts : List Str}, ShA H CW NW as d vs ts → (∀ b ∈ as, b ∈ bs) → d ≤ e → ShA H CW NW bs e vs ts
  | _, _, _, _, _, _, .nil, _, _ => .nil
  | _, _, _, _, _, _, .cons h r, k, hd => .cons (Sh.wide h k hd) (ShA.wide r k hd)
theorem ShD.wide : ∀ {as bs : List Addr} {d e : Nat} {vs : List (Key × V)} {ts : List Str}, ShD H CW NW as d vs ts → (∀ b ∈ as, b ∈ bs) → d ≤ e → ShD H CW NW bs e vs ts
  | _, _, _, _, _, _, .nil, _, _ => .nil
  | _, _, _, _, _, _, .cons h r, k, hd => .cons (Sh.wide h k hd) (ShD.wide r k hd)
end
mutual
theorem Sh.fr : ∀ {as : List Addr} {d : Nat} {v : V} {t : Str}, Sh H CW NW as d v t → (∀ b ∈ as, H' b = H b) → Sh H' CW NW as d v t
  | _, _, _, _, .non, _ => .non
  | _, _, _, _, .bl b, _ => .bl b
  | _, _, _, _, .int i h, _ => .int i h
  | _, _, _, _, .str x, _ => .str x
  | _, _, _, _, .lst x1 x2 x3 x4 x5, k => .lst ((k _ x2).trans x1) x2 x3 x4 (ShA.fr x5 fun b z => k b (x3 b z))
  | _, _, _, _, .tup x1 x2 x3 x4 x5, k => .tup ((k _ x2).trans x1) x2 x3 x4 (ShA.fr x5 fun b z => k b (x3 b z))
  | _, _, _, _, .dct x1 x2 x3 x4 x5, k => .dct ((k _ x2).trans x1) x2 x3 x4 (ShD.fr x5 fun b z => k b (x3 b z))
  | _, _, _, _, .exc x1 x2 x3 x4 x7 x5 x6, k => .exc ((k _ x3).trans x1) ((k _ x4).trans x2) x3 x4 (fun b z => ⟨(x7 b z).1, let ⟨fs, q⟩ := (x7 b z).2; ⟨fs, (k _ (x7 b z).1).trans q⟩⟩) x5 (Sh.fr x6 fun b z => k b (x5 b z))
theorem ShA.fr : ∀ {as : List Addr} {d : Nat} {vs : List V} {ts : List Str}, ShA H CW NW as d vs ts → (∀ b ∈ as, H' b = H b) → ShA H' CW NW as d vs ts
  | _, _, _, _, .nil, _ => .nil
  | _, _, _, _, .cons h r, k => .cons (Sh.fr h k) (ShA.fr r k)
theorem ShD.fr : ∀ {as : List Addr} {d : Nat} {vs : List (Key × V)} {ts : List Str}, ShD H CW NW as d vs ts → (∀ b ∈ as, H' b = H b) → ShD H' CW NW as d vs ts
  | _, _, _, _, .nil, _ => .nil
  | _, _, _, _, .cons h r, k => .cons (Sh.fr h k) (ShD.fr r k)
end
theorem Sh.same {as : List Addr} {d : Nat} {v : V} {t : Str} (h : Sh H CW NW as d v t) (s : Same H H') (k : ∀ b ∈ as, H b ≠ none) : Sh H' CW NW as d v t := h.fr fun b hb => by
  cases e : H b with
  | none => exact absurd e (k b hb)
  | some o => rw [s b o e]
theorem ShA.same {as : List Addr} {d : Nat} {vs : List V} {ts : List Str} (h : ShA H CW NW as d vs ts) (s : Same H H') (k : ∀ b ∈ as, H b ≠ none) : ShA H' CW NW as d vs ts := h.fr fun b hb => by
  cases e : H b with
  | none => exact absurd e (k b hb)
  | some o => rw [s b o e]
theorem ShA.len : ∀ {as : List Addr} {d : Nat} {vs : List V} {ts : List Str}, ShA H CW NW as d vs ts → ts.length = vs.length
  | _, _, _, _, .nil => rfl
  | _, _, _, _, .cons _ r => by rw [List.length_cons, List.length_cons, r.len]
theorem ShA.get : ∀ {as : List Addr} {d : Nat} {vs : List V} {ts : List Str} {i : Nat} {v : V}, ShA H CW NW as d vs ts → vs[i]? = some v → ∃ t, t ∈ ts ∧ Sh H CW NW as d v t
  | _, _, _, _, i, _, .nil, e => by simp at e
  | _, _, _, _, 0, _, .cons (t := t) h r, e => by
    have e' := Option.some.inj e
    subst e'
    exact ⟨t, List.mem_cons_self .., h⟩
  | _, _, _, _, i + 1, _, .cons h r, e => by
    obtain ⟨t, m, q⟩ := ShA.get r (show _ = some _ from e)
    exact ⟨t, List.mem_cons_of_mem _ m, q⟩
theorem ShA.app : ∀ {as : List Addr} {d : Nat} {vs ws : List V} {ts us : List Str}, ShA H CW NW as d vs ts → ShA H CW NW as d ws us → ShA H CW NW as d (vs ++ ws) (ts ++ us)
  | _, _, _, _, _, _, .nil, q => q
  | _, _, _, _, _, _, .cons h r, q => .cons h (r.app q)
end
end KaG


set_option maxRecDepth 100000
set_option maxHeartbeats 2000000
namespace KaG
open PySem PySem.Spec PyProof.Rows L2
/-! ### lengths of texts -/
theorem piled_le {n : Nat} : ∀ {ts : List Str}, (∀ t ∈ ts, t.length ≤ n) → piled ts ≤ ts.length * (n + 2)
  | [], _ => by rw [piled_nil]; exact Nat.zero_le _
  | t :: r, h => by
    have h1 := h t (List.mem_cons_self ..)
    have h2 := piled_le (ts := r) fun u hu => h u (List.mem_cons_of_mem _ hu)
    rw [piled_cons, List.length_cons, Nat.succ_mul]
    omega
theorem listText_le (ts : List Str) : (listText ts).length ≤ piled ts + 2 := by
  cases ts with
  | nil => rw [listText_nil]; decide
  | cons t r =>
    have h := textFrom_length_pos r 1 (("[" : Str) ++ (if (0 : Nat) > 0 then ", " else "" : String) ++ t) (Nat.succ_pos 0)
    have e : ((("[" : Str) ++ (if (0 : Nat) > 0 then ", " else "" : String) ++ t)).length = 1 + t.length := by
      rw [strLen_append, strLen_append]; rfl
    have hX : (listText (t :: r)).length = (textFrom 0 "[" (t :: r)).length + 1 := by
      show (textFrom 0 "[" (t :: r) ++ "]").length = _
      rw [strLen_append]; rfl
    have hY : (textFrom 0 "[" (t :: r)).length = (textFrom 1 (("[" : Str) ++ (if (0 : Nat) > 0 then ", " else "" : String) ++ t) r).length := rfl
    rw [hX, hY, h, e, piled_cons]; omega
theorem join_le (ts : List Str) : (Str.join ", " ts).length ≤ piled ts := by
  by_cases h : ts = []
  · subst h; exact Nat.zero_le _
  · have := join_length_add ts h
    omega
theorem tupleText_le (ts : List Str) : (tupleText ts).length ≤ piled ts + 3 := by
  unfold tupleText
  rw [strLen_append, strLen_append]
  have e1 : ((("(" : String) : Str)).length = 1 := rfl
  have e3 : (((if ts.length == 1 then ",)" else ")" : String) : Str)).length ≤ 2 := by split <;> decide
  have := join_le ts
  omega
theorem dictText_le (ts : List Str) : (dictText ts).length ≤ piled ts + 2 := by
  unfold dictText
  rw [strLen_append, strLen_append]
  have e1 : ((("{" : String) : Str)).length = 1 := rfl
  have e2 : ((("}" : String) : Str)).length = 1 := rfl
  have := join_le ts
  omega

/-! ### what a step may do beside: new objects, and the bag's own list -/
/-- the bag at bg: four items, the last one the list of what is drawn from -/
def Bag (H : Hp) (bg : Addr) : Prop := ∃ (c st i : Int) (b : Addr) (ns : List Int), H bg = some (.lst [.int c, .int st, .int i, .ref b]) ∧ H b = some (.lst (ns.map V.int)) ∧ 0 ≤ c ∧ 0 ≤ i ∧ ns.length ≤ 100
/-- b is the bag's own list of cells -/
def Inn (H : Hp) (bg b : Addr) : Prop := ∃ c st i : Int, H bg = some (.lst [.int c, .int st, .int i, .ref b])
structure Ext (bg : Addr) (H H' : Hp) : Prop where
  keep : ∀ b o, b ≠ bg → H b = some o → H' b = some o
  bag : Bag H' bg
  inn : ∀ b, Inn H bg b → Inn H' bg b
theorem Bag.there {H : Hp} {bg : Addr} (h : Bag H bg) : H bg ≠ none := by
  obtain ⟨c, st, i, b, ns, h1, _⟩ := h
  rw [h1]
  exact fun z => nomatch z
theorem Bag.same {H H' : Hp} {bg : Addr} (h : Bag H bg) (s : Same H H') : Bag H' bg := by
  obtain ⟨c, st, i, b, ns, h1, h2, h3⟩ := h
  exact ⟨c, st, i, b, ns, s _ _ h1, s _ _ h2, h3⟩
theorem same_upd {H : Hp} {p : Addr} {o : HO} (h : H p = none) : Same H (upd H p o) := fun b u e => by
  rw [upd_ne (ne_of_none e h)]
  exact e
theorem Same.refl' {H : Hp} : Same H H := fun _ _ e => e
theorem Same.tr {H H1 H2 : Hp} (s : Same H H1) (t : Same H1 H2) : Same H H2 := fun b o e => t b o (s b o e)
theorem Ext.of_same {bg : Addr} {H H' : Hp} (h : Bag H bg) (s : Same H H') : Ext bg H H' := ⟨fun b o _ e => s b o e, h.same s, fun _ ⟨c, st, i, e⟩ => ⟨c, st, i, s _ _ e⟩⟩
theorem Ext.trans {bg : Addr} {H H1 H2 : Hp} (a : Ext bg H H1) (b : Ext bg H1 H2) : Ext bg H H2 := ⟨fun x o n e => b.keep x o n (a.keep x o n e), b.bag, fun x h => b.inn x (a.inn x h)⟩
theorem Ext.new {bg p : Addr} {H H1 : Hp} {o : HO} (a : Ext bg H H1) (h : H1 p = none) : Ext bg H (upd H1 p o) := a.trans (Ext.of_same a.bag (same_upd h))
theorem Ext.stay {bg : Addr} {H H' : Hp} (a : Ext bg H H') {b : Addr} (h : H b ≠ none) : H' b ≠ none := by
  by_cases e : b = bg
  · rw [e]; exact a.bag.there
  · cases q : H b with
    | none => exact absurd q h
    | some o => rw [a.keep b o e q]; exact fun z => nomatch z
/-- as are new between H and H' -/
def Nw (H H' : Hp) (as : List Addr) : Prop := ∀ b ∈ as, H b = none ∧ H' b ≠ none
section
variable {CW : Addr} {NW : Str} {bg : Addr} {H H1 H2 : Hp}
theorem Sh.ext {as : List Addr} {d : Nat} {v : V} {t : Str} (h : Sh H1 CW NW as d v t) (hb : bg ∉ as) (s : Ext bg H1 H2) (k : ∀ b ∈ as, H1 b ≠ none) : Sh H2 CW NW as d v t := h.fr fun b m => by
  cases e : H1 b with
  | none => exact absurd e (k b m)
  | some o => exact s.keep b o (fun z => hb (z ▸ m)) e
theorem ShA.ext {as : List Addr} {d : Nat} {vs : List V} {ts : List Str} (h : ShA H1 CW NW as d vs ts) (hb : bg ∉ as) (s : Ext bg H1 H2) (k : ∀ b ∈ as, H1 b ≠ none) : ShA H2 CW NW as d vs ts := h.fr fun b m => by
  cases e : H1 b with
  | none => exact absurd e (k b m)
  | some o => exact s.keep b o (fun z => hb (z ▸ m)) e
theorem Nw.out {as : List Addr} (n : Nw H H1 as) {b : Addr} (h : H b ≠ none) : b ∉ as := fun m => h (n b m).1
theorem Nw.ext {as : List Addr} (n : Nw H H1 as) (s : Ext bg H1 H2) : Nw H H2 as := fun b m => ⟨(n b m).1, s.stay (n b m).2⟩
theorem Nw.before {as : List Addr} (n : Nw H1 H2 as) (s : Ext bg H H1) : Nw H H2 as := fun b m => ⟨by
  cases e : H b with
  | none => rfl
  | some o => exact absurd (n b m).1 (s.stay (by rw [e]; exact fun z => nomatch z)), (n b m).2⟩
end

/-! ### good values, one by one -/
/-- an expression that gives a good value: told by its text's length, its depth -/
def tG (CW : Addr) (NW : Str) (i : Nat) (bg : Addr) (d n : Nat) : TE := fun σ H Q => (Bag H bg ∧ σ[i]? = some (some (.ref bg))) ∧ ∀ v H' as t, Ext bg H H' → Sh H' CW NW as d v t → t.length ≤ n → Nw H H' as → Q v H'
def tGs (CW : Addr) (NW : Str) (i : Nat) (bg : Addr) (d n m : Nat) : TA := fun σ H Q => (Bag H bg ∧ σ[i]? = some (some (.ref bg))) ∧ ∀ vs H' as ts, Ext bg H H' → ShA H' CW NW as d vs ts → (∀ t ∈ ts, t.length ≤ n) → vs.length = m → Nw H H' as → Q vs H'
theorem pe_imp {X : Cx} {e : Expr} {t t' : TE} (h : PE X e t) (k : ∀ σ H Q, t' σ H Q → t σ H Q) : PE X e t' := ⟨fun pins s σ H Q I q => h.run pins s σ H Q I (k σ H Q q)⟩
theorem pa_imp {X : Cx} {es : List Expr} {t t' : TA} (h : PA X es t) (k : ∀ σ H Q, t' σ H Q → t σ H Q) : PA X es t' := ⟨fun pos pins s σ H Q I q => h.run pos pins s σ H Q I (k σ H Q q)⟩
section
variable {X : Cx} {CW : Addr} {NW : Str} {i : Nat} {bg : Addr} {d n m : Nat} {e : Expr} {es : List Expr} {pos : Pos}
theorem pa_g0 : PA X [] (tGs CW NW i bg d n 0) := pa_imp pa_nil fun σ H Q ⟨⟨b, _⟩, k⟩ => k [] H [] [] (Ext.of_same b Same.refl') .nil (fun _ z => nomatch z) rfl (fun _ z => nomatch z)
theorem pa_g1 (h : PE X e (tG CW NW i bg d n)) (r : PA X es (tGs CW NW i bg d n m)) (hs : starEach (e :: es) X.env = (false, eval e X.env) :: starEach es X.env := by rfl) : PA X (e :: es) (tGs CW NW i bg d n (m + 1)) := by
  refine pa_imp (pa_cons h r hs) fun σ H Q z => ?_
  obtain ⟨⟨b, p⟩, k⟩ := z
  refine ⟨⟨b, p⟩, fun v H1 as t E1 s1 l1 n1 => ⟨⟨E1.bag, p⟩, fun vs H2 bs ts E2 s2 l2 hm n2 => ?_⟩⟩
  have b1 : bg ∉ as := n1.out b.there
  refine k (v :: vs) H2 (as ++ bs) (t :: ts) (E1.trans E2) (.cons ((s1.ext b1 E2 fun b m => (n1 b m).2).wide (fun _ z => List.mem_append_left _ z) (Nat.le_refl _)) (s2.wide (fun _ z => List.mem_append_right _ z) (Nat.le_refl _)))
    (fun u hu => ?_) (by rw [List.length_cons, hm]) (fun x hx => ?_)
  · rcases List.mem_cons.mp hu with q | q
    · rw [q]; exact l1
    · exact l2 u q
  · rcases List.mem_append.mp hx with q | q
    · exact n1.ext E2 x q
    · exact n2.before E1 x q
theorem pe_gw {d' n' : Nat} (h : PE X e (tG CW NW i bg d n)) (hd : d ≤ d' := by decide) (hn : n ≤ n' := by decide) : PE X e (tG CW NW i bg d' n') :=
  pe_imp h fun σ H Q ⟨p, k⟩ => ⟨p, fun v H' as t E s l w => k v H' as t E (s.wide (fun _ z => z) hd) (Nat.le_trans l hn) w⟩
theorem pe_gleaf {v : V} {t : Str} (h : PE X e (tC v)) (s : ∀ H, Sh H CW NW [] d v t) (hl : t.length ≤ n) : PE X e (tG CW NW i bg d n) :=
  pe_imp h fun σ H Q ⟨⟨b, _⟩, k⟩ => k v H [] t (Ext.of_same b Same.refl') (s H) hl (fun _ z => nomatch z)
theorem pe_gtup {x1} (h : PA X es (tGs CW NW i bg d n m)) (hz : m ≤ 1000 := by decide) : PE X (.Tuple es x1 pos) (tG CW NW i bg (d + 1) (m * (n + 2) + 3)) := by
  refine pe_imp (pe_tup h) fun σ H Q z => ?_
  obtain ⟨p, k⟩ := z
  refine ⟨p, fun vs H1 as ts E s l hm w => ⟨Nat.le_of_lt (small1000 (by rw [hm]; exact hz)), fun q hq => ?_⟩⟩
  have hl := s.len
  have hp := piled_le l
  rw [hl, hm] at hp
  have nq : q ∉ as := fun z => (w q z).2 hq
  refine k (.ref q) _ (q :: as) (tupleText ts) (E.new hq) (.tup upd_same (List.mem_cons_self ..) (fun b z => List.mem_cons_of_mem _ z) nq (s.same (same_upd hq) fun b z => (w b z).2)) (Nat.le_trans (tupleText_le ts) (by omega)) (fun b z => ?_)
  rcases List.mem_cons.mp z with y | y
  · rw [y, upd_same]
    refine ⟨?_, fun z => nomatch z⟩
    cases e : H q with
    | none => rfl
    | some o => exact absurd hq (E.stay (by rw [e]; exact fun z => nomatch z))
  · exact w.ext (Ext.of_same E.bag (same_upd hq)) b y
theorem pe_glst (h : PA X es (tGs CW NW i bg d n m)) (hz : m ≤ 1000 := by decide) : PE X (.List es pos) (tG CW NW i bg (d + 1) (m * (n + 2) + 2)) := by
  refine pe_imp (pe_lst h) fun σ H Q z => ?_
  obtain ⟨p, k⟩ := z
  refine ⟨p, fun vs H1 as ts E s l hm w => ⟨Nat.le_of_lt (small1000 (by rw [hm]; exact hz)), fun q hq => ?_⟩⟩
  have hl := s.len
  have hp := piled_le l
  rw [hl, hm] at hp
  have nq : q ∉ as := fun z => (w q z).2 hq
  refine k (.ref q) _ (q :: as) (listText ts) (E.new hq) (.lst upd_same (List.mem_cons_self ..) (fun b z => List.mem_cons_of_mem _ z) nq (s.same (same_upd hq) fun b z => (w b z).2)) (Nat.le_trans (listText_le ts) (by omega)) (fun b z => ?_)
  rcases List.mem_cons.mp z with y | y
  · rw [y, upd_same]
    refine ⟨?_, fun z => nomatch z⟩
    cases e : H q with
    | none => rfl
    | some o => exact absurd hq (E.stay (by rw [e]; exact fun z => nomatch z))
  · exact w.ext (Ext.of_same E.bag (same_upd hq)) b y
theorem pe_gd0 : PE X (.Dict [] [] pos) (tG CW NW i bg 1 2) := by
  refine pe_imp pe_dnewK fun σ H Q z => ?_
  obtain ⟨⟨b, _⟩, k⟩ := z
  intro q hq
  refine k (.ref q) _ [q] (dictText []) ((Ext.of_same b Same.refl').new hq) (.dct (as := []) upd_same (List.mem_cons_self ..) (fun _ z => nomatch z) (fun z => nomatch z) .nil) (by decide) (fun x z => ?_)
  rw [List.mem_singleton.mp z, upd_same]
  exact ⟨hq, fun z => nomatch z⟩
theorem pe_gd1 {y : Str} {j pk} (h : PE X e (tG CW NW i bg d n)) (hy : (reprText y).length ≤ 10) : PE X (.Dict [some (.Constant (.str y) j pk)] [e] pos) (tG CW NW i bg (d + 1) (n + 20)) := by
  refine pe_imp (pe_disp (pps_cons pe_str h pps_nil) (by rfl) (by rfl) (by simp) (by show 1 ≤ 15; decide)) fun σ H Q z => ?_
  obtain ⟨⟨b, p⟩, k⟩ := z
  intro q hq
  have E0 : Ext bg H (upd H q (.dK [])) := (Ext.of_same b Same.refl').new hq
  refine ⟨⟨E0.bag, p⟩, fun v H1 as t E s l w => ?_⟩
  have nq : q ∉ as := w.out (by rw [upd_same]; exact fun z => nomatch z)
  have qb : q ≠ bg := fun z => b.there (z ▸ hq)
  have e1 : H1 q = some (.dK []) := E.keep q _ qb upd_same
  refine ⟨e1, [(Sum.inr y, v)], rfl, by simp, ?_⟩
  have km : mergeK [] [((Sum.inr y : Key), v)] = [(Sum.inr y, v)] := rfl
  rw [km]
  have kk : ∀ x, x ≠ q → upd H1 q (HO.dK [(Sum.inr y, v)]) x = H1 x := fun x hx => upd_ne hx
  have s2 : Sh (upd H1 q (HO.dK [(Sum.inr y, v)])) CW NW as d v t := s.fr fun x hx => kk x fun z => nq (z ▸ hx)
  have E2 : Ext bg H (upd H1 q (HO.dK [(Sum.inr y, v)])) := by
    have E1 := E0.trans E
    refine ⟨fun x o n e => ?_, ?_, fun x h => ?_⟩
    · rw [kk x (ne_of_none e hq)]
      exact E1.keep x o n e
    · obtain ⟨c, st, i', b', ns, h1, h2, h3⟩ := E1.bag
      refine ⟨c, st, i', b', ns, by rw [kk bg qb.symm]; exact h1, ?_, h3⟩
      rw [kk b' fun z => ?_]
      · exact h2
      · rw [z, e1] at h2
        cases h2
    · obtain ⟨c, st, i', e⟩ := E1.inn x h
      exact ⟨c, st, i', by rw [kk bg qb.symm]; exact e⟩
  refine k (.ref q) _ (q :: as) _ E2 (.dct upd_same (List.mem_cons_self ..) (fun b z => List.mem_cons_of_mem _ z) nq (.cons s2 .nil)) ?_ (fun x z => ?_)
  · refine Nat.le_trans (dictText_le _) ?_
    rw [piled_cons, piled_nil, strLen_append, strLen_append]
    have e1 : (((": " : String) : Str)).length = 2 := rfl
    omega
  · rcases List.mem_cons.mp z with y | y
    · rw [y, upd_same]
      exact ⟨hq, fun z => nomatch z⟩
    · rw [kk x fun z => nq (z ▸ y)]
      exact w.before E0 x y
end
end KaG


set_option maxRecDepth 100000
set_option maxHeartbeats 2000000
namespace KaG
open PySem PySem.Spec PyProof.Rows L2
/-- the read of xs[i] += e -/
def rGetL (K : PySem.W.Frag) : V → V → Hp → VK → Prop := fun o i H Q => ∃ p xs k v, o = .ref p ∧ i = .int k ∧ SqL K H p xs ∧ 0 ≤ k ∧ k < 1000 ∧ xs[k.toNat]? = some v ∧ Q v H
theorem get_listP {X : Cx} : PGet X (rGetL X.K) := by
  intro pins s σ H o i ov iv Q I ro ri h
  obtain ⟨p, xs, k, v, rfl, rfl, hq, h0, h1, e, q⟩ := h
  cases ro
  obtain ⟨t, rfl⟩ := ri
  obtain ⟨its, r, pl, hz⟩ := I.list hq
  obtain ⟨w, ew, rw'⟩ := r.get e
  exact wpAny_getItem_list pl.isList h0 (by omega) (by simpa using ew) ⟨v, H, I, rw', q⟩
def top (i : Nat) : Stmt := PySem.Challenge.pw_goneyet_k89_from_when_answers_are_fresh.main.body.getD i (.Pass ⟨0, 0, 0, 0⟩)
abbrev sBag : Stmt := top 26
abbrev sTake : Stmt := top 27
abbrev sSome : Stmt := top 28
abbrev sAlike : Stmt := top 29
abbrev sMixed : Stmt := top 30
abbrev sNamed : Stmt := top 31
abbrev sNumbers : Stmt := top 32
abbrev sNeed : Stmt := top 33
abbrev sGround : Stmt := top 34
abbrev sAny : Stmt := top 35
abbrev sPlanted : Stmt := top 36
abbrev sMore : Stmt := top 37
abbrev sThreaded : Stmt := top 38
abbrev sRulebook : Stmt := top 39
theorem scTake : FnScope ["bag", "upto", "cell", "stirred", "value", "begin", "second"] ["bag", "upto"] (defScope sTake) := ⟨rfl, rfl, rfl, by decide +kernel, rfl, by decide +kernel, by decide +kernel⟩
theorem scBag : FnScope ["script"] ["script"] (defScope sBag) := ⟨rfl, rfl, rfl, by decide +kernel, rfl, by decide +kernel, by decide +kernel⟩
theorem scSome : FnScope ["bag", "things"] ["bag", "things"] (defScope sSome) := ⟨rfl, rfl, rfl, by decide +kernel, rfl, by decide +kernel, by decide +kernel⟩
theorem scAlike : FnScope ["found", "due"] ["found", "due"] (defScope sAlike) := ⟨rfl, rfl, rfl, by decide +kernel, rfl, by decide +kernel, by decide +kernel⟩

theorem seqGo {a b : TS} {D : Ends} {σ : L2.St} {H : Hp} (R : TS → Ends → Prop) (hr : R b D) (hm : R b D → a { D with nx := fun σ' H' => b D σ' H' } σ H) : tSeq a b D σ H := hm hr
theorem bag_ne {H : Hp} {bg b : Addr} {c st i : Int} {ns : List Int} (e1 : H bg = some (.lst [.int c, .int st, .int i, .ref b])) (e2 : H b = some (.lst (ns.map V.int))) : b ≠ bg := by
  intro z
  rw [z, e1] at e2
  have e3 := HO.lst.inj (Option.some.inj e2)
  match ns, e3 with
  | [], e3 => simp at e3
  | [_], e3 => simp at e3
  | [_, _], e3 => simp at e3
  | [_, _, _], e3 => simp at e3
  | _ :: _ :: _ :: _ :: _, e3 => simp at e3
theorem Ext.put {H H1 : Hp} {bg b : Addr} {c st i c' st' i' : Int} {ns : List Int} (E : Ext bg H H1) (e1 : H1 bg = some (.lst [.int c, .int st, .int i, .ref b])) (e2 : H1 b = some (.lst (ns.map V.int))) (c0 : 0 ≤ c') (i0 : 0 ≤ i') (nl : ns.length ≤ 100) :
    Ext bg H (upd H1 bg (.lst [.int c', .int st', .int i', .ref b])) :=
  ⟨fun x o hx e => by rw [upd_ne hx]; exact E.keep x o hx e, ⟨c', st', i', b, ns, upd_same, by rw [upd_ne (bag_ne e1 e2)]; exact e2, c0, i0, nl⟩, fun x h => by
    obtain ⟨c2, s2, i2, z⟩ := E.inn x h
    rw [e1] at z
    cases z
    exact ⟨c', st', i', upd_same⟩⟩
theorem cut_ints (ns : List Int) (lo hi : Option Int) : ∃ ms : List Int, cutV (ns.map V.int) lo hi = ms.map V.int ∧ ms.length ≤ ns.length := by
  refine ⟨(ns.drop (HT.sIx (ns.map V.int).length 0 lo)).take (HT.sIx (ns.map V.int).length (ns.map V.int).length hi - HT.sIx (ns.map V.int).length 0 lo), ?_, ?_⟩
  · unfold cutV
    rw [← List.map_drop, ← List.map_take]
  · rw [List.length_take, List.length_drop]
    omega
theorem head_int : ∀ ms : List Int, ∃ z, atI (ms.map V.int ++ [V.int 0]) 0 = some (V.int z)
  | [] => ⟨0, rfl⟩
  | z :: _ => ⟨z, atI_nat (j := 0) rfl⟩
structure TxtB (mg : Str → Option Value) : Prop where
  abs : mg "abs" = none
  len : mg "len" = none
  int : mg "int" = none
  repr : mg "repr" = none
  isin : mg "isinstance" = none
  range : mg "range" = none
  list : mg "list" = none
  verr : mg "ValueError" = none
section
variable {P : Program} {w : World} {K : PySem.W.Frag} {mg : Str → Option Value} {base : Heap}
def spTake : Sp := fun vs H Q _ => ∃ (bg : Addr) (n : Int), vs = [.ref bg, .int n] ∧ Bag H bg ∧ 0 < n ∧ n ≤ 1000000 ∧ ∀ (z : Int) (H' : Hp), Ext bg H H' → 0 ≤ z → z < n → Q (.int z) H'
theorem bx (i : Nat) {X : Cx} {e : Expr} {pos : Pos} {te : TE} (h : PE X e te) {j : Int} {jp ip : _} : PE X (.Subscript e (.Constant (.int j) jp ip) pos) (tOp (rIxL X.K) te (tC (.int j))) := pe_ix ix_list h pe_int (fun _ _ => rfl)
theorem ok_take {f : Addr} {fd : FuncData} (F : Fun K "_law_take" "_law_take" sTake f fd) (T : TxtB mg) : FnOk P w K mg base CX0 1 f fd ["bag", "upto"] spTake := by
  refine F.ok scTake (fun vs H Q E h => ?_) (fun cdv A outer s H vs Q E hr h => ?_)
  · obtain ⟨bg, n, rfl, _⟩ := h
    rfl
  · obtain ⟨bg, n, rfl, hB, h0, h1, k⟩ := h
    refine ⟨_, pss_cons (ps_if (pt_cmpR op_eq (pe_ix ix_list (pv 0) pe_int (fun _ _ => rfl)) pe_int (nomark _))
        (pss_cons (ps_set (i := 2) scTake.nd rfl (Or.inl rfl) (pe_ix ix_list (pe_op op_cat (pe_slice sl_list (pe_ix ix_list (pv 0) pe_int (fun _ _ => rfl)) (po_some (pe_ix ix_list (pv 0) pe_int (fun _ _ => rfl))) po_none) (pe_lst (pa_cons pe_int pa_nil))) pe_int (fun _ _ => rfl)))
        (pss_cons (ps_augS (pv 0) pe_int get_listP pe_int ip_add set_list)
        (pss_cons (ps_if (pt_cmpR op_ge (pv 2) (pe_op op_pow pe_int pe_int) (nomark _)) (pss_one (ps_asg (pv 2) (pg_sub (pv 0) pe_int set_list))) pss_nil)
        (pss_cons (ps_set (i := 3) scTake.nd rfl (Or.inl rfl) (pe_op op_add (pe_op op_add (pe_op op_mul (pe_ix ix_list (pv 0) pe_int (fun _ _ => rfl)) pe_int) (pe_op op_mod (pe_callTy call_int1 (by rfl) T.int (by decide +kernel) (pa_cons (pv 2) pa_nil)) pe_int)) (pe_op op_mul pe_int (pe_ix ix_list (pv 0) pe_int (fun _ _ => rfl)))))
        (pss_one (ps_asg (pe_op op_mod (pe_callTy call_int1 (by rfl) T.int (by decide +kernel) (pa_cons (pv 3) pa_nil)) pe_int) (pg_sub (pv 0) pe_int set_list))))))) pss_nil)
      (pss_cons (ps_if (pt_cmpR op_gt (pe_ix ix_list (pv 0) pe_int (fun _ _ => rfl)) pe_int (nomark _))
        (pss_cons (ps_set (i := 4) scTake.nd rfl (Or.inl rfl) (pe_op op_mod (pe_callTy call_int1 (by rfl) T.int (by decide +kernel) (pa_cons (pe_ix ix_list (pv 0) pe_int (fun _ _ => rfl)) pa_nil)) (pv 1)))
        (pss_cons (ps_asg (pe_op op_fdivN (pe_callTy call_int1 (by rfl) T.int (by decide +kernel) (pa_cons (pe_ix ix_list (pv 0) pe_int (fun _ _ => rfl)) pa_nil)) (pv 1)) (pg_sub (pv 0) pe_int set_list))
        (pss_one (ps_ret (pv 4))))) pss_nil)
      (pss_cons (ps_set (i := 5) scTake.nd rfl (Or.inl rfl) (pe_op op_mod (pe_callTy call_int1 (by rfl) T.int (by decide +kernel) (pa_cons (pe_op op_mul (pe_op op_add (pe_ix ix_list (pv 0) pe_int (fun _ _ => rfl)) pe_int) pe_int) pa_nil)) pe_int))
      (pss_cons (ps_set (i := 6) scTake.nd rfl (Or.inl rfl) (pe_op op_mod (pe_callTy call_int1 (by rfl) T.int (by decide +kernel) (pa_cons (pe_op op_mul (pe_op op_mod (pe_callTy call_int1 (by rfl) T.int (by decide +kernel) (pa_cons (pe_op op_mul (pv 5) (pv 5)) pa_nil)) pe_int) pe_int) pa_nil)) pe_int))
      (pss_one (ps_ret (pe_op op_mod (pe_callTy call_int1 (by rfl) T.int (by decide +kernel) (pa_cons (pe_op op_fdivN (pv 6) pe_int) pa_nil)) (pv 1))))))), ?_⟩
    refine seqGo (fun b D => ∀ (x2 x3 : Option V) (H' : Hp), Ext bg H H' → b D [some (.ref bg), some (.int n), x2, x3, none, none, none] H') (fun x2 x3 H1 E1 => ?rest) (fun rest => ?_)
    case rest =>
      obtain ⟨c, st, i, b, ns, e1, e2, c0, i0, nl⟩ := E1.bag
      refine ⟨_, rfl, _, _, _, _, rfl, rfl, SqL.of e1, rfl, _, _, rfl, rfl, _, rfl, ite2 (fun hc => ?_) fun hc => ?_⟩
      · refine ⟨_, rfl, _, _, _, _, rfl, rfl, SqL.of e1, rfl, .inl ⟨_, rfl, _, rfl, _, _, rfl, rfl, h0, ?_⟩⟩
        refine ⟨_, rfl, _, _, _, _, rfl, rfl, SqL.of e1, rfl, .inl ⟨_, rfl, _, rfl, _, _, rfl, rfl, ⟨by omega, by omega⟩, _, rfl, ⟨_, _, _, 0, rfl, rfl, e1, rfl, ?_⟩⟩⟩
        refine ⟨_, rfl, ?_⟩
        exact k _ _ (E1.put e1 e2 (Int.fdiv_nonneg c0 (Int.le_of_lt h0)) i0 nl) (Int.emod_nonneg _ (by omega)) (Int.emod_lt_of_pos _ h0)
      · refine ⟨_, rfl, _, _, _, _, rfl, rfl, SqL.of e1, rfl, _, _, rfl, rfl, _, _, rfl, rfl, .inr ⟨by decide, by decide⟩, .inl ⟨_, rfl, _, _, rfl, rfl, by show (0 : Int) < 1000000007; decide, ?_⟩⟩
        refine ⟨_, rfl, _, rfl, _, _, rfl, rfl, .inl ⟨?_, ?_⟩, .inl ⟨_, rfl, _, _, rfl, rfl, by show (0 : Int) < 998244353; decide, _, _, rfl, rfl, .inr ⟨by decide, by decide⟩, .inl ⟨_, rfl, _, _, rfl, rfl, by show (0 : Int) < 998244353; decide, ?_⟩⟩⟩
        · have := Int.emod_nonneg ((st + 1) * 39373) (show (1000000007 : Int) ≠ 0 by decide); omega
        · have := Int.emod_lt_of_pos ((st + 1) * 39373) (show (0 : Int) < 1000000007 by decide); omega
        · refine ⟨_, rfl, _, _, rfl, rfl, ⟨by decide, by decide⟩, .inl ⟨_, rfl, _, rfl, _, _, rfl, rfl, h0, ?_⟩⟩
          exact k _ _ E1 (Int.emod_nonneg _ (by omega)) (Int.emod_lt_of_pos _ h0)
    obtain ⟨c, st, i, b, ns, e1, e2, c0, i0, nl⟩ := hB
    refine ⟨_, rfl, _, _, _, _, rfl, rfl, SqL.of e1, rfl, rfl, _, rfl, ite2 (fun hc => ?_) fun hc => ?_⟩
    · refine ⟨_, rfl, _, _, _, _, rfl, rfl, SqL.of e1, rfl, ?_⟩
      refine ⟨_, rfl, _, _, _, _, rfl, rfl, SqL.of e1, rfl, _, rfl, _, _, rfl, SqL.of e2, fun p1 hp1 => ⟨by show 1 ≤ sizeLine; decide, fun p2 hp2 => ?_⟩⟩
      obtain ⟨ms, em, hm⟩ := cut_ints ns (some i) none
      rw [em]
      have n21 : p1 ≠ p2 := fun z => by
        rw [← z, em, upd_same] at hp2
        cases hp2
      have s1 : Same H (upd H p1 (.lst (ms.map V.int))) := same_upd hp1
      rw [em] at hp2
      have s2 : Same H (upd (upd H p1 (.lst (ms.map V.int))) p2 (.lst [.int 0])) := KaG.Same.tr s1 (same_upd hp2)
      refine ⟨_, _, _, _, rfl, rfl, by rw [upd_ne n21, upd_same], upd_same, by rw [List.length_map]; exact Nat.le_of_lt (small1000 (by simp only [List.length_cons, List.length_nil]; omega)), fun p3 hp3 => ?_⟩
      obtain ⟨z, hz⟩ := head_int ms
      refine ⟨_, _, _, _, rfl, rfl, SqL.of upd_same, hz, ?_⟩
      have s3 := KaG.Same.tr s2 (same_upd (o := .lst (ms.map V.int ++ [V.int 0])) hp3)
      have B3 := Bag.same ⟨c, st, i, b, ns, e1, e2, c0, i0, nl⟩ s3
      have E3 := Ext.of_same ⟨c, st, i, b, ns, e1, e2, c0, i0, nl⟩ s3
      have f1 := s3 _ _ e1
      have f2 := s3 _ _ e2
      generalize upd (upd (upd H p1 (.lst (ms.map V.int))) p2 (.lst [.int 0])) p3 (.lst (ms.map V.int ++ [V.int 0])) = H3 at *
      refine ⟨_, rfl, _, _, _, _, rfl, rfl, SqL.of f1, by decide, by decide, rfl, _, _, rfl, rfl, ⟨_, _, _, 2, rfl, rfl, f1, rfl, ?_⟩⟩
      have E4 := E3.put (c' := c) (st' := st) (i' := i + 1) f1 f2 c0 (by omega) nl
      have g1 : upd H3 bg (.lst [.int c, .int st, .int (i + 1), .ref b]) bg = some (.lst [.int c, .int st, .int (i + 1), .ref b]) := upd_same
      have g2 : upd H3 bg (.lst [.int c, .int st, .int (i + 1), .ref b]) b = some (.lst (ns.map V.int)) := by rw [upd_ne (bag_ne e1 e2)]; exact f2
      dsimp only
      refine seqGo (fun b' D => ∀ (c' : Int) (H' : Hp), 0 ≤ c' → Ext bg H H' → H' bg = some (.lst [.int c', .int st, .int (i + 1), .ref b]) → H' b = some (.lst (ns.map V.int)) →
          b' D [some (.ref bg), some (.int n), some (.int z), none, none, none, none] H') (fun c' H5 c0' E5 x1 x2 => ?_) (fun rest2 => ?_)
      · refine ⟨_, rfl, _, _, _, _, rfl, rfl, SqL.of x1, rfl, _, _, rfl, rfl, .inr ⟨by decide, by decide⟩, _, rfl, .inl ⟨_, rfl, _, _, rfl, rfl, by show (0 : Int) < 2147483647; decide, _, _, rfl, rfl, ?_⟩⟩
        refine ⟨_, rfl, _, _, _, _, rfl, rfl, SqL.of x1, rfl, _, _, rfl, rfl, .inl ⟨by decide, by decide⟩, _, _, rfl, rfl, ?_⟩
        refine ⟨_, rfl, .inl ⟨_, rfl, _, _, rfl, rfl, by show (0 : Int) < 2147483647; decide, _, rfl, _, _, _, 1, rfl, rfl, x1, rfl, ?_⟩⟩
        exact rest _ _ _ (E5.put x1 x2 c0' (by omega) nl)
      · refine ⟨_, rfl, _, _, rfl, rfl, ⟨by decide, by decide, by decide⟩, _, _, rfl, rfl, _, rfl, ite2 (fun hg => ?_) fun hg => ?_⟩
        · have hg' : (10 : Int) ^ (18 : Int).toNat ≤ z := of_decide_eq_true hg
          have z0 : 0 ≤ z := Int.le_trans (by decide) hg'
          exact ⟨_, rfl, _, rfl, _, _, _, 0, rfl, rfl, g1, rfl, rest2 z _ z0 (E4.put g1 g2 z0 (by omega) nl) upd_same (by rw [upd_ne (bag_ne e1 e2)]; exact g2)⟩
        · exact rest2 c _ c0 E4 g1 g2
    · exact rest _ _ H (Ext.of_same ⟨c, st, i, b, ns, e1, e2, c0, i0, nl⟩ Same.refl')
end
end KaG


set_option maxRecDepth 100000
set_option maxHeartbeats 2000000
namespace KaG
open PySem PySem.Spec PyProof.Rows L2
section
variable {P : Program} {w : World} {K : PySem.W.Frag} {mg : Str → Option Value} {base : Heap}
structure Ct (P : Program) (w : World) (K : PySem.W.Frag) (mg : Str → Option Value) (base : Heap) (x : Str) (k : Nat) (ps : List Str) (sp : Sp) (f : Addr) (fd : FuncData) : Prop where
  G : FnOk P w K mg base CX0 k f fd ps sp
  m : mg x = some (.ref f)
  kp : PySem.W.keepIn K (.ref f) = true
  b : Binds K fd ps []
def spSome : Sp := fun vs H Q _ => ∃ (bg l : Addr) (xs : List V), vs = [.ref bg, .ref l] ∧ Bag H bg ∧ l ≠ bg ∧ H l = some (.lst xs) ∧ 0 < xs.length ∧ xs.length ≤ 1000 ∧ ∀ (i : Nat) (v : V) (H' : Hp), xs[i]? = some v → Ext bg H H' → Q v H'
theorem ok_some {f fT : Addr} {fd fdT : FuncData} (F : Fun K "_law_some" "_law_some" sSome f fd) (T : TxtB mg) (C : Ct P w K mg base "_law_take" 1 ["bag", "upto"] spTake fT fdT) : FnOk P w K mg base CX0 2 f fd ["bag", "things"] spSome := by
  refine F.ok scSome (fun vs H Q E h => ?_) (fun cdv A outer s H vs Q E hr h => ?_)
  · obtain ⟨bg, l, xs, rfl, _⟩ := h
    rfl
  · obtain ⟨bg, l, xs, rfl, hB, hne, hl, h0, h1, k⟩ := h
    refine ⟨_, pss_one (ps_ret (pe_ix ix_list (pv 1) (pe_call C.G hr (by rfl) C.m C.kp C.b .nil pass0 (pa_cons (pv 0) (pa_cons (pe_callB call_len_seq (by rfl) T.len PySem.boot_len (pa_cons (pv 1) pa_nil)) pa_nil))) (fun _ _ => rfl))), ?_⟩
    refine ⟨_, rfl, _, rfl, _, rfl, _, _, rfl, .inl (SqL.of hl), bg, (xs.length : Int), rfl, hB, by omega, by omega, fun z H' E1 z0 z1 => ?_⟩
    have hz : z.toNat < xs.length := by omega
    have ez : xs[z.toNat]? = some xs[z.toNat] := by simp [hz]
    have ea : atI xs z = some xs[z.toNat] := by
      have q := atI_nat ez
      rwa [show ((z.toNat : Nat) : Int) = z by omega] at q
    exact ⟨l, xs, z, _, rfl, rfl, SqL.of (E1.keep l _ hne hl), ea, k _ _ _ ez E1⟩
def spBag (K : PySem.W.Frag) : Sp := fun vs H Q _ => ∃ (a : Addr) (ns : List Int), vs = [.ref a] ∧ SqL K H a (ns.map V.int) ∧ ns.length ≤ 63 ∧ ∀ (bg : Addr) (H' : Hp), Same H H' → H bg = none → Bag H' bg → Q (.ref bg) H'
theorem scBag2 : FnScope ["script", "cell"] ["script"] (defScope sBag) := ⟨rfl, rfl, rfl, by decide +kernel, rfl, by decide +kernel, by decide +kernel⟩
theorem ok_bag {f : Addr} {fd : FuncData} (F : Fun K "_law_bag" "_law_bag" sBag f fd) (T : TxtB mg) : FnOk P w K mg base CX0 1 f fd ["script"] (spBag K) := by
  refine F.ok scBag2 (fun vs H Q E h => ?_) (fun cdv A outer s H vs Q E hr h => ?_)
  · obtain ⟨a, ns, rfl, _⟩ := h
    rfl
  · obtain ⟨a, ns, rfl, hS, hn, k⟩ := h
    refine ⟨_, pss_one (ps_ret (pe_lst (pa_cons pe_int (pa_cons pe_int (pa_cons pe_int (pa_cons (pe_lc (own := [("cell", 1)]) (g := gName 1) (by rfl) scBag2.nd (pi_list (pe_slice sl_list (pv 0) po_none (po_some pe_int)))
      (blkOk_by (own := [("cell", 1)]) (N := ["script", "cell"]) (sc := defScope sBag) (by decide +kernel)) (fun _ _ _ _ _ => pg_name (i := 1) scBag2.nd rfl (Or.inl rfl)) (fun _ _ _ _ _ => pts_nil)
      (fun _ _ _ _ _ => pe_callB call_abs (by rfl) T.abs (by decide +kernel) (pa_cons (pv 1) pa_nil))) pa_nil)))))), ?_⟩
    refine ⟨_, rfl, _, rfl, _, _, rfl, hS, fun p hp => ?_⟩
    obtain ⟨ms, em, hm⟩ := cut_ints ns none (some 63)
    rw [em]
    refine ⟨p, rfl, ?_⟩
    refine ⟨⟨_, SqL.of upd_same⟩, fun D hD => lc_list (K := K) (a := p) (xs := ms.map V.int) (fun i H' => ∃ qs : List Int, qs.length = i ∧ H' = upd (upd H p (.lst (ms.map V.int))) D (.lst (qs.map V.int))) ⟨[], rfl, rfl⟩ ?_ ?_ ?_⟩
    · rintro i H' _ ⟨qs, _, rfl⟩
      refine SqL.of ?_
      rw [upd_ne, upd_same]
      intro z
      rw [← z, upd_same] at hD
      cases hD
    · rintro i x H' hx ⟨qs, hq, rfl⟩
      have hi : i < ms.length := by
        have := (List.getElem?_eq_some_iff.mp hx).1
        rwa [List.length_map] at this
      rw [List.getElem?_map] at hx
      obtain ⟨z, hz, rfl⟩ := Option.map_eq_some_iff.mp hx
      refine ⟨rfl, ?_⟩
      unfold tYes
      dsimp only
      rw [if_pos rfl]
      refine ⟨_, rfl, _, rfl, _, upd_same, ?_, qs ++ [if z < 0 then -z else z], by rw [List.length_append, hq]; rfl, ?_⟩
      · rw [List.length_map]
        exact small1000 (by omega)
      · rw [upd_upd, List.map_append]
        rfl
    · rintro H' ⟨qs, hq, rfl⟩
      refine ⟨by show 4 ≤ sizeLine; decide, fun bg hb => ?_⟩
      have s1 : Same H (upd H p (.lst (ms.map V.int))) := same_upd hp
      have s2 : Same H (upd (upd H p (.lst (ms.map V.int))) D (.lst (qs.map V.int))) := KaG.Same.tr s1 (same_upd hD)
      have s3 := KaG.Same.tr s2 (same_upd (o := .lst [.int 0, .int 1234567891, .int 0, .ref D]) hb)
      refine k bg _ s3 ?_ ⟨0, 1234567891, 0, D, qs, upd_same, ?_, by decide, by decide, by rw [hq, List.length_map]; omega⟩
      · cases e : H bg with
        | none => rfl
        | some o => rw [s2 _ _ e] at hb; cases hb
      · rw [upd_ne (fun z => by rw [← z, upd_same] at hb; cases hb), upd_same]
end
end KaG


set_option maxRecDepth 100000
set_option maxHeartbeats 2000000
namespace KaG
open PySem PySem.Spec PyProof.Rows L2
/-- over what is a list, or a tuple -/
theorem pi_or {X : Cx} {tg iter : Expr} {w1 w2 : TI} (h1 : PI X tg iter w1) (h2 : PI X tg iter w2) : PI X tg iter (fun σ H R => w1 σ H R ∨ w2 σ H R) :=
  ⟨fun pins s σ H R I h => h.elim (h1.run pins s σ H R I) (h2.run pins s σ H R I)⟩
section
variable {P : Program} {w : World} {K : PySem.W.Frag} {mg : Str → Option Value} {base : Heap}
theorem scMixed : FnScope ["bag", "things", "found", "thing"] ["bag", "things"] (defScope sMixed) := ⟨rfl, rfl, rfl, by decide +kernel, rfl, by decide +kernel, by decide +kernel⟩
/-- a list or tuple of things at l -/
def Sq2 (H : Hp) (l : Addr) (xs : List V) : Prop := H l = some (.lst xs) ∨ H l = some (.tup xs)
theorem Sq2.ext {H H' : Hp} {bg l : Addr} {xs : List V} (h : Sq2 H l xs) (n : l ≠ bg) (E : Ext bg H H') : Sq2 H' l xs := h.imp (E.keep l _ n) (E.keep l _ n)
/-- a new list of the same things, in a drawn order -/
def spMixed : Sp := fun vs H Q _ => ∃ (bg l : Addr) (xs : List V), vs = [.ref bg, .ref l] ∧ Bag H bg ∧ l ≠ bg ∧ Sq2 H l xs ∧ xs.length ≤ 900 ∧ ∀ (p : Addr) (ys : List V) (H' : Hp), Ext bg H H' → H p = none → H' p = some (.lst ys) → ys.Perm xs → Q (.ref p) H'
theorem put_perm' {α : Type} (l : List α) (i : Nat) (y : α) : (l.take i ++ [y] ++ l.drop i).Perm (l ++ [y]) := by
  have h1 : (l.take i ++ [y] ++ l.drop i).Perm (l.take i ++ (l.drop i ++ [y])) := by
    rw [List.append_assoc]
    exact List.Perm.append_left _ List.perm_append_comm
  rwa [← List.append_assoc, List.take_append_drop] at h1
theorem Ext.write {bg p : Addr} {H H1 : Hp} {o : HO} (hb : Bag H bg) (E : Ext bg H H1) (h : H p = none) : Ext bg H (upd H1 p o) := by
  have pb : p ≠ bg := fun z => hb.there (z ▸ h)
  obtain ⟨c, st, i, b, ns, e1, e2, e3⟩ := id hb
  have ib : Inn H bg b := ⟨c, st, i, e1⟩
  have pn : p ≠ b := fun z => by rw [z, e2] at h; cases h
  obtain ⟨c2, s2, i2, f1⟩ := E.inn b ib
  obtain ⟨c1, st1, i1, b1, ns1, g1, g2, g3⟩ := E.bag
  rw [f1] at g1
  cases g1
  refine ⟨fun x u n e => ?_, ⟨_, _, _, b, ns1, by rw [upd_ne pb.symm]; exact f1, by rw [upd_ne pn.symm]; exact g2, g3⟩, fun x hx => ?_⟩
  · rw [upd_ne (ne_of_none e h)]
    exact E.keep x u n e
  · obtain ⟨c3, s3, i3, q⟩ := E.inn x hx
    exact ⟨c3, s3, i3, by rw [upd_ne pb.symm]; exact q⟩
theorem ok_mixed {f fT : Addr} {fd fdT : FuncData} (F : Fun K "_law_mixed" "_law_mixed" sMixed f fd) (T : TxtB mg) (C : Ct P w K mg base "_law_take" 1 ["bag", "upto"] spTake fT fdT) : FnOk P w K mg base CX0 2 f fd ["bag", "things"] spMixed := by
  refine F.ok scMixed (fun vs H Q E h => ?_) (fun cdv A outer s H vs Q E hr h => ?_)
  · obtain ⟨bg, l, xs, rfl, _⟩ := h
    rfl
  · obtain ⟨bg, l, xs, rfl, hB, hne, hl, hn, k⟩ := h
    refine ⟨_, (pss_cons (ps_set (i := 2) scMixed.nd rfl (Or.inl rfl) (pe_lst pa_nil))
      (pss_cons (ps_for PassesOwn.never rfl (pi_or (pi_list (pv 1)) (pi_tup (pv 1))) (pg_name (i := 3) scMixed.nd rfl (Or.inl rfl))
        (pss_one (ps_expr (pe_bm PySem.F.plainAttrs_list PySem.F.slot_list_insert PySem.F.type_list_insert mt_insert (pv 2)
          (pa_cons (pe_call C.G hr (by rfl) C.m C.kp C.b .nil pass0 (pa_cons (pv 0) (pa_cons (pe_op op_add (pe_callB call_len_seq (by rfl) T.len PySem.boot_len (pa_cons (pv 2) pa_nil)) pe_int) pa_nil))) (pa_cons (pv 3) pa_nil))))))
      (pss_one (ps_ret (pv 2))))), ?_⟩
    have sz2 : ∀ {m : Nat}, m ≤ 900 → m < sizeLine := fun h => small1000 (by omega)
    refine ⟨Nat.zero_le _, fun p np => ?_⟩
    have pl : p ≠ l := fun z => by
      rw [z] at np
      rcases hl with h | h <;> rw [h] at np <;> cases np
    let Pv : Nat → L2.St → Hp → Prop := fun i σ' H' => (∃ x3 : Option V, σ' = [some (.ref bg), some (.ref l), some (.ref p), x3]) ∧ Ext bg H H' ∧ ∃ ys, H' p = some (.lst ys) ∧ ys.Perm (xs.take i)
    have E0 : Ext bg H (upd H p (.lst [])) := (Ext.of_same hB Same.refl').new np
    have h0 : Pv 0 [some (.ref bg), some (.ref l), some (.ref p), none] (upd H p (.lst [])) := ⟨⟨_, rfl⟩, E0, [], upd_same, by rw [List.take_zero]⟩
    rcases hl with hl | hl
    · refine .inl ⟨_, rfl, l, rfl, ⟨_, SqL.of (E0.keep l _ hne hl)⟩, for_list (K := K) (a := l) (xs := xs) Pv h0 ?_ ?_ ?_⟩
      · rintro i σ' H' _ ⟨_, E1, _⟩
        exact SqL.of (E1.keep l _ hne hl)
      · rintro i x σ' H' hx ⟨⟨x3, rfl⟩, E1, ys, ey, py⟩
        have hi : i < xs.length := (List.getElem?_eq_some_iff.mp hx).1
        have hy : ys.length = i := by
          rw [py.length_eq, List.length_take]
          omega
        refine ⟨_, rfl, .inl ⟨rfl, _, SqL.of ey⟩, _, rfl, _, rfl, p, ys, rfl, .inl (SqL.of ey), _, _, rfl, rfl, bg, _, rfl, E1.bag, by omega, by omega, fun z H2 E2 z0 z1 => ?_⟩
        have pb : p ≠ bg := fun w => hB.there (w ▸ np)
        refine ⟨_, rfl, p, ys, z, x, rfl, rfl, E2.keep p _ pb ey, sz2 (by omega), z0, by omega, ⟨_, rfl⟩, (E1.trans E2).write hB np, _, upd_same, ?_⟩
        refine (put_perm' ys z.toNat x).trans ?_
        have ex : xs.take (i + 1) = xs.take i ++ [x] := by rw [List.take_add_one, hx]; rfl
        rw [ex]
        exact List.Perm.append_right _ py
      · rintro σ' H' ⟨⟨x3, rfl⟩, E1, ys, ey, py⟩
        rw [List.take_length] at py
        exact ⟨_, rfl, k p ys H' E1 np ey py⟩
    · refine .inr ⟨_, rfl, l, rfl, ⟨_, SqT.of (E0.keep l _ hne hl)⟩, for_tup (K := K) (a := l) (xs := xs) Pv h0 ?_ ?_ ?_⟩
      · rintro i σ' H' _ ⟨_, E1, _⟩
        exact SqT.of (E1.keep l _ hne hl)
      · rintro i x σ' H' hx ⟨⟨x3, rfl⟩, E1, ys, ey, py⟩
        have hi : i < xs.length := (List.getElem?_eq_some_iff.mp hx).1
        have hy : ys.length = i := by
          rw [py.length_eq, List.length_take]
          omega
        refine ⟨_, rfl, .inl ⟨rfl, _, SqL.of ey⟩, _, rfl, _, rfl, p, ys, rfl, .inl (SqL.of ey), _, _, rfl, rfl, bg, _, rfl, E1.bag, by omega, by omega, fun z H2 E2 z0 z1 => ?_⟩
        have pb : p ≠ bg := fun w => hB.there (w ▸ np)
        refine ⟨_, rfl, p, ys, z, x, rfl, rfl, E2.keep p _ pb ey, sz2 (by omega), z0, by omega, ⟨_, rfl⟩, (E1.trans E2).write hB np, _, upd_same, ?_⟩
        refine (put_perm' ys z.toNat x).trans ?_
        have ex : xs.take (i + 1) = xs.take i ++ [x] := by rw [List.take_add_one, hx]; rfl
        rw [ex]
        exact List.Perm.append_right _ py
      · rintro σ' H' ⟨⟨x3, rfl⟩, E1, ys, ey, py⟩
        rw [List.take_length] at py
        exact ⟨_, rfl, k p ys H' E1 np ey py⟩
end
end KaG


set_option maxRecDepth 100000
set_option maxHeartbeats 2000000
namespace KaG
open PySem PySem.Spec PyProof.Rows L2
theorem newAt {bg : Addr} {H0 H : Hp} {l : Addr} (E : Ext bg H0 H) (h : H l = none) : H0 l = none := by
  cases e : H0 l with
  | none => rfl
  | some o => exact absurd h (E.stay (by rw [e]; exact fun z => nomatch z))
theorem perm_of_map {α β : Type} {f : α → β} {ys zs : List β} (h : ys.Perm zs) : ∀ l : List α, zs = l.map f → ∃ l' : List α, l'.Perm l ∧ ys = l'.map f := by
  induction h with
  | nil => intro l e; exact ⟨[], by rw [List.map_eq_nil_iff.mp e.symm], rfl⟩
  | cons x h ih =>
    intro l e
    cases l with
    | nil => cases e
    | cons a r =>
      rw [List.map_cons] at e
      obtain ⟨rfl, e2⟩ := List.cons.inj e
      obtain ⟨l', p, q⟩ := ih r e2
      exact ⟨a :: l', p.cons a, by rw [q, List.map_cons]⟩
  | swap x y l0 =>
    intro l e
    cases l with
    | nil => cases e
    | cons a r =>
      cases r with
      | nil => cases e
      | cons b r =>
        rw [List.map_cons, List.map_cons] at e
        obtain ⟨rfl, e2⟩ := List.cons.inj e
        obtain ⟨rfl, e3⟩ := List.cons.inj e2
        exact ⟨b :: a :: r, List.Perm.swap a b r, by rw [e3]; rfl⟩
  | trans h1 h2 i1 i2 =>
    intro l e
    obtain ⟨l2, p2, q2⟩ := i2 l e
    obtain ⟨l1, p1, q1⟩ := i1 l2 q2
    exact ⟨l1, p1.trans p2, q1⟩
theorem cut_to (xs : List V) (j : Int) (h0 : 0 ≤ j) : cutV xs none (some j) = xs.take j.toNat := by
  obtain ⟨k, rfl⟩ := Int.eq_ofNat_of_zero_le h0
  unfold cutV
  rw [HT.sIx_none, List.drop_zero, HT.sIx_nat, Nat.sub_zero, Int.toNat_natCast]
  by_cases h : k ≤ xs.length
  · rw [Nat.min_eq_left h]
  · rw [Nat.min_eq_right (by omega), List.take_of_length_le (Nat.le_refl _), List.take_of_length_le (by omega)]
def nmAll : List Str := ["a", "b", "c", "p", "q", "r", "ab", "ba", "zz", "abcdefgh", "row", "kind", "tell", "ever", "z"]
/-- names, ascending -/
structure Nms (ns : List Str) : Prop where
  up : sortedS ns = true
  nd : ns.Nodup
  of : ∀ n ∈ ns, n ∈ nmAll
section
variable {P : Program} {w : World} {K : PySem.W.Frag} {mg : Str → Option Value} {base : Heap}
theorem scNamed : FnScope ["bag", "many", "names"] ["bag", "many"] (defScope sNamed) := ⟨rfl, rfl, rfl, by decide +kernel, rfl, by decide +kernel, by decide +kernel⟩
structure TxtC (mg : Str → Option Value) : Prop where
  b : TxtB mg
  tup : mg "tuple" = none
  sor : mg "sorted" = none
  set : mg "set" = none
  dct : mg "dict" = none
def spNamed : Sp := fun vs H Q _ => ∃ (bg : Addr) (m : Int), vs = [.ref bg, .int m] ∧ Bag H bg ∧ 0 ≤ m ∧ m ≤ 15 ∧ ∀ (p : Addr) (ns : List Str) (H' : Hp), Ext bg H H' → H p = none → H' p = some (.tup (ns.map V.str)) → Nms ns → ns.length = m.toNat → Q (.ref p) H'
theorem ok_named {f fM : Addr} {fd fdM : FuncData} (F : Fun K "_law_named" "_law_named" sNamed f fd) (T : TxtC mg) (C : Ct P w K mg base "_law_mixed" 2 ["bag", "things"] spMixed fM fdM) : FnOk P w K mg base CX0 3 f fd ["bag", "many"] spNamed := by
  refine F.ok scNamed (fun vs H Q E h => ?_) (fun cdv A outer s H vs Q E hr h => ?_)
  · obtain ⟨bg, m, rfl, _⟩ := h
    rfl
  · obtain ⟨bg, m, rfl, hB, h0, h15, k⟩ := h
    refine ⟨_, (pss_cons (ps_set (i := 2) scNamed.nd rfl (Or.inl rfl) (pe_lst (pa_cons pe_str (pa_cons pe_str (pa_cons pe_str (pa_cons pe_str (pa_cons pe_str (pa_cons pe_str (pa_cons pe_str (pa_cons pe_str (pa_cons pe_str (pa_cons pe_str (pa_cons pe_str (pa_cons pe_str (pa_cons pe_str (pa_cons pe_str (pa_cons pe_str pa_nil)))))))))))))))))
      (pss_one (ps_ret (pe_callTy call_tuple_of (by rfl) T.tup (by decide +kernel) (pa_cons (pe_callB cr_sortedS (by rfl) T.sor (by decide +kernel)
        (pa_cons (pe_slice sl_list (pe_call C.G hr (by rfl) C.m C.kp C.b .nil pass0 (pa_cons (pv 0) (pa_cons (pv 2) pa_nil))) po_none (po_some (pv 1))) pa_nil)) pa_nil))))), ?_⟩
    have hl15 : nmAll.length = 15 := by decide
    refine ⟨Nat.le_of_lt (small1000 (by decide)), fun p np => ?_⟩
    have E0 : Ext bg H (upd H p (.lst (nmAll.map V.str))) := (Ext.of_same hB Same.refl').new np
    have pb : p ≠ bg := fun w => hB.there (w ▸ np)
    refine ⟨_, rfl, _, rfl, bg, p, nmAll.map V.str, rfl, E0.bag, pb, .inl upd_same, by rw [List.length_map, hl15]; decide, fun q ys H2 E2 nq eq py => ?_⟩
    obtain ⟨zs, pz, rfl⟩ := perm_of_map py nmAll rfl
    have hz : zs.length = 15 := by rw [pz.length_eq, hl15]
    have E02 := E0.trans E2
    refine ⟨_, rfl, _, rfl, _, _, rfl, SqL.of eq, fun r nr => ?_⟩
    rw [cut_to _ m h0, ← List.map_take]
    refine ⟨r, zs.take m.toNat, rfl, SqL.of upd_same, by rw [List.length_take]; omega, fun us t pu su nt => ?_⟩
    refine ⟨t, _, rfl, .inl ⟨SqL.of upd_same, fun l nl => ?_⟩⟩
    have E3 : Ext bg H (upd (upd (upd H2 r (.lst ((zs.take m.toNat).map V.str))) t (.lst (us.map V.str))) l (.tup (us.map V.str))) := ((E02.new nr).new nt).new nl
    have ndz : zs.Nodup := pz.nodup_iff.mpr (by decide +kernel)
    refine k l us _ E3 (newAt ((E02.new nr).new nt) nl) upd_same ⟨su, pu.nodup_iff.mpr (ndz.sublist (List.take_sublist ..)), fun n hn => pz.mem_iff.mp (List.mem_of_mem_take (pu.mem_iff.mp hn))⟩ ?_
    rw [pu.length_eq, List.length_take]
    omega
end
end KaG


set_option maxRecDepth 100000
set_option maxHeartbeats 2000000
namespace KaG
open PySem PySem.Spec PyProof.Rows L2
theorem ix_or {X : Cx} {r1 r2 : R2} (h1 : IxR X r1) (h2 : IxR X r2) : IxR X (fun x y H Q => r1 x y H Q ∨ r2 x y H Q) :=
  fun value slice pins s σ H x y v u Q I rx ry h hs => h.elim (fun z => h1 value slice pins s σ H x y v u Q I rx ry z hs) (fun z => h2 value slice pins s σ H x y v u Q I rx ry z hs)
section
variable {P : Program} {w : World} {K : PySem.W.Frag} {mg : Str → Option Value} {base : Heap}
def spSome2 : Sp := fun vs H Q _ => ∃ (bg l : Addr) (xs : List V), vs = [.ref bg, .ref l] ∧ Bag H bg ∧ l ≠ bg ∧ Sq2 H l xs ∧ 0 < xs.length ∧ xs.length ≤ 1000 ∧ ∀ (v : V) (H' : Hp), v ∈ xs → Ext bg H H' → Q v H'
theorem ok_some2 {f fT : Addr} {fd fdT : FuncData} (F : Fun K "_law_some" "_law_some" sSome f fd) (T : TxtB mg) (C : Ct P w K mg base "_law_take" 1 ["bag", "upto"] spTake fT fdT) : FnOk P w K mg base CX0 2 f fd ["bag", "things"] spSome2 := by
  refine F.ok scSome (fun vs H Q E h => ?_) (fun cdv A outer s H vs Q E hr h => ?_)
  · obtain ⟨bg, l, xs, rfl, _⟩ := h
    rfl
  · obtain ⟨bg, l, xs, rfl, hB, hne, hl, h0, h1, k⟩ := h
    refine ⟨_, pss_one (ps_ret (pe_ix (ix_or ix_list ix_tup) (pv 1) (pe_call C.G hr (by rfl) C.m C.kp C.b .nil pass0 (pa_cons (pv 0) (pa_cons (pe_callB call_len_seq (by rfl) T.len PySem.boot_len (pa_cons (pv 1) pa_nil)) pa_nil))) (fun _ _ => rfl))), ?_⟩
    have at1 : ∀ z : Int, 0 ≤ z → z < xs.length → ∃ v, atI xs z = some v ∧ v ∈ xs := fun z z0 z1 => by
      have hz : z.toNat < xs.length := by omega
      have q := atI_nat (show xs[z.toNat]? = some xs[z.toNat] by simp [hz])
      rw [show ((z.toNat : Nat) : Int) = z by omega] at q
      exact ⟨_, q, List.getElem_mem hz⟩
    rcases hl with hl | hl
    · refine ⟨_, rfl, _, rfl, _, rfl, _, _, rfl, .inl (SqL.of hl), bg, (xs.length : Int), rfl, hB, by omega, by omega, fun z H' E1 z0 z1 => ?_⟩
      obtain ⟨v, ea, mv⟩ := at1 z z0 z1
      exact .inl ⟨l, xs, z, v, rfl, rfl, SqL.of (E1.keep l _ hne hl), ea, k v _ mv E1⟩
    · refine ⟨_, rfl, _, rfl, _, rfl, _, _, rfl, .inr (SqT.of hl), bg, (xs.length : Int), rfl, hB, by omega, by omega, fun z H' E1 z0 z1 => ?_⟩
      obtain ⟨v, ea, mv⟩ := at1 z z0 z1
      exact .inr ⟨l, xs, z, v, rfl, rfl, SqT.of (E1.keep l _ hne hl), ea, k v _ mv E1⟩
/-! ### the numbers of a need -/
theorem scNumbers : FnScope ["bag", "most"] ["bag"] (defScope sNumbers) := ⟨rfl, rfl, rfl, by decide +kernel, rfl, by decide +kernel, by decide +kernel⟩
def spNumbers : Sp := fun vs H Q _ => ∃ bg : Addr, vs = [.ref bg] ∧ Bag H bg ∧ ∀ (p : Addr) (a t m : Int) (H' : Hp), Ext bg H H' → H p = none → H' p = some (.tup [.int a, .int t, .int m]) → 1 ≤ a → a ≤ 9 → 0 ≤ t → t ≤ 4 → 0 ≤ m → m ≤ 9 → Q (.ref p) H'
theorem ints_in {lo hi : Int} {ns : List Int} (h : ∀ n ∈ ns, lo ≤ n ∧ n ≤ hi) {v : V} (m : v ∈ ns.map V.int) : ∃ n, v = .int n ∧ lo ≤ n ∧ n ≤ hi := by
  obtain ⟨n, hn, rfl⟩ := List.mem_map.mp m
  exact ⟨n, rfl, h n hn⟩
theorem ok_numbers {f fS fT : Addr} {fd fdS fdT : FuncData} (F : Fun K "_law_numbers" "_law_numbers" sNumbers f fd) (C : Ct P w K mg base "_law_some" 2 ["bag", "things"] spSome2 fS fdS) (CT : Ct P w K mg base "_law_take" 1 ["bag", "upto"] spTake fT fdT) : FnOk P w K mg base CX0 3 f fd ["bag"] spNumbers := by
  refine F.ok scNumbers (fun vs H Q E h => ?_) (fun cdv A outer s H vs Q E hr h => ?_)
  · obtain ⟨bg, rfl, _⟩ := h
    rfl
  · obtain ⟨bg, rfl, hB, k⟩ := h
    have hr1 : Room 1 (A.deeper (envOfC "_law_numbers" (defScope sNumbers) s.heap.objs.size f cdv)) := hr.mono (by decide)
    refine ⟨_, (pss_cons (ps_set (i := 1) scNumbers.nd rfl (Or.inl rfl) (pe_call C.G hr (by rfl) C.m C.kp C.b .nil pass0 (pa_cons (pv 0) (pa_cons (pe_lst (pa_cons pe_int (pa_cons pe_int (pa_cons pe_int (pa_cons pe_int (pa_cons pe_int (pa_cons pe_int (pa_cons pe_int (pa_cons pe_int (pa_cons pe_int (pa_cons pe_int pa_nil))))))))))) pa_nil))))
      (pss_one (ps_ret (pe_tup (pa_cons (pe_op op_add pe_int (pe_call C.G hr (by rfl) C.m C.kp C.b .nil pass0 (pa_cons (pv 0) (pa_cons (pe_lst (pa_cons pe_int (pa_cons pe_int (pa_cons pe_int (pa_cons pe_int (pa_cons (pe_call CT.G hr1 (by rfl) CT.m CT.kp CT.b .nil pass0 (pa_cons (pv 0) (pa_cons pe_int pa_nil))) pa_nil)))))) pa_nil))))
        (pa_cons (pe_call C.G hr (by rfl) C.m C.kp C.b .nil pass0 (pa_cons (pv 0) (pa_cons (pe_lst (pa_cons pe_int (pa_cons pe_int (pa_cons pe_int (pa_cons pe_int (pa_cons pe_int (pa_cons pe_int pa_nil))))))) pa_nil))) (pa_cons (pv 1) pa_nil))))))), ?_⟩
    have sz : ∀ {m : Nat}, m ≤ 900 → m ≤ sizeLine := fun h => Nat.le_of_lt (small1000 (by omega))
    refine ⟨_, rfl, sz (by decide), fun p1 n1 => ?_⟩
    have E1 : Ext bg H (upd H p1 (.lst (([9, 9, 9, 9, 1, 2, 3, 5, 8, 0] : List Int).map V.int))) := (Ext.of_same hB Same.refl').new n1
    refine ⟨bg, p1, _, rfl, E1.bag, fun w => hB.there (w ▸ n1), .inl (show upd H p1 (.lst (([9, 9, 9, 9, 1, 2, 3, 5, 8, 0] : List Int).map V.int)) p1 = _ from upd_same), by decide, by decide, fun v H2 mv E2 => ?_⟩
    obtain ⟨m, rfl, m0, m9⟩ := ints_in (lo := 0) (hi := 9) (by decide) mv
    have E12 := E1.trans E2
    refine ⟨_, rfl, _, rfl, bg, 9, rfl, E12.bag, by decide, by decide, fun z H3 E3 z0 z1 => ?_⟩
    have E13 := E12.trans E3
    refine ⟨sz (by show 5 ≤ 900; decide), fun p2 n2 => ?_⟩
    have E4 : Ext bg H (upd H3 p2 (.lst (([0, 0, 1, 2, z] : List Int).map V.int))) := E13.new n2
    refine ⟨bg, p2, _, rfl, E4.bag, fun w => E13.bag.there (w ▸ n2), .inl (show upd H3 p2 (.lst (([0, 0, 1, 2, z] : List Int).map V.int)) p2 = _ from upd_same), by show 0 < 5; decide, by show 5 ≤ 1000; decide, fun v H5 mv E5 => ?_⟩
    obtain ⟨b, rfl, b0, b8⟩ := ints_in (lo := 0) (hi := 8) (by
      intro n hn
      simp only [List.mem_cons, List.mem_nil_iff, or_false] at hn
      omega) mv
    have E15 := E4.trans E5
    refine ⟨_, _, rfl, rfl, _, rfl, sz (by decide), fun p3 n3 => ?_⟩
    have E6 : Ext bg H (upd H5 p3 (.lst (([0, 1, 1, 2, 3, 4] : List Int).map V.int))) := E15.new n3
    refine ⟨bg, p3, _, rfl, E6.bag, fun w => E15.bag.there (w ▸ n3), .inl (show upd H5 p3 (.lst (([0, 1, 1, 2, 3, 4] : List Int).map V.int)) p3 = _ from upd_same), by decide, by decide, fun v H7 mv E7 => ?_⟩
    obtain ⟨t, rfl, t0, t4⟩ := ints_in (lo := 0) (hi := 4) (by decide) mv
    have E17 := E6.trans E7
    refine ⟨_, rfl, sz (by show 3 ≤ 900; decide), fun p n => ?_⟩
    exact k p (1 + b) t m _ (E17.new n) (newAt E17 n) upd_same (by omega) (by omega) t0 t4 m0 m9
end
end KaG


set_option maxRecDepth 100000
set_option maxHeartbeats 2000000
namespace KaG
open PySem PySem.Spec PyProof.Rows L2
/-- the items of a need on some rows and kinds -/
inductive NeedV (rows names : List Str) : List V → Prop
  | row (n : Str) (t m : Int) (h : n ∈ rows) (t0 : 0 ≤ t) (t4 : t ≤ 4) (m0 : 0 ≤ m) (m9 : m ≤ 9) : NeedV rows names [.str "row", .str n, .int t, .int m]
  | kind (n : Str) (a t m : Int) (h : n ∈ names) (a1 : 1 ≤ a) (a9 : a ≤ 9) (t0 : 0 ≤ t) (t4 : t ≤ 4) (m0 : 0 ≤ m) (m9 : m ≤ 9) : NeedV rows names [.str "kind", .str n, .int a, .int t, .int m]
section
variable {P : Program} {w : World} {K : PySem.W.Frag} {mg : Str → Option Value} {base : Heap}
theorem scNeed : FnScope ["bag", "rows", "names", "after", "tell", "most"] ["bag", "rows", "names"] (defScope sNeed) := ⟨rfl, rfl, rfl, by decide +kernel, rfl, by decide +kernel, by decide +kernel⟩
def spNeed : Sp := fun vs H Q _ => ∃ (bg r n : Addr) (rows names : List Str), vs = [.ref bg, .ref r, .ref n] ∧ Bag H bg ∧ r ≠ bg ∧ n ≠ bg ∧ H r = some (.tup (rows.map V.str)) ∧ H n = some (.tup (names.map V.str)) ∧ 0 < rows.length ∧ 0 < names.length ∧ rows.length ≤ 20 ∧ names.length ≤ 20 ∧
  ∀ (p : Addr) (xs : List V) (H' : Hp), Ext bg H H' → H p = none → H' p = some (.tup xs) → NeedV rows names xs → Q (.ref p) H'
theorem strs_in {ns : List Str} {v : V} (m : v ∈ ns.map V.str) : ∃ n, v = .str n ∧ n ∈ ns := by
  obtain ⟨n, hn, rfl⟩ := List.mem_map.mp m
  exact ⟨n, rfl, hn⟩
theorem ok_need {f fN fS fT : Addr} {fd fdN fdS fdT : FuncData} (F : Fun K "_law_need" "_law_need" sNeed f fd) (CN : Ct P w K mg base "_law_numbers" 3 ["bag"] spNumbers fN fdN) (C : Ct P w K mg base "_law_some" 2 ["bag", "things"] spSome2 fS fdS) (CT : Ct P w K mg base "_law_take" 1 ["bag", "upto"] spTake fT fdT) : FnOk P w K mg base CX0 4 f fd ["bag", "rows", "names"] spNeed := by
  refine F.ok scNeed (fun vs H Q E h => ?_) (fun cdv A outer s H vs Q E hr h => ?_)
  · obtain ⟨bg, r, n, rows, names, rfl, _⟩ := h
    rfl
  · obtain ⟨bg, r, n, rows, names, rfl, hB, rb, nb, er, en, r0, n0, r20, n20, k⟩ := h
    have hr2 : Room 2 (A.deeper (envOfC "_law_need" (defScope sNeed) s.heap.objs.size f cdv)) := hr.mono (by decide)
    have hr1 : Room 1 (A.deeper (envOfC "_law_need" (defScope sNeed) s.heap.objs.size f cdv)) := hr.mono (by decide)
    refine ⟨_, (pss_cons (ps_asg (pe_call CN.G hr (by rfl) CN.m CN.kp CN.b .nil pass0 (pa_cons (pv 0) pa_nil)) (pg_tup (by rfl) (pgs_cons (pg_name (i := 3) scNeed.nd rfl (Or.inl rfl)) (pgs_cons (pg_name (i := 4) scNeed.nd rfl (Or.inl rfl)) (pgs_cons (pg_name (i := 5) scNeed.nd rfl (Or.inl rfl)) pgs_nil)))))
      (pss_cons (ps_if (pt_cmpR op_lt (pe_call CT.G hr1 (by rfl) CT.m CT.kp CT.b .nil pass0 (pa_cons (pv 0) (pa_cons pe_int pa_nil))) pe_int (nomark _))
        (pss_one (ps_ret (pe_tup (pa_cons pe_str (pa_cons (pe_call C.G hr2 (by rfl) C.m C.kp C.b .nil pass0 (pa_cons (pv 0) (pa_cons (pv 1) pa_nil))) (pa_cons (pv 4) (pa_cons (pv 5) pa_nil))))))) pss_nil)
      (pss_one (ps_ret (pe_tup (pa_cons pe_str (pa_cons (pe_call C.G hr2 (by rfl) C.m C.kp C.b .nil pass0 (pa_cons (pv 0) (pa_cons (pv 2) pa_nil))) (pa_cons (pv 3) (pa_cons (pv 4) (pa_cons (pv 5) pa_nil)))))))))), ?_⟩
    have sz : ∀ {m : Nat}, m ≤ 900 → m ≤ sizeLine := fun h => Nat.le_of_lt (small1000 (by omega))
    refine ⟨_, rfl, bg, rfl, hB, fun p a t m H1 E1 np ep a1 a9 t0 t4 m0 m9 => ?_⟩
    refine ⟨p, _, rfl, SqT.of ep, by rfl, _, _, rfl, _, _, rfl, _, _, rfl, rfl, ?_⟩
    refine ⟨_, rfl, bg, 5, rfl, E1.bag, by decide, by decide, fun z H2 E2 z0 z1 => ?_⟩
    have E12 := E1.trans E2
    refine ⟨_, _, rfl, rfl, _, rfl, ite2 (fun hc => ?_) fun hc => ?_⟩
    · refine ⟨_, rfl, _, rfl, bg, r, rows.map V.str, rfl, E12.bag, rb, .inr (E12.keep r _ rb er), by rw [List.length_map]; exact r0, by rw [List.length_map]; omega, fun v H3 mv E3 => ?_⟩
      obtain ⟨x, rfl, hx⟩ := strs_in mv
      have E13 := E12.trans E3
      refine ⟨_, rfl, _, rfl, sz (by show 4 ≤ 900; decide), fun q nq => ?_⟩
      exact k q _ _ (E13.new nq) (newAt E13 nq) upd_same (.row x t m hx t0 t4 m0 m9)
    · refine ⟨_, rfl, _, rfl, bg, n, names.map V.str, rfl, E12.bag, nb, .inr (E12.keep n _ nb en), by rw [List.length_map]; exact n0, by rw [List.length_map]; omega, fun v H3 mv E3 => ?_⟩
      obtain ⟨x, rfl, hx⟩ := strs_in mv
      have E13 := E12.trans E3
      refine ⟨_, rfl, _, rfl, _, rfl, sz (by show 5 ≤ 900; decide), fun q nq => ?_⟩
      exact k q _ _ (E13.new nq) (newAt E13 nq) upd_same (.kind x a t m hx a1 a9 t0 t4 m0 m9)
end
end KaG


set_option maxRecDepth 100000
set_option maxHeartbeats 2000000
namespace KaG
open PySem PySem.Spec PyProof.Rows L2
section
variable {P : Program} {w : World} {K : PySem.W.Frag} {mg : Str → Option Value} {base : Heap}
theorem scMore : FnScope ["bag", "sort", "rows"] ["bag", "sort", "rows"] (defScope sMore) := ⟨rfl, rfl, rfl, by decide +kernel, rfl, by decide +kernel, by decide +kernel⟩
def spMore : Sp := fun vs H Q _ => ∃ (bg r : Addr) (v : V) (rows : List Str), vs = [.ref bg, v, .ref r] ∧ Bag H bg ∧ r ≠ bg ∧ H r = some (.tup (rows.map V.str)) ∧ rows.length = 2 ∧
  ∀ (p : Addr) (xs : List V) (H' : Hp), Ext bg H H' → H p = none → H' p = some (.lst xs) → (xs = [] ∨ ∃ q its, xs = [.ref q] ∧ H q = none ∧ H' q = some (.tup its) ∧ ∀ names, NeedV rows names its) → Q (.ref p) H'
theorem ok_more {f fS fT : Addr} {fd fdS fdT : FuncData} (F : Fun K "_law_more_needs" "_law_more_needs" sMore f fd) (C : Ct P w K mg base "_law_some" 2 ["bag", "things"] spSome2 fS fdS) (CT : Ct P w K mg base "_law_take" 1 ["bag", "upto"] spTake fT fdT) : FnOk P w K mg base CX0 3 f fd ["bag", "sort", "rows"] spMore := by
  refine F.ok scMore (fun vs H Q E h => ?_) (fun cdv A outer s H vs Q E hr h => ?_)
  · obtain ⟨bg, r, v, rows, rfl, _⟩ := h
    rfl
  · obtain ⟨bg, r, v, rows, rfl, hB, rb, er, r2, k⟩ := h
    have hr1 : Room 1 (A.deeper (envOfC "_law_more_needs" (defScope sMore) s.heap.objs.size f cdv)) := hr.mono (by decide)
    refine ⟨_, (pss_cons (ps_if (pt_cmpR op_gt (pe_call CT.G hr1 (by rfl) CT.m CT.kp CT.b .nil pass0 (pa_cons (pv 0) (pa_cons pe_int pa_nil))) pe_int (nomark _)) (pss_one (ps_ret (pe_lst pa_nil))) pss_nil)
      (pss_one (ps_ret (pe_lst (pa_cons (pe_tup (pa_cons pe_str (pa_cons (pe_ix ix_tup (pv 2) pe_int (fun _ _ => rfl)) (pa_cons (pe_call CT.G hr1 (by rfl) CT.m CT.kp CT.b .nil pass0 (pa_cons (pv 0) (pa_cons pe_int pa_nil)))
        (pa_cons (pe_call C.G hr (by rfl) C.m C.kp C.b .nil pass0 (pa_cons (pv 0) (pa_cons (pe_lst (pa_cons pe_int (pa_cons pe_int (pa_cons pe_int (pa_cons pe_int pa_nil))))) pa_nil))) pa_nil))))) pa_nil))))), ?_⟩
    have sz : ∀ {m : Nat}, m ≤ 900 → m ≤ sizeLine := fun h => Nat.le_of_lt (small1000 (by omega))
    obtain ⟨ra, rc, rfl⟩ : ∃ a b, rows = [a, b] := by
      match rows, r2 with
      | [a, b], _ => exact ⟨a, b, rfl⟩
    refine ⟨_, rfl, bg, 3, rfl, hB, by decide, by decide, fun z H1 E1 z0 z1 => ?_⟩
    refine ⟨_, _, rfl, rfl, _, rfl, ite2 (fun hc => ?_) fun hc => ?_⟩
    · refine ⟨Nat.zero_le _, fun p np => ?_⟩
      exact k p [] _ (E1.new np) (newAt E1 np) upd_same (.inl rfl)
    · refine ⟨_, rfl, r, _, 1, .str rc, rfl, rfl, SqT.of (E1.keep r _ rb er), rfl, _, rfl, bg, 5, rfl, E1.bag, by decide, by decide, fun t H2 E2 t0 t5 => ?_⟩
      have E12 := E1.trans E2
      refine ⟨_, rfl, sz (by decide), fun p2 n2 => ?_⟩
      have E4 : Ext bg H (upd H2 p2 (.lst (([9, 9, 0, 4] : List Int).map V.int))) := E12.new n2
      refine ⟨bg, p2, _, rfl, E4.bag, fun w => E12.bag.there (w ▸ n2), .inl (show upd H2 p2 (.lst (([9, 9, 0, 4] : List Int).map V.int)) p2 = _ from upd_same), by decide, by decide, fun v H5 mv E5 => ?_⟩
      obtain ⟨m, rfl, m0, m9⟩ := ints_in (lo := 0) (hi := 9) (by decide) mv
      have E15 := E4.trans E5
      refine ⟨sz (by show 4 ≤ 900; decide), fun q nq => ⟨sz (by show 1 ≤ 900; decide), fun p np => ?_⟩⟩
      have E6 := E15.new (o := .tup [.str "row", .str rc, .int t, .int m]) nq
      have pq : q ≠ p := fun z => by rw [← z, upd_same] at np; cases np
      exact k p _ _ (E6.new np) (newAt E6 np) upd_same (.inr ⟨q, _, rfl, newAt E15 nq, by rw [upd_ne pq, upd_same], fun names => .row rc t m (by simp) t0 (by omega) m0 m9⟩)
end
end KaG


set_option maxRecDepth 100000
set_option maxHeartbeats 2000000
namespace KaG
open PySem PySem.Spec PyProof.Rows L2
/-! ### a rulebook, as it stands in the heap (tuples in tuples) -/
structure Kd where
  name : Str
  keep : Int
  bar : Int
  gs : List (List (List V))
abbrev Grd (H : Hp) (ga : Addr) (g : List (List V)) : Prop := ∃ ns : List Addr, H ga = some (.tup (ns.map V.ref)) ∧ Paired (fun n its => H n = some (.tup its)) ns g
abbrev KdAt (H : Hp) (ka : Addr) (k : Kd) : Prop := ∃ (gt : Addr) (gas : List Addr), H ka = some (.tup [.str k.name, .int k.keep, .int k.bar, .ref gt]) ∧ H gt = some (.tup (gas.map V.ref)) ∧ Paired (fun ga g => Grd H ga g) gas k.gs
structure BookAt (H : Hp) (b : Addr) (rows : List Str) (ks : List Kd) : Prop where
  it : ∃ (r kt : Addr) (kas : List Addr), H b = some (.tup [.ref r, .ref kt]) ∧ H r = some (.tup (rows.map V.str)) ∧ H kt = some (.tup (kas.map V.ref)) ∧ Paired (fun ka k => KdAt H ka k) kas ks
/-- what the numbers and names of a rulebook are -/
structure BookOk (rows : List Str) (ks : List Kd) : Prop where
  rw : Nms rows
  nm : Nms (ks.map Kd.name)
  r0 : 0 < rows.length
  k0 : 0 < ks.length
  k5 : ks.length ≤ 5
  num : ∀ k ∈ ks, 1 ≤ k.keep ∧ k.keep ≤ 8 ∧ 0 ≤ k.bar ∧ k.bar ≤ 12 ∧ k.gs.length ≤ 4
  grd : ∀ k ∈ ks, ∀ g ∈ k.gs, 0 < g.length ∧ g.length ≤ 3 ∧ ∀ n ∈ g, NeedV rows (ks.map Kd.name) n
theorem Paired.mono' {α β : Type} {R S : α → β → Prop} (h : ∀ a b, R a b → S a b) : ∀ {xs : List α} {ys : List β}, Paired R xs ys → Paired S xs ys
  | _, _, .nil => .nil
  | _, _, .cons a r => .cons (h _ _ a) (Paired.mono' h r)
/-- what of the heap's tuples stays -/
def TSame (H H' : Hp) : Prop := ∀ b xs, H b = some (.tup xs) → H' b = some (.tup xs)
theorem TSame.of {H H' : Hp} (s : Same H H') : TSame H H' := fun b xs e => s b _ e
theorem TSame.ext {H H' : Hp} {bg : Addr} (hb : Bag H bg) (E : Ext bg H H') : TSame H H' := fun b xs e => E.keep b _ (fun z => by
  obtain ⟨c, st, i, b2, ns, e1, _⟩ := hb
  rw [z, e1] at e
  cases e) e
theorem Grd.ts {H H' : Hp} {ga : Addr} {g : List (List V)} (h : Grd H ga g) (s : TSame H H') : Grd H' ga g := by
  obtain ⟨ns, e, p⟩ := h
  exact ⟨ns, s _ _ e, Paired.mono' (fun a b q => s _ _ q) p⟩
theorem KdAt.ts {H H' : Hp} {ka : Addr} {k : Kd} (h : KdAt H ka k) (s : TSame H H') : KdAt H' ka k := by
  obtain ⟨gt, gas, e1, e2, p⟩ := h
  exact ⟨gt, gas, s _ _ e1, s _ _ e2, Paired.mono' (fun a b q => Grd.ts q s) p⟩
theorem BookAt.ts {H H' : Hp} {b : Addr} {rows : List Str} {ks : List Kd} (h : BookAt H b rows ks) (s : TSame H H') : BookAt H' b rows ks := by
  obtain ⟨r, kt, kas, e1, e2, e3, p⟩ := h
  exact ⟨⟨r, kt, kas, s _ _ e1, s _ _ e2, s _ _ e3, Paired.mono' (fun a b q => KdAt.ts q s) p⟩⟩
theorem paired_at {α β : Type} {R : α → β → Prop} : ∀ {xs : List α} {ys : List β} {i : Nat} {x : α}, Paired R xs ys → xs[i]? = some x → ∃ y, ys[i]? = some y ∧ R x y
  | _, _, i, _, .nil, e => by simp at e
  | _, _, 0, _, .cons h r, e => by
    cases e
    exact ⟨_, rfl, h⟩
  | _, _, i + 1, _, .cons h r, e => by
    obtain ⟨y, q1, q2⟩ := paired_at r (show _ = some _ from e)
    exact ⟨y, q1, q2⟩
theorem paired_len {α β : Type} {R : α → β → Prop} : ∀ {xs : List α} {ys : List β}, Paired R xs ys → xs.length = ys.length
  | _, _, .nil => rfl
  | _, _, .cons h r => by rw [List.length_cons, List.length_cons, paired_len r]
/-! ### kind_names -/
abbrev sKindNames : Stmt := top 6
section
variable {P : Program} {w : World} {K : PySem.W.Frag} {mg : Str → Option Value} {base : Heap}
theorem scKindNames : FnScope ["rulebook", "kind"] ["rulebook"] (defScope sKindNames) := ⟨rfl, rfl, rfl, by decide +kernel, rfl, by decide +kernel, by decide +kernel⟩
def spKindNames : Sp := fun vs H Q _ => ∃ (b : Addr) (rows : List Str) (ks : List Kd), vs = [.ref b] ∧ BookAt H b rows ks ∧ ks.length ≤ 900 ∧ ∀ (p : Addr) (H' : Hp), Same H H' → H p = none → H' p = some (.lst ((ks.map Kd.name).map V.str)) → Q (.ref p) H'
theorem ok_kindNames {f : Addr} {fd : FuncData} (F : Fun K "kind_names" "kind_names" sKindNames f fd) : FnOk P w K mg base CX0 1 f fd ["rulebook"] spKindNames := by
  refine F.ok scKindNames (fun vs H Q E h => ?_) (fun cdv A outer s H vs Q E hr h => ?_)
  · obtain ⟨b, rows, ks, rfl, _⟩ := h
    rfl
  · obtain ⟨b, rows, ks, rfl, hA, hk, k⟩ := h
    refine ⟨_, pss_one (ps_ret (pe_lc (own := [("kind", 1)]) (g := gName 1) (by rfl) scKindNames.nd (pi_tup (pe_ix ix_tup (pv 0) pe_int (fun _ _ => rfl)))
      (blkOk_by (own := [("kind", 1)]) (N := ["rulebook", "kind"]) (sc := defScope sKindNames) (by decide +kernel)) (fun _ _ _ _ _ => pg_name (i := 1) scKindNames.nd rfl (Or.inl rfl)) (fun _ _ _ _ _ => pts_nil)
      (fun _ _ _ _ _ => pe_ix (r := rIxT K) ix_tup (pv 1) pe_int (fun _ _ => rfl)))), ?_⟩
    obtain ⟨r, kt, kas, e1, e2, e3, pk⟩ := hA
    have hlen := paired_len pk
    refine ⟨_, rfl, b, _, 1, .ref kt, rfl, rfl, SqT.of e1, rfl, kt, rfl, ⟨_, SqT.of e3⟩, fun D hD => lc_tup (K := K) (a := kt) (xs := kas.map V.ref) (fun i G => Same H G ∧ G D = some (.lst (((ks.take i).map Kd.name).map V.str))) ?_ ?_ ?_ ?_⟩
    · exact ⟨same_upd hD, upd_same⟩
    · rintro i G _ ⟨S, _⟩
      exact SqT.of (S _ _ e3)
    · rintro i x G hx ⟨S, gD⟩
      rw [List.getElem?_map] at hx
      obtain ⟨ka, ha, rfl⟩ := Option.map_eq_some_iff.mp hx
      obtain ⟨kd, hkd, gt, gas, f1, _⟩ := paired_at pk ha
      refine ⟨rfl, ?_⟩
      unfold tYes
      dsimp only
      refine iteT ⟨_, rfl, ka, _, 0, .str kd.name, rfl, rfl, SqT.of (S _ _ f1), rfl, _, gD, ?_, ?_, ?_⟩
      · rw [List.length_map, List.length_map, List.length_take]
        exact small1000 (by omega)
      · exact fun b u e => by rw [upd_ne (ne_of_none e hD)]; exact S b u e
      · rw [upd_same, List.take_add_one, hkd]
        simp
    · rintro G ⟨S, gD⟩
      rw [List.length_map, hlen, List.take_length] at gD
      exact k D G S hD gD
end
end KaG


set_option maxRecDepth 100000
set_option maxHeartbeats 2000000
/-! the sorts of kinds, in plain lists -/
namespace KaG
open PySem PySem.Spec PyProof.Rows L2
abbrev Gr := List (List V)
def keepLt (ks : List Kd) (p : Str) (a : Int) : Bool := ks.any fun k => decide (k.name = p) && decide (a < k.keep)
def ndLive (ks : List Kd) (B : List Str) : List V → Bool
  | [.str _, .str p, .int a, .int _, .int _] => decide (p ∈ B) && keepLt ks p a
  | _ => true
def grLive (ks : List Kd) (B : List Str) (g : Gr) : Bool := g.all (ndLive ks B)
def gsOf (ks : List Kd) (n : Str) : List Gr := match ks.find? (fun k => decide (k.name = n)) with
  | some k => k.gs
  | none => []
def grAt (ks : List Kd) (n : Str) (i : Nat) : Gr := (gsOf ks n).getD i []
/-- the places of a list at which a test holds -/
def ats {α : Type} (t : α → Bool) (xs : List α) : List Nat := (List.range xs.length).filter fun i => match xs[i]? with
  | some x => t x
  | none => false
def liveIx (ks : List Kd) (B : List Str) (n : Str) : List Nat := ats (grLive ks B) (gsOf ks n)
def ndForced (S C : List Str) : List V → Bool
  | [.str _, .str n, .int _, .int _] => decide (n ∈ S)
  | [.str _, .str p, .int _, .int _, .int _] => !decide (p ∈ C)
  | _ => false
def forcedPl (S C : List Str) (g : Gr) : List Nat := ats (ndForced S C) g
def ndOn (A : List Str) : List V → Bool
  | [.str _, .str p, .int _, .int _, .int _] => decide (p ∈ A)
  | _ => false
def placesOn (g : Gr) (A : List Str) : List Nat := ats (ndOn A) g
def jB (ks : List Kd) (n : Str) (B : List Str) : Bool := (gsOf ks n).any (grLive ks B)
def jC (ks : List Kd) (B S : List Str) (n : Str) (C : List Str) : Bool := (liveIx ks B n).any fun i => (forcedPl S C (grAt ks n i)).isEmpty
def jA (ks : List Kd) (B S C : List Str) (n : Str) (A : List Str) : Bool := (liveIx ks B n).any fun i => !(forcedPl S C (grAt ks n i)).isEmpty || !(placesOn (grAt ks n i) A).isEmpty
/-! ### least sets -/
abbrev Jn := Str → List Str → Bool
def Clo (names : List Str) (J : Jn) (S : List Str) : Prop := ∀ n ∈ names, J n S = true → n ∈ S
def Mono (J : Jn) : Prop := ∀ n B B', (∀ x ∈ B, x ∈ B') → J n B = true → J n B' = true
structure IsL (names : List Str) (J : Jn) (B : List Str) : Prop where
  fl : B = names.filter fun n => decide (n ∈ B)
  clo : Clo names J B
  lst : ∀ S, Clo names J S → ∀ n ∈ B, n ∈ S
theorem IsL.sub {names : List Str} {J : Jn} {B : List Str} (h : IsL names J B) : ∀ n ∈ B, n ∈ names := fun n m => by
  rw [h.fl] at m
  exact (List.mem_filter.mp m).1
theorem IsL.uniq {names : List Str} {J : Jn} {B B' : List Str} (h : IsL names J B) (h' : IsL names J B') : B = B' := by
  have e : (fun n => decide (n ∈ B)) = fun n => decide (n ∈ B') := by
    funext n
    exact decide_eq_decide.mpr ⟨h.lst B' h'.clo n, h'.lst B h.clo n⟩
  rw [h.fl, h'.fl, e]
open Classical in
noncomputable def lfp (names : List Str) (J : Jn) : List Str := if h : ∃ B, IsL names J B then h.choose else []
theorem IsL.eq {names : List Str} {J : Jn} {B : List Str} (h : IsL names J B) : B = lfp names J := by
  unfold lfp
  rw [dif_pos ⟨B, h⟩]
  exact h.uniq (Exists.choose_spec (p := fun B => IsL names J B) ⟨B, h⟩)
/-- one turn of the program's growing -/
def grow1 (names : List Str) (J : Jn) (B : List Str) : List Str := names.filter fun n => decide (n ∈ B) || J n B
structure Grw (names : List Str) (J : Jn) (B : List Str) : Prop where
  fl : B = names.filter fun n => decide (n ∈ B)
  lst : ∀ S, Clo names J S → ∀ n ∈ B, n ∈ S
theorem Grw.nil {names : List Str} {J : Jn} : Grw names J [] := ⟨by symm; exact List.filter_eq_nil_iff.mpr fun n _ => by simp, fun _ _ _ m => nomatch m⟩
theorem Grw.next {names : List Str} {J : Jn} {B : List Str} (mo : Mono J) (h : Grw names J B) : Grw names J (grow1 names J B) := by
  refine ⟨?_, fun S c n m => ?_⟩
  · refine List.filter_congr fun n mn => ?_
    have : (n ∈ grow1 names J B) ↔ (decide (n ∈ B) || J n B) = true := ⟨fun z => (List.mem_filter.mp z).2, fun z => List.mem_filter.mpr ⟨mn, z⟩⟩
    cases e : (decide (n ∈ B) || J n B) with
    | true => exact (decide_eq_true (this.mpr e)).symm
    | false => exact (decide_eq_false fun z => by rw [this.mp z] at e; cases e).symm
  · obtain ⟨mn, z⟩ := List.mem_filter.mp m
    rcases Bool.or_eq_true _ _ ▸ z with z | z
    · exact h.lst S c n (of_decide_eq_true z)
    · exact c n mn (mo n B S (h.lst S c) z)
theorem filter_le {α : Type} {p q : α → Bool} : ∀ (xs : List α), (∀ x ∈ xs, p x = true → q x = true) → (xs.filter p).length ≤ (xs.filter q).length ∧ ((xs.filter p).length = (xs.filter q).length → xs.filter p = xs.filter q)
  | [], _ => ⟨Nat.le_refl _, fun _ => rfl⟩
  | x :: r, h => by
    obtain ⟨h1, h2⟩ := filter_le r fun y m => h y (List.mem_cons_of_mem _ m)
    have hx := h x (List.mem_cons_self ..)
    rw [List.filter_cons, List.filter_cons]
    cases ep : p x with
    | true =>
      rw [ep] at hx
      rw [hx rfl]
      simp only [if_true, List.length_cons]
      exact ⟨Nat.succ_le_succ h1, fun e => by rw [h2 (Nat.succ.inj e)]⟩
    | false =>
      cases eq : q x with
      | true =>
        simp only [if_true, Bool.false_eq_true, if_false, List.length_cons]
        exact ⟨by omega, fun e => by omega⟩
      | false =>
        simp only [Bool.false_eq_true, if_false]
        exact ⟨h1, h2⟩
theorem Grw.step {names : List Str} {J : Jn} {B : List Str} (h : Grw names J B) : B.length ≤ (grow1 names J B).length ∧ ((grow1 names J B).length = B.length → grow1 names J B = B ∧ Clo names J B) := by
  have hf := filter_le (p := fun n => decide (n ∈ B)) (q := fun n => decide (n ∈ B) || J n B) names fun x _ e => by
    have e : decide (x ∈ B) = true := e
    simp [e]
  rw [← h.fl] at hf
  refine ⟨hf.1, fun e => ?_⟩
  have e2 := hf.2 e.symm
  refine ⟨e2.symm, fun n mn j => ?_⟩
  have : n ∈ grow1 names J B := List.mem_filter.mpr ⟨mn, by rw [j, Bool.or_true]⟩
  rw [show grow1 names J B = B from e2.symm] at this
  exact this
theorem grow1_le {names : List Str} {J : Jn} {B : List Str} : (grow1 names J B).length ≤ names.length := List.length_filter_le ..
theorem Grw.done {names : List Str} {J : Jn} {B : List Str} (h : Grw names J B) (c : Clo names J B) : IsL names J B := ⟨h.fl, c, h.lst⟩
/-! ### the law's growing: one name after another, in any order -/
structure Chs (names : List Str) (J : Jn) (F : List Str) : Prop where
  sub : ∀ n ∈ F, n ∈ names
  nd : F.Nodup
  lst : ∀ S, Clo names J S → ∀ n ∈ F, n ∈ S
theorem Chs.nil {names : List Str} {J : Jn} : Chs names J [] := ⟨(fun _ m => nomatch m), List.nodup_nil, (fun _ _ _ m => nomatch m)⟩
theorem Chs.add {names : List Str} {J : Jn} {F : List Str} {n : Str} (mo : Mono J) (h : Chs names J F) (mn : n ∈ names) (nF : n ∉ F) (j : J n F = true) : Chs names J (F ++ [n]) := by
  refine ⟨fun x m => ?_, ?_, fun S c x m => ?_⟩
  · rcases List.mem_append.mp m with z | z
    · exact h.sub x z
    · rw [List.mem_singleton.mp z]
      exact mn
  · exact List.nodup_append.mpr ⟨h.nd, (by simp : [n].Nodup), fun a ma b mb e => by rw [List.mem_singleton.mp mb] at e; exact nF (e ▸ ma)⟩
  · rcases List.mem_append.mp m with z | z
    · exact h.lst S c x z
    · rw [List.mem_singleton.mp z]
      exact c n mn (mo n F S (h.lst S c) j)
theorem Chs.len {names : List Str} {J : Jn} {F : List Str} (h : Chs names J F) : F.length ≤ names.length := List.Nodup.length_le_of_subset h.nd h.sub
theorem Chs.full {names : List Str} {J : Jn} {F : List Str} (nd : names.Nodup) (h : Chs names J F) (e : names.length ≤ F.length) : ∀ n ∈ names, n ∈ F := fun n mn => by
  refine Classical.byContradiction fun z => ?_
  have h2 : (F ++ [n]).Nodup := List.nodup_append.mpr ⟨h.nd, (by simp : [n].Nodup), fun a ma b mb e => by rw [List.mem_singleton.mp mb] at e; exact z (e ▸ ma)⟩
  have h3 := List.Nodup.length_le_of_subset h2 (l₂ := names) fun x m => (List.mem_append.mp m).elim (h.sub x) fun y => by rw [List.mem_singleton.mp y]; exact mn
  rw [List.length_append, List.length_singleton] at h3
  omega
theorem Chs.mem {names : List Str} {J : Jn} {F B : List Str} (h : Chs names J F) (c : Clo names J F) (l : IsL names J B) : ∀ n, n ∈ F ↔ n ∈ B := fun n => ⟨h.lst B l.clo n, l.lst F c n⟩
theorem Chs.perm {names : List Str} {J : Jn} {F B : List Str} (nd : names.Nodup) (h : Chs names J F) (c : Clo names J F) (l : IsL names J B) : F.Perm B := by
  have nB : B.Nodup := by
    rw [l.fl]
    exact nd.filter _
  exact (List.perm_ext_iff_of_nodup h.nd nB).mpr (h.mem c l)
/-! ### what only members tell -/
theorem ndLive_cg {ks : List Kd} {B B' : List Str} (h : ∀ n, n ∈ B ↔ n ∈ B') : ndLive ks B = ndLive ks B' := by
  funext x
  unfold ndLive
  split
  · rw [decide_eq_decide.mpr (h _)]
  · rfl
theorem grLive_cg {ks : List Kd} {B B' : List Str} (h : ∀ n, n ∈ B ↔ n ∈ B') : grLive ks B = grLive ks B' := by
  funext g
  unfold grLive
  rw [ndLive_cg h]
theorem liveIx_cg {ks : List Kd} {B B' : List Str} (h : ∀ n, n ∈ B ↔ n ∈ B') : liveIx ks B = liveIx ks B' := by
  funext n
  unfold liveIx
  rw [grLive_cg h]
theorem ndForced_cg {S S' C C' : List Str} (hS : ∀ n, n ∈ S ↔ n ∈ S') (h : ∀ n, n ∈ C ↔ n ∈ C') : ndForced S C = ndForced S' C' := by
  funext x
  unfold ndForced
  split
  · rw [decide_eq_decide.mpr (hS _)]
  · rw [decide_eq_decide.mpr (h _)]
  · rfl
theorem forcedPl_cg {S C C' : List Str} (h : ∀ n, n ∈ C ↔ n ∈ C') : forcedPl S C = forcedPl S C' := by
  funext g
  unfold forcedPl
  rw [ndForced_cg (fun _ => Iff.rfl) h]
theorem placesOn_cg {A A' : List Str} {g : Gr} (h : ∀ n, n ∈ A ↔ n ∈ A') : placesOn g A = placesOn g A' := by
  unfold placesOn
  congr 1
  funext x
  unfold ndOn
  split
  · rw [decide_eq_decide.mpr (h _)]
  · rfl
/-! ### more makes more -/
theorem ats_mem {α : Type} {t : α → Bool} {xs : List α} {i : Nat} : i ∈ ats t xs ↔ ∃ x, xs[i]? = some x ∧ t x = true := by
  unfold ats
  rw [List.mem_filter, List.mem_range]
  constructor
  · rintro ⟨h1, h2⟩
    rw [List.getElem?_eq_getElem h1] at h2
    exact ⟨_, List.getElem?_eq_getElem h1, h2⟩
  · rintro ⟨x, h1, h2⟩
    refine ⟨(List.getElem?_eq_some_iff.mp h1).1, ?_⟩
    rw [h1]
    exact h2
theorem ats_sub {α : Type} {t t' : α → Bool} {xs : List α} (h : ∀ x ∈ xs, t x = true → t' x = true) : ∀ i ∈ ats t xs, i ∈ ats t' xs := fun i m => by
  obtain ⟨x, h1, h2⟩ := ats_mem.mp m
  exact ats_mem.mpr ⟨x, h1, h x (List.mem_of_getElem? h1) h2⟩
theorem isEmpty_sub {α : Type} {xs ys : List α} (h : ∀ x ∈ xs, x ∈ ys) (e : ys.isEmpty = true) : xs.isEmpty = true := by
  cases xs with
  | nil => rfl
  | cons x r =>
    have := h x (List.mem_cons_self ..)
    rw [List.isEmpty_iff.mp e] at this
    cases this
theorem nd_mono {ks : List Kd} {B B' : List Str} (h : ∀ x ∈ B, x ∈ B') (n : List V) (e : ndLive ks B n = true) : ndLive ks B' n = true := by
  unfold ndLive at e ⊢
  split at e
  · rw [Bool.and_eq_true, decide_eq_true_eq] at e ⊢
    exact ⟨h _ e.1, e.2⟩
  · rfl
theorem jB_mono (ks : List Kd) : Mono (jB ks) := fun n B B' h e => by
  unfold jB at e ⊢
  obtain ⟨g, mg, hg⟩ := List.any_eq_true.mp e
  refine List.any_eq_true.mpr ⟨g, mg, List.all_eq_true.mpr fun x mx => nd_mono h x (List.all_eq_true.mp hg x mx)⟩
theorem jC_mono (ks : List Kd) (B S : List Str) : Mono (jC ks B S) := fun n C C' h e => by
  unfold jC at e ⊢
  obtain ⟨i, mi, hi⟩ := List.any_eq_true.mp e
  refine List.any_eq_true.mpr ⟨i, mi, isEmpty_sub (ats_sub fun x _ z => ?_) hi⟩
  unfold ndForced at z ⊢
  split at z
  · exact z
  · rw [Bool.not_eq_true', decide_eq_false_iff_not] at z ⊢
    exact fun y => z (h _ y)
  · exact z
theorem jA_mono (ks : List Kd) (B S C : List Str) : Mono (jA ks B S C) := fun n A A' h e => by
  unfold jA at e ⊢
  obtain ⟨i, mi, hi⟩ := List.any_eq_true.mp e
  refine List.any_eq_true.mpr ⟨i, mi, ?_⟩
  rcases Bool.or_eq_true _ _ ▸ hi with z | z
  · rw [z]
    rfl
  · rw [Bool.or_eq_true]
    right
    cases q : (placesOn (grAt ks n i) A').isEmpty with
    | false => rfl
    | true =>
      have := isEmpty_sub (xs := placesOn (grAt ks n i) A) (ats_sub fun x _ z => by
        unfold ndOn at z ⊢
        split at z
        · rw [decide_eq_true_eq] at z ⊢
          exact h _ z
        · cases z) q
      rw [this] at z
      cases z
end KaG


set_option maxRecDepth 100000
set_option maxHeartbeats 2000000
namespace KaG
open PySem PySem.Spec PyProof.Rows L2
theorem paired_snoc {α β : Type} {R : α → β → Prop} {x : α} {y : β} (h : R x y) : ∀ {xs : List α} {ys : List β}, Paired R xs ys → Paired R (xs ++ [x]) (ys ++ [y])
  | _, _, .nil => .cons h .nil
  | _, _, .cons a r => .cons a (paired_snoc h r)
theorem merge_new : ∀ (kvs acc : List (Key × V)), ((acc ++ kvs).map (·.1)).Nodup → mergeK acc kvs = acc ++ kvs
  | [], acc, _ => by rw [List.append_nil]; rfl
  | p :: r, acc, h => by
    have hn : valV acc p.1 = none := by
      unfold valV
      have : acc.find? (fun kv => decide (kv.1 = p.1)) = none := by
        rw [List.find?_eq_none]
        intro q hq e
        rw [List.map_append, List.nodup_append] at h
        exact h.2.2 q.1 (List.mem_map_of_mem hq) p.1 (List.mem_map_of_mem (List.mem_cons_self ..)) (of_decide_eq_true e)
      rw [this] <;> rfl
    show mergeK (putK acc p.1 p.2) r = _
    rw [putK_new p.2 hn, merge_new r _ (by simpa using h)]
    simp
theorem refs_inj : ∀ {xs ys : List Addr}, xs.map V.ref = ys.map V.ref → xs = ys
  | [], [], _ => rfl
  | [], _ :: _, h => by cases h
  | _ :: _, [], h => by cases h
  | x :: xs, y :: ys, h => by
    rw [List.map_cons, List.map_cons] at h
    obtain ⟨h1, h2⟩ := List.cons.inj h
    cases h1
    rw [refs_inj h2]
/-- the addresses of the kinds of the rulebook at b -/
def KasOf (H : Hp) (b : Addr) (kas : List Addr) : Prop := ∃ r kt, H b = some (.tup [.ref r, .ref kt]) ∧ H kt = some (.tup (kas.map V.ref))
def kvsOf (ks : List Kd) (kas : List Addr) : List (Key × V) := (ks.zip kas).map fun z => (Sum.inr z.1.name, V.ref z.2)
section
variable {P : Program} {w : World} {K : PySem.W.Frag} {mg : Str → Option Value} {base : Heap}
def spKinds : Sp := fun vs H Q _ => ∃ (b : Addr) (rows : List Str) (ks : List Kd) (kas : List Addr), vs = [.ref b] ∧ BookAt H b rows ks ∧ KasOf H b kas ∧ ks.length ≤ 900 ∧ (ks.map Kd.name).Nodup ∧ ∀ (p : Addr) (H' : Hp), Same H H' → H p = none → H' p = some (.dK (kvsOf ks kas)) → Q (.ref p) H'
end
end KaG


set_option maxRecDepth 100000
set_option maxHeartbeats 2000000
namespace KaG
open PySem PySem.Spec PyProof.Rows L2
abbrev Plc := Str × Nat × Nat
def plG (k : Kd) (g : Nat) : List Plc := (List.range (k.gs.getD g []).length).map fun n => (k.name, g, n)
def plK (k : Kd) : List Plc := (List.range k.gs.length).flatMap (plG k)
def placesOf (ks : List Kd) : List Plc := ks.flatMap plK
/-- tuples of places, at these addresses -/
def PlAt (H : Hp) (as : List Addr) (ps : List Plc) : Prop := Paired (fun a (p : Plc) => H a = some (.tup [.str p.1, .int (p.2.1 : Int), .int (p.2.2 : Int)])) as ps
theorem PlAt.ts {H H' : Hp} {as : List Addr} {ps : List Plc} (h : PlAt H as ps) (s : TSame H H') : PlAt H' as ps := Paired.mono' (fun a p q => s _ _ q) h
theorem paired_app {α β : Type} {R : α → β → Prop} : ∀ {xs xs' : List α} {ys ys' : List β}, Paired R xs ys → Paired R xs' ys' → Paired R (xs ++ xs') (ys ++ ys')
  | _, _, _, _, .nil, q => q
  | _, _, _, _, .cons a r, q => .cons a (paired_app r q)
theorem range_snoc (f : Nat → List Plc) (n : Nat) : (List.range (n + 1)).flatMap f = (List.range n).flatMap f ++ f n := by
  rw [List.range_succ, List.flatMap_append]
  simp
theorem ts_lst {H : Hp} {p : Addr} {xs ys : List V} (e : H p = some (.lst xs)) : TSame H (upd H p (.lst ys)) := fun b zs q => by
  rw [upd_ne (fun z => by rw [z, e] at q; cases q)]
  exact q
section
variable {P : Program} {w : World} {K : PySem.W.Frag} {mg : Str → Option Value} {base : Heap}
def spPlaces : Sp := fun vs H Q _ => ∃ (b : Addr) (rows : List Str) (ks : List Kd), vs = [.ref b] ∧ BookAt H b rows ks ∧ BookOk rows ks ∧ ∀ (p : Addr) (as : List Addr) (H' : Hp), Same H H' → H p = none → H' p = some (.lst (as.map V.ref)) → PlAt H' as (placesOf ks) → as.length ≤ 60 → Q (.ref p) H'
end
end KaG


set_option maxRecDepth 100000
set_option maxHeartbeats 4000000
namespace KaG
open PySem PySem.Spec PyProof.Rows L2
section
variable {X : Cx} {CW : Addr} {NW : Str} {i : Nat} {bg : Addr} {d n : Nat} {e : Expr} {es : List Expr} {pos : Pos}
theorem pe_negC {j : Int} {jp ip p : _} : PE X (.UnaryOp .USub (.Constant (.int j) jp ip) p) (tC (.int (-j))) := pe_imp (pe_un un_neg pe_int) fun σ H Q q => ⟨_, rfl, q⟩
theorem pe_powC {a b : Int} {jp ip kp lp p : _} (hb : 0 ≤ b ∧ b ≤ 1000000 ∧ a.natAbs < 2 ^ 64) : PE X (.BinOp (.Constant (.int a) jp ip) .Pow (.Constant (.int b) kp lp) p) (tC (.int (a ^ b.toNat))) := pe_imp (pe_op op_pow pe_int pe_int) fun σ H Q q => ⟨_, _, rfl, rfl, hb, q⟩
theorem pe_gtupL {x1} (h : PA X es (tGs CW NW i bg d n es.length)) {d' n' : Nat} (hz : es.length ≤ 1000 := by decide) (hd : d + 1 ≤ d' := by decide) (hn : es.length * (n + 2) + 3 ≤ n' := by decide) : PE X (.Tuple es x1 pos) (tG CW NW i bg d' n') := pe_gw (pe_gtup h hz) hd hn
theorem pe_glstL (h : PA X es (tGs CW NW i bg d n es.length)) {d' n' : Nat} (hz : es.length ≤ 1000 := by decide) (hd : d + 1 ≤ d' := by decide) (hn : es.length * (n + 2) + 2 ≤ n' := by decide) : PE X (.List es pos) (tG CW NW i bg d' n') := pe_gw (pe_glst h hz) hd hn
end
section
variable {P : Program} {w : World} {K : PySem.W.Frag} {mg : Str → Option Value} {base : Heap} {CW : Addr} {NW : Str}
end
end KaG


set_option maxRecDepth 100000
set_option maxHeartbeats 4000000
namespace KaG
open PySem PySem.Spec PyProof.Rows L2
section
variable {P : Program} {w : World} {K : PySem.W.Frag} {mg : Str → Option Value} {base : Heap} {CW : Addr} {NW : Str}
def spOdd (CW : Addr) (NW : Str) : Sp := fun vs H Q _ => ∃ bg : Addr, vs = [.ref bg] ∧ Bag H bg ∧ ∀ (v : V) (H' : Hp) (as : List Addr) (t : Str), Ext bg H H' → Sh H' CW NW as 3 v t → t.length ≤ 200 → Nw H H' as → Q v H'
/-- a list of m good values at l -/
structure OL (CW : Addr) (NW : Str) (bg : Addr) (H0 H : Hp) (l : Addr) (m : Nat) : Prop where
  ext : Ext bg H0 H
  new : H0 l = none
  it : ∃ xs as ts, H l = some (.lst xs) ∧ ShA H CW NW as 3 xs ts ∧ (∀ t ∈ ts, t.length ≤ 200) ∧ Nw H0 H as ∧ xs.length = m
theorem OL.start {bg : Addr} {H0 H1 : Hp} {l : Addr} {xs : List V} {as : List Addr} {ts : List Str} (E : Ext bg H0 H1) (s : ShA H1 CW NW as 3 xs ts) (ht : ∀ t ∈ ts, t.length ≤ 200) (n : Nw H0 H1 as) (hl : H1 l = none) : OL CW NW bg H0 (upd H1 l (.lst xs)) l xs.length :=
  ⟨E.new hl, newAt E hl, xs, as, ts, upd_same, s.same (same_upd hl) fun b z => (n b z).2, ht, n.ext (Ext.of_same E.bag (same_upd hl)), rfl⟩
theorem OL.more {bg : Addr} {H0 H H1 : Hp} {l l2 : Addr} {m : Nat} {zs : List V} {bs : List Addr} {us : List Str} (hb : Bag H0 bg) (O : OL CW NW bg H0 H l m) (E : Ext bg H H1) (s : ShA H1 CW NW bs 3 zs us) (hu : ∀ t ∈ us, t.length ≤ 200) (n : Nw H H1 bs)
    (h2 : H1 l2 = none) : ∃ xs, upd H1 l2 (.lst zs) l = some (.lst xs) ∧ xs.length = m ∧ ∀ l3, upd H1 l2 (.lst zs) l3 = none → OL CW NW bg H0 (upd (upd H1 l2 (.lst zs)) l3 (.lst (xs ++ zs))) l3 (m + zs.length) := by
  obtain ⟨E0, l0, xs, as, ts, e1, sA, ht, nA, hm⟩ := O
  have lb : l ≠ bg := fun z => hb.there (z ▸ l0)
  have Ea : Ext bg H (upd H1 l2 (.lst zs)) := E.new h2
  refine ⟨xs, Ea.keep l _ lb e1, hm, fun l3 h3 => ?_⟩
  have Eb : Ext bg H (upd (upd H1 l2 (.lst zs)) l3 (.lst (xs ++ zs))) := Ea.new h3
  have Ec : Ext bg H1 (upd (upd H1 l2 (.lst zs)) l3 (.lst (xs ++ zs))) := ((Ext.of_same E.bag Same.refl').new h2).new h3
  refine ⟨E0.trans Eb, newAt (E0.trans Ea) h3, xs ++ zs, as ++ bs, ts ++ us, upd_same, ?_, ?_, ?_, by rw [List.length_append, hm]⟩
  · have a1 := (sA.ext (nA.out hb.there) Eb fun b z => (nA b z).2).wide (bs := as ++ bs) (fun _ z => List.mem_append_left _ z) (Nat.le_refl _)
    have a2 := (s.ext (n.out E0.bag.there) Ec fun b z => (n b z).2).wide (bs := as ++ bs) (fun _ z => List.mem_append_right _ z) (Nat.le_refl _)
    exact a1.app a2
  · intro t h
    rcases List.mem_append.mp h with q | q
    · exact ht t q
    · exact hu t q
  · intro b h
    rcases List.mem_append.mp h with q | q
    · exact nA.ext Eb b q
    · exact (n.ext Ec).before E0 b q
end
end KaG


set_option maxRecDepth 100000
set_option maxHeartbeats 2000000
namespace KaG
open PySem PySem.Spec PyProof.Rows L2
/-! ### data in the heap: told once, for == and for repr -/
mutual
def txt : PyData → Str
  | .none => "None"
  | .bool b => if b then "True" else "False"
  | .int i => (toString i : String)
  | .str x => reprText x
  | .list xs => listText (txtA xs)
  | .tuple xs => tupleText (txtA xs)
  | .dict _ => ""
def txtA : List PyData → List Str
  | [] => []
  | x :: r => txt x :: txtA r
end
mutual
def dsz : PyData → Nat
  | .none => 1
  | .bool _ => 1
  | .int _ => 1
  | .str _ => 1
  | .list xs => 1 + dszA xs
  | .tuple xs => 1 + dszA xs
  | .dict _ => 1
def dszA : List PyData → Nat
  | [] => 0
  | x :: r => dsz x + dszA r
end
mutual
inductive Rep (H : Hp) : V → PyData → Prop
  | non : Rep H .non .none
  | bl (b : Bool) : Rep H (.bl b) (.bool b)
  | int (i : Int) (h : i.natAbs.log2 < 1920) : Rep H (.int i) (.int i)
  | str (x : Str) : Rep H (.str x) (.str x)
  | lst {a : Addr} {xs : List V} {ds : List PyData} (e : H a = some (.lst xs)) (r : RepA H xs ds) : Rep H (.ref a) (.list ds)
  | tup {a : Addr} {xs : List V} {ds : List PyData} (e : H a = some (.tup xs)) (r : RepA H xs ds) : Rep H (.ref a) (.tuple ds)
inductive RepA (H : Hp) : List V → List PyData → Prop
  | nil : RepA H [] []
  | cons {v : V} {vs : List V} {d : PyData} {ds : List PyData} (h : Rep H v d) (r : RepA H vs ds) : RepA H (v :: vs) (d :: ds)
end
section
variable {H H' : Hp} {CW : Addr} {NW : Str} {K : PySem.W.Frag}
mutual
theorem Rep.det : ∀ {v : V} {d d' : PyData}, Rep H v d → Rep H v d' → d = d'
  | _, _, _, .non, .non => rfl
  | _, _, _, .bl b, .bl _ => rfl
  | _, _, _, .int i _, .int _ _ => rfl
  | _, _, _, .str x, .str _ => rfl
  | _, _, _, .lst e r, .lst e' r' => by
    rw [e] at e'
    cases e'
    rw [RepA.det r r']
  | _, _, _, .lst e r, .tup e' r' => by
    rw [e] at e'
    cases e'
  | _, _, _, .tup e r, .lst e' r' => by
    rw [e] at e'
    cases e'
  | _, _, _, .tup e r, .tup e' r' => by
    rw [e] at e'
    cases e'
    rw [RepA.det r r']
theorem RepA.det : ∀ {vs : List V} {ds ds' : List PyData}, RepA H vs ds → RepA H vs ds' → ds = ds'
  | _, _, _, .nil, .nil => rfl
  | _, _, _, .cons h r, .cons h' r' => by rw [Rep.det h h', RepA.det r r']
end
mutual
theorem Rep.dp : ∀ {v : V} {d : PyData}, Rep H v d → Dp K H v d
  | _, _, .non => .non
  | _, _, .bl b => .bl b
  | _, _, .int i _ => .int i
  | _, _, .str x => .str x
  | _, _, .lst e r => .lst (SqL.of e) (RepA.dp r)
  | _, _, .tup e r => .tup (SqT.of e) (RepA.dp r)
theorem RepA.dp : ∀ {vs : List V} {ds : List PyData}, RepA H vs ds → DpAll K H vs ds
  | _, _, .nil => .nil
  | _, _, .cons h r => .cons (Rep.dp h) (RepA.dp r)
end
mutual
theorem Rep.sm (s : Same H H') : ∀ {v : V} {d : PyData}, Rep H v d → Rep H' v d
  | _, _, .non => .non
  | _, _, .bl b => .bl b
  | _, _, .int i h => .int i h
  | _, _, .str x => .str x
  | _, _, .lst e r => .lst (s _ _ e) (RepA.sm s r)
  | _, _, .tup e r => .tup (s _ _ e) (RepA.sm s r)
theorem RepA.sm (s : Same H H') : ∀ {vs : List V} {ds : List PyData}, RepA H vs ds → RepA H' vs ds
  | _, _, .nil => .nil
  | _, _, .cons h r => .cons (Rep.sm s h) (RepA.sm s r)
end
mutual
theorem Rep.sh : ∀ {v : V} {d : PyData}, Rep H v d → ∃ as, Sh H CW NW as d.depth v (txt d) ∧ ∀ b ∈ as, ∃ d', Rep H (.ref b) d' ∧ dsz d' ≤ dsz d
  | _, _, .non => ⟨[], by rw [txt]; exact .non, fun _ z => nomatch z⟩
  | _, _, .bl b => ⟨[], by rw [txt]; exact .bl b, fun _ z => nomatch z⟩
  | _, _, .int i h => ⟨[], by rw [txt]; exact .int i h, fun _ z => nomatch z⟩
  | _, _, .str x => ⟨[], by rw [txt]; exact .str x, fun _ z => nomatch z⟩
  | _, _, .lst (a := a) (ds := ds) e r => by
    obtain ⟨as, h1, h2⟩ := RepA.sh r
    have na : a ∉ as := fun m => by
      obtain ⟨d', q1, q2⟩ := h2 a m
      have := Rep.det (.lst e r) q1
      rw [← this, dsz] at q2
      omega
    refine ⟨a :: as, ?_, fun b m => ?_⟩
    · rw [txt, PyData.depth]
      exact .lst e (List.mem_cons_self ..) (fun b z => List.mem_cons_of_mem _ z) na h1
    · rcases List.mem_cons.mp m with z | z
      · rw [z]; exact ⟨_, .lst e r, Nat.le_refl _⟩
      · obtain ⟨d', q1, q2⟩ := h2 b z
        exact ⟨d', q1, by rw [dsz]; omega⟩
  | _, _, .tup (a := a) (ds := ds) e r => by
    obtain ⟨as, h1, h2⟩ := RepA.sh r
    have na : a ∉ as := fun m => by
      obtain ⟨d', q1, q2⟩ := h2 a m
      have := Rep.det (.tup e r) q1
      rw [← this, dsz] at q2
      omega
    refine ⟨a :: as, ?_, fun b m => ?_⟩
    · rw [txt, PyData.depth]
      exact .tup e (List.mem_cons_self ..) (fun b z => List.mem_cons_of_mem _ z) na h1
    · rcases List.mem_cons.mp m with z | z
      · rw [z]; exact ⟨_, .tup e r, Nat.le_refl _⟩
      · obtain ⟨d', q1, q2⟩ := h2 b z
        exact ⟨d', q1, by rw [dsz]; omega⟩
theorem RepA.sh : ∀ {vs : List V} {ds : List PyData}, RepA H vs ds → ∃ as, ShA H CW NW as (PyData.depthAll ds) vs (txtA ds) ∧ ∀ b ∈ as, ∃ d', Rep H (.ref b) d' ∧ dsz d' ≤ dszA ds
  | _, _, .nil => ⟨[], by rw [txtA]; exact .nil, fun _ z => nomatch z⟩
  | _, _, .cons (d := d) (ds := ds) h r => by
    obtain ⟨as, h1, h2⟩ := Rep.sh h
    obtain ⟨bs, h3, h4⟩ := RepA.sh r
    refine ⟨as ++ bs, ?_, fun b m => ?_⟩
    · rw [txtA, PyData.depthAll]
      exact .cons (h1.wide (fun _ z => List.mem_append_left _ z) (Nat.le_max_left ..)) (h3.wide (fun _ z => List.mem_append_right _ z) (Nat.le_max_right ..))
    · rw [dszA]
      rcases List.mem_append.mp m with z | z
      · obtain ⟨d', q1, q2⟩ := h2 b z
        exact ⟨d', q1, by omega⟩
      · obtain ⟨d', q1, q2⟩ := h4 b z
        exact ⟨d', q1, by omega⟩
end
/-- alike: the same data, whether in one place or in two -/
def spAlikeD (K : PySem.W.Frag) : Sp := fun vs H Q _ => ∃ (x y : V) (d : PyData), vs = [x, y] ∧ Rep H x d ∧ Rep H y d ∧ d.canLay0 = true ∧ d.depth ≤ 20 ∧ (txt d).length ≤ sizeLine ∧ Q (.bl true) H
end
end KaG


set_option maxRecDepth 100000
set_option maxHeartbeats 2000000
namespace KaX
open PySem PySem.Builtin PySem.Builtin.BaseException
open PySem.W (Looks Frag findIn subIn looks_findIn looks_subIn clsIn)
section
variable {prog : Program} {w : World} {A : Around} {E : Value → Shared → Prop} {s : Shared} {K : Frag} {C e t0 : Addr}
theorem rc_self (x : ExcC K C e t0 s.heap) (hE : findIn K (.ref C) "__eq__" = some (some (.builtin "object.__eq__"))) (hO : subIn K (.ref C) (.type "object") = some true) (hu : A.units < cLine) {Q : Value → Shared → Prop} (q : Q (.bool true) s) :
    wpAny (model prog w) A (richCompare .Eq (.ref e) (.ref e)) Q E s := by
  have hf : Looks (model prog w) s.heap (typeLookup (.ref C) "__eq__") (some (.builtin "object.__eq__")) := looks_findIn x.1 hE
  have LI : Looks (model prog w) s.heap (isInstance (.ref e) (.type "object")) true := x.LT.andThen (looks_subIn x.1 hO)
  have call_ : wpAny (model prog w) A (call (.builtin "object.__eq__") [.ref e, .ref e]) (fun v s' => v = .bool true ∧ s' = s) E s := by
    refine wpAny_call (codeAny_call_builtin F.cmp_object.eq.plain F.cmpEntry_eq ?_)
    refine PySem.W.check_slot (i := "object.__eq__") (owner := "object") (n := "__eq__") F.cmpKind_eq F.cmpSplit_eq LI (F.cmpArgs_eq _ _) ?_
    exact objEq_entry_same ⟨rfl, rfl⟩
  unfold richCompare
  refine wpAny_holding (wpAny_bind (wpAny_cRoomFor hu ?_))
  have h1 : oneThing? .Eq (.ref e) (.ref e) = none := rfl
  simp only [h1, cmpInfo]
  refine wpAny_bind (x.LT.here (wpAny_bind (x.LT.here ?_)))
  simp only [bne_self_eq_false, Bool.false_eq_true, if_false]
  refine wpAny_bind (wpAny_pure ?_)
  simp only [Bool.false_eq_true, if_false]
  refine wpAny_bind ?_
  unfold tryCompare
  refine wpAny_bind ?_
  simp only [callSpecialIfBound?, bindSpecialIfBound?]
  refine wpAny_holding (wpAny_bind (wpAny_bind ?_))
  unfold specialOf
  refine wpAny_bind (x.LT.here (hf.here ?_))
  simp only [F.cmp_object.eq.bind]
  refine wpAny_bind (wpAny_askSetting (wpAny_ite ?_))
  split
  · refine wpAny_bind (wpAny_pure (wpAny_pure ?_))
    dsimp only
    refine wpAny_bind (wpAny_mono call_ (fun v s' hv => ?_) fun _ _ z => z)
    obtain ⟨rfl, rfl⟩ := hv
    exact wpAny_pure (wpAny_pure (wpAny_pure q))
  · refine wpAny_tryCatch (wpAny_bind (wpAny_pure (wpAny_pure ?_)))
    dsimp only
    refine wpAny_bind (wpAny_mono call_ (fun v s' hv => ?_) fun _ _ z => z)
    obtain ⟨rfl, rfl⟩ := hv
    exact wpAny_pure (wpAny_pure (wpAny_pure q))
end
end KaX


set_option maxRecDepth 100000
set_option maxHeartbeats 2000000
namespace KaX
open PySem PySem.Builtin PySem.Builtin.BaseException
open PySem.W (Looks Frag findIn subIn looks_findIn looks_subIn clsIn)
section
variable {prog : Program} {w : World} {A : Around} {E : Value → Shared → Prop} {s : Shared} {K : Frag} {C e t0 : Addr}
theorem bexcCall {nm : Str} {cd : ClassData} {N T : Str} {u0 : Value} {d0 : Nat} {as : List Addr} {h₀ : Heap} {g : List Code} (x : ExcC K C e t0 s.heap) (hc : clsIn K C = some cd) (hn : cd.name = nm) (hN : Str.ofString ((nm.toString.cutAt '.').getLastD "") = N)
    (hB : subIn K (.ref C) (.type "BaseException") = some true)
    (ht : s.heap.TupAt t0 [u0]) (hu0 : ReprK prog w as h₀ d0 u0 T) (hg : A.guards = some g) (hcl : ∀ b ∈ as, Clear g b) (hu : A.units + 1 + d0 < cLine) (hk : ∀ b o, h₀.get? b = some o → s.heap.get? b = some o) {Q : Value → Shared → Prop}
    (hq : ∀ u h' tk, (∀ b o, s.heap.get? b = some o → h'.get? b = some o) → Q (.str (N ++ Str.ofString "(" ++ T ++ Str.ofString ")") u) { s with heap := h', toks := tk })
    (hsz : (N ++ Str.ofString "(" ++ T ++ Str.ofString ")").length ≤ sizeLine) :
    wpAny (model prog w) A (call (.builtin "BaseException.__repr__") [.ref e]) Q E s := by
  refine wpAny_call (codeAny_call_builtin F.excStr_Exception.repr.plain F.entry_bexc_repr ?_)
  refine PySem.W.check_slot (i := "BaseException.__repr__") (owner := "BaseException") (n := "__repr__") (by decide +kernel) (by decide +kernel) (x.LI hB) (F.args_bexc_repr _) ?_
  unfold «BaseException.__repr__»
  exact wpAny_mono (bra 0 x hc hn hN ht hu0 (by exact hg) hcl (show A.units + 1 + d0 < cLine by omega) hk (fun u h' tk k => hq u h' tk k) (by rw [Nat.zero_add]; exact hsz)) (fun _ _ z => z) fun _ _ z => z
theorem call_repr_C {nm : Str} {cd : ClassData} {N T : Str} {u0 : Value} {d0 : Nat} {as : List Addr} {h₀ : Heap} {g : List Code} (x : ExcC K C e t0 s.heap) (hc : clsIn K C = some cd) (hn : cd.name = nm) (hN : Str.ofString ((nm.toString.cutAt '.').getLastD "") = N)
    (hB : subIn K (.ref C) (.type "BaseException") = some true) (hR : findIn K (.ref C) "__repr__" = some (some (.builtin "BaseException.__repr__")))
    (ht : s.heap.TupAt t0 [u0]) (hu0 : ReprK prog w as h₀ d0 u0 T) (hg : A.guards = some g) (hcl : ∀ b ∈ as, Clear g b) (hu : A.units + 2 + d0 < cLine) (hk : ∀ b o, h₀.get? b = some o → s.heap.get? b = some o) {Q : Value → Shared → Prop}
    (hq : ∀ u h' tk, (∀ b o, s.heap.get? b = some o → h'.get? b = some o) → Q (.str (N ++ Str.ofString "(" ++ T ++ Str.ofString ")") u) { s with heap := h', toks := tk })
    (hsz : (N ++ Str.ofString "(" ++ T ++ Str.ofString ")").length ≤ sizeLine) :
    wpAny (model prog w) A (call (.builtin "repr") [.ref e]) Q E s := by
  have hf : Looks (model prog w) s.heap (typeLookup (.ref C) "__repr__") (some (.builtin "BaseException.__repr__")) := looks_findIn x.1 hR
  have fin : wpAny (model prog w) A.in1 (call (.builtin "BaseException.__repr__") [.ref e]) (fun v s' => ∃ y u, v = .str y u ∧ Q (.str y u) s') E s :=
    bexcCall x hc hn hN hB ht hu0 (by exact hg) hcl (show A.units + 1 + 1 + d0 < cLine by omega) hk (fun u h' tk k => ⟨_, _, rfl, hq u h' tk k⟩) hsz
  refine Calls.call_function_entry F.kind_repr F.plain_repr F.entry_repr (F.args_repr1 _) ?_
  unfold Builtin.«repr»
  refine wpAny_bind (m := oneArg "repr" _) (wpAny_pure ?_)
  refine wpAny_bind (wpAny_cRoomFor (show A.in1.units < cLine by show A.units + 1 < cLine; omega) ?_)
  refine wpAny_bind ?_
  unfold specialOf
  refine wpAny_bind (x.LT.here (hf.here ?_))
  simp only [Option.isNone_some, Bool.false_eq_true, if_false]
  refine wpAny_bind ?_
  simp only [callSpecialIfBound?, bindSpecialIfBound?]
  refine wpAny_holding (wpAny_bind (wpAny_bind ?_))
  unfold specialOf
  refine wpAny_bind (x.LT.here (hf.here ?_))
  simp only [F.excStr_Exception.repr.bind]
  refine wpAny_bind (wpAny_askSetting (wpAny_ite ?_))
  split
  · refine wpAny_bind (wpAny_pure (wpAny_pure ?_))
    dsimp only [List.append_nil]
    refine wpAny_bind (wpAny_mono fin (fun v s' hv => ?_) fun _ _ z => z)
    obtain ⟨y, u, rfl, hq⟩ := hv
    refine wpAny_pure ?_
    exact wpAny_bind (wpAny_isInstance (T := "str") (b := true) rfl isSubtype_str_str (wpAny_pure ⟨_, rfl, hq⟩))
  · refine wpAny_tryCatch (wpAny_bind (wpAny_pure (wpAny_pure ?_)))
    dsimp only [List.append_nil]
    refine wpAny_bind (wpAny_mono fin (fun v s' hv => ?_) fun _ _ z => z)
    obtain ⟨y, u, rfl, hq⟩ := hv
    refine wpAny_pure ?_
    exact wpAny_bind (wpAny_isInstance (T := "str") (b := true) rfl isSubtype_str_str (wpAny_pure ⟨_, rfl, hq⟩))
end
end KaX


set_option maxRecDepth 100000
set_option maxHeartbeats 2000000
namespace KaG
open PySem PySem.Spec PyProof.Rows L2
section
variable {X : Cx} {CW : Addr} {NW : Str}
def rRepr (CW : Addr) (NW : Str) : List V → Hp → VK → Prop := fun xs H Q => ∃ v as d t, xs = [v] ∧ Sh H CW NW as d v t ∧ d ≤ 20 ∧ t.length ≤ sizeLine ∧ Q (.str t) H
theorem call_reprS (T : WrK X.K CW NW) (hg : X.A.guards = some []) (hu : X.A.units + 60 < cLine) : CallR X (.builtin "repr") (rRepr CW NW) := by
  intro pins s σ H xs us Q I r h
  obtain ⟨v, as, d, t, rfl, hS, hd, hz, q⟩ := h
  obtain ⟨u, rfl, rv⟩ := vals1 r
  have fin : ∀ (x : Tok) (h' : Heap) (tk : Nat), (∀ b o, s.heap.get? b = some o → h'.get? b = some o) → EP X pins σ Q (.str t x) { s with heap := h', toks := tk } := fun x h' tk k => ⟨.str t, H, I.kept k, ⟨_, rfl⟩, q⟩
  have cl : ∀ (as : List Addr), ∀ b ∈ as, Clear [] b := fun _ b _ => Clear.nil b
  cases hS with
  | non => cases (show u = Value.none from rv); exact PySem.P.repr_of_none (fin _ _ _ fun _ _ e => e)
  | bl b => cases (show u = Value.bool b from rv); exact PySem.P.repr_of_bool (fin _ _ _ fun _ _ e => e)
  | int i hi =>
    obtain ⟨tk, e⟩ := (show ∃ t, u = Value.int i t from rv)
    cases e
    exact PySem.P.repr_of_int hi (fin _ _ _ fun _ _ e => e)
  | str x =>
    obtain ⟨tk, e⟩ := (show ∃ t, u = Value.str x t from rv)
    cases e
    exact PySem.P.repr_of_str (fin _ _ _ fun _ _ e => e) hz
  | @lst as0 _ d a xs ts e ha hs hn hi =>
    cases (show u = Value.ref a from rv)
    obtain ⟨_, its, n, rv, ho⟩ := (show ObjOk X.prog X.w H s.heap a (.lst xs) from I.hok a _ e)
    have hA := ShA.run T I.kIn I.hok hi its rv
    refine call_repr_slot (by omega) ⟨_, ho, rfl⟩ F.slot_list_repr.toG ?_
    cases its with
    | nil =>
      cases hA
      rw [listText_nil] at fin
      exact call_list_repr_empty ⟨_, ho, rfl⟩ ho rfl ⟨_, _, rfl, fin _ _ _ fun _ _ e => e⟩
    | cons x l =>
      exact call_list_reprK ho rfl rfl hn (by simpa using hA.length_eq) (fun i y q => hA.item i y (by simpa using q)) (by exact hg) (cl _) (by show X.A.units + 1 + (d + 1) < cLine; omega) (fun _ _ e => e) (fun h' x tk k => ⟨_, _, rfl, fin x h' tk k⟩) hz
  | @tup as0 _ d a xs ts e ha hs hn hi =>
    cases (show u = Value.ref a from rv)
    obtain ⟨_, its, rv, o, ho, hc, n, hd'⟩ := (show ObjOk X.prog X.w H s.heap a (.tup xs) from I.hok a _ e)
    have hA := ShA.run T I.kIn I.hok hi its rv
    refine call_repr_slot (by omega) ⟨o, ho, hc⟩ F.slot_tuple_repr ?_
    exact call_tuple_reprK ho hc hd' hn (by simpa using hA) (by exact hg) (cl _) (by show X.A.units + 1 + (d + 1) < cLine; omega) (fun _ _ e => e) (fun h' x tk k => ⟨_, _, rfl, fin x h' tk k⟩) hz
  | @dct as0 _ d a kvs ps e ha hs hn hi =>
    cases (show u = Value.ref a from rv)
    obtain ⟨_, hsys, vs, kv, o, es, ep, ho, hx, hd', _, hp, _⟩ := (show ObjOk X.prog X.w H s.heap a (.dK kvs) from I.hok a _ e)
    have hE := ShD.run T I.kIn I.hok hi vs kv es.toList hp
    refine call_repr_slot (by omega) ⟨o, ho, hx.1⟩ F.slot_dict_repr ?_
    exact call_dict_reprK ho hx.1 hd' hsys hn hE (by exact hg) (cl _) (by show X.A.units + 1 + (d + 1) < cLine; omega) (fun _ _ e => e) (fun h' x tk k => ⟨_, _, rfl, fin x h' tk k⟩) hz
  | @exc as0 _ d a dd t1 v t e et ha ht hd hs hi =>
    cases (show u = Value.ref a from rv)
    have ho := exw_at I.hok e
    obtain ⟨_, its, rv, o, hto, hc, n, hd'⟩ := (show ObjOk X.prog X.w H s.heap t1 (.tup [v]) from I.hok t1 _ et)
    cases rv with
    | cons r1 r2 =>
      cases r2
      obtain ⟨cd, hcd, hN⟩ := T.cl
      have x : ExcC X.K CW a t1 s.heap := ⟨I.kIn, _, _, ho, rfl, rfl, rfl⟩
      exact KaX.call_repr_C x hcd rfl hN T.ex T.rp ⟨o, n, hto, hc, hd'⟩ (Sh.run T I.kIn I.hok hi _ r1) hg (cl _) (by omega) (fun _ _ e => e) fin hz

/-- alike: two lists of the very same things, or one and the same thing -/
def Alk (CW : Addr) (NW : Str) (K : PySem.W.Frag) (H : Hp) (x y : V) : Prop :=
  (∃ a b xs, x = .ref a ∧ y = .ref b ∧ H a = some (.lst xs) ∧ H b = some (.lst xs) ∧ ∀ v ∈ xs, flatB v = true ∨ ∃ c, v = .ref c) ∨ (x = y ∧ ∃ as d t, Sh H CW NW as d x t)
theorem paired_self {F : V → V → Prop} : ∀ {xs : List V}, (∀ v ∈ xs, F v v) → Paired F xs xs
  | [], _ => .nil
  | v :: r, h => .cons (h v (List.mem_cons_self ..)) (paired_self fun u hu => h u (List.mem_cons_of_mem _ hu))
theorem sh_flat {H : Hp} {as : List Addr} {d : Nat} {v : V} {t : Str} (h : Sh H CW NW as d v t) : flatB v = true ∨ ∃ c, v = .ref c := by
  cases h with
  | non => exact .inl rfl
  | bl b => exact .inl rfl
  | int i hi => exact .inl rfl
  | str x => exact .inl rfl
  | lst => exact .inr ⟨_, rfl⟩
  | tup => exact .inr ⟨_, rfl⟩
  | dct => exact .inr ⟨_, rfl⟩
  | exc => exact .inr ⟨_, rfl⟩
theorem eqv_self {K : PySem.W.Frag} {H : Hp} {v : V} (h : flatB v = true ∨ ∃ c, v = .ref c) : EqV K H 1 v v := by
  rcases h with h | ⟨c, rfl⟩
  · exact .inl ⟨rfl, h⟩
  · exact .inr (.inl ⟨c, rfl, rfl⟩)
theorem shA_flat {H : Hp} : ∀ {as : List Addr} {d : Nat} {vs : List V} {ts : List Str}, ShA H CW NW as d vs ts → ∀ v ∈ vs, flatB v = true ∨ ∃ c, v = .ref c
  | _, _, _, _, .nil, _, h => nomatch h
  | _, _, _, _, .cons h r, v, m => by
    rcases List.mem_cons.mp m with z | z
    · rw [z]; exact sh_flat h
    · exact shA_flat r v z
theorem shD_flat {H : Hp} : ∀ {as : List Addr} {d : Nat} {kvs : List (Key × V)} {ts : List Str}, ShD H CW NW as d kvs ts → ∀ p ∈ kvs, flatB p.2 = true ∨ ∃ c, p.2 = .ref c
  | _, _, _, _, .nil, _, h => nomatch h
  | _, _, _, _, .cons h r, v, m => by
    rcases List.mem_cons.mp m with z | z
    · rw [z]; exact sh_flat h
    · exact shD_flat r v z
theorem kv_keys : ∀ {kvs : List (Key × V)} {vs : List (Key × Value)}, KV kvs vs → kvs.map (·.1) = vs.map (·.1)
  | _, _, .nil => rfl
  | _, _, .cons h r => by rw [List.map_cons, List.map_cons, h.1, kv_keys r]
theorem valV_in : ∀ {kvs : List (Key × V)} {p : Key × V}, (kvs.map (·.1)).Nodup → p ∈ kvs → valV kvs p.1 = some p.2
  | [], _, _, h => nomatch h
  | q :: r, p, nd, m => by
    rw [List.map_cons, List.nodup_cons] at nd
    rcases List.mem_cons.mp m with z | z
    · rw [z]
      exact valV_pos rfl
    · have ne : q.1 ≠ p.1 := fun e => nd.1 (by rw [e]; exact List.mem_map_of_mem z)
      have ih := valV_in nd.2 z
      unfold valV at ih ⊢
      rw [List.find?_cons]
      have ed : decide (q.1 = p.1) = false := decide_eq_false ne
      rw [ed]
      exact ih
theorem op_eqA (T : WrK X.K CW NW) (hu : X.A.units + 64 < cLine) : OpR X (compareOp .Eq) (fun x y H Q => Alk CW NW X.K H x y ∧ Q (.bl true) H) := by
  intro pins s σ H x y v u Q I rx ry h
  obtain ⟨h, q⟩ := h
  rcases h with ⟨a, b, xs, rfl, rfl, ha, hb, hx⟩ | ⟨rfl, as, d, t, hS⟩
  · exact op_eqV hu pins s σ H _ _ v u Q I rx ry ⟨1, by decide, .inl ⟨a, b, xs, xs, rfl, rfl, SqL.of ha, SqL.of hb, paired_self fun v m => eqv_self (hx v m)⟩, q⟩
  · have flat : ∀ (k : V), k = x → scal k k = true → wpAny (model X.prog X.w) X.A (compareOp .Eq v u) (EP X pins σ Q) X.xe s := by
      intro k e hk
      subst e
      exact op_eq pins s σ H _ _ v u Q I rx ry ⟨hk, by rw [decide_eq_true rfl]; exact q⟩
    cases hS with
    | non => exact flat .non rfl rfl
    | bl b => exact flat (.bl b) rfl rfl
    | int i hi => exact flat (.int i) rfl rfl
    | str z => exact flat (.str z) rfl rfl
    | @lst as0 _ d a xs ts e ha hs hn hi => exact op_eqV hu pins s σ H _ _ v u Q I rx ry ⟨1, by decide, .inl ⟨a, a, xs, xs, rfl, rfl, SqL.of e, SqL.of e, paired_self fun v m => eqv_self (shA_flat hi v m)⟩, q⟩
    | @tup as0 _ d a xs ts e ha hs hn hi =>
      cases (show v = Value.ref a from rx)
      cases (show u = Value.ref a from ry)
      obtain ⟨_, its, rv, o, ho, hc, n, hd'⟩ := (show ObjOk X.prog X.w H s.heap a (.tup xs) from I.hok a _ e)
      have it : s.heap.IsTuple a its.toArray := ⟨o, ho, hc, n, hd'⟩
      refine SeqAt.eq_tupleAt (e := fun _ => true) it it (by omega) (fun j h1 h2 => SeqAt.EqAt.same _) ?_
      have er : ((List.range (min its.toArray.size its.toArray.size)).all (fun _ => true) && its.toArray.size == its.toArray.size) = true := by simp
      rw [er]
      exact ⟨.bl true, H, I, rfl, q⟩
    | @dct as0 _ d a kvs ps e ha hs hn hi =>
      have nd : (kvs.map (·.1)).Nodup := by
        obtain ⟨_, _, vs, kv, _, _, _, _, _, _, _, _, hnd⟩ := (show ObjOk X.prog X.w H s.heap a (.dK kvs) from I.hok a _ e)
        rw [kv_keys kv]
        exact hnd
      refine op_eqV hu pins s σ H _ _ v u Q I rx ry ⟨1, by decide, .inr ⟨a, a, kvs, kvs, rfl, rfl, e, e, rfl, fun p m => ⟨p.2, valV_in nd m, eqv_self (shD_flat hi p m)⟩⟩, q⟩
    | @exc as0 _ d a dd t1 z t e et ha ht hd hs hi =>
      cases (show v = Value.ref a from rx)
      cases (show u = Value.ref a from ry)
      have ho := exw_at I.hok e
      have x : ExcC X.K CW a t1 s.heap := ⟨I.kIn, _, _, ho, rfl, rfl, rfl⟩
      exact KaX.rc_self x T.eq T.ob (by omega) ⟨.bl true, H, I, rfl, q⟩
end
end KaG


set_option maxRecDepth 100000
set_option maxHeartbeats 2000000
namespace KaG
open PySem PySem.Spec PyProof.Rows L2
section
variable {c : Bool} {X : Cx} {k : Nat} {f : Addr} {fd : FuncData} {ps : List Str} {sp : Sp} {x : Str} {p pos : Pos} {e : Expr} {es : List Expr} {t : TA}
/-- such a def is called -/
theorem pe_callG (F : FnG c X.prog X.w X.K X.mg X.base CX0 k f fd ps sp) (hr : GR k X.A) (hc : c = true → X.A.handled = none) (hg : Gl X x) (hm : X.mg x = some (.ref f)) (hk : PySem.W.keepIn X.K (.ref f) = true) (hb : Binds X.K fd ps [])
    (ha : PA X (e :: es) t) (hdb : (x == ("__debug__" : Str)) = false := by decide) (he : starEach (e :: es) X.env = (false, eval e X.env) :: starEach es X.env := by rfl)
    (hpl : (backTo pos (starEach es X.env)).any (·.1) = false := by rfl) : PE X (.Call (.Name x p) (e :: es) [] pos) (tCall sp [] E0 t) := by
  refine ⟨fun pins s σ H Q I h => ?_⟩
  refine wpAny_Call_Name_kw (ld_glob I hg hm ?_ hdb)
  refine PySem.W.callWith_K (h₀ := X.base) I.ok.mod.kin hk (thn (ha.run pos pins s σ H _ I h) fun us s1 z => ?_) he hpl
  obtain ⟨vs, H1, I1, r, q⟩ := z
  have q : sp (vs ++ []) H1 Q E0 := q
  rw [List.append_nil] at q
  refine ⟨I1.kIn, ?_⟩
  have hl : us.length = ps.length := r.length.symm.trans (F.len _ _ _ _ q)
  have bd := hb s1 us I1.kIn (by rw [List.append_nil]; exact hl)
  rw [List.append_nil] at bd
  show wpAny _ _ (call (.ref f) us) _ _ _
  refine wpAny_call (codeAny_mono (F.run X.A X.stack s1 H1 ⟨us, []⟩ us vs Q E0 hr hc I1.env0 bd r q) fun r' s' hq => ?_)
  rcases r' with er | fl
  · exact hq.elim
  · cases fl with
    | ret u => exact I1.after hq
    | next => exact hq.elim
    | brk => exact hq.elim
    | cont => exact hq.elim
end

/-- the law's own call -/
theorem law_G {P : Program} {w : World} {K : PySem.W.Frag} {mg mb : Str → Option Value} {k : Nat} {fa a : Addr} {fd : FuncData} {x : Str} {sp : Sp} {s₁ : Shared} {vs : List Value} {ns : List Int}
    (KX : K.In s₁.heap) (hns : s₁.heap.Ns mainGlobals mg) (hb : s₁.heap.Ns builtinsNs mb) (hbb : ∀ x : Str, x ≠ "__name__" → mb x = bootBuiltins x) (hlim : s₁.heap.NoLimit) (hg : s₁.gens = #[])
    (ha : s₁.heap.get? a = some { cls := .type "list", data := .seq vs.toArray }) (hi : IntsAre vs ns) (hl : ns.length ≤ sizeLine) (hr : GR k callerA)
    (F : ∀ base : Heap, K.In base → base.Ns mainGlobals mg → FnG true P w K mg base CX0 k fa fd [x] sp) (hbind : ∀ (s : Shared) (u : Value), BindsTo s fd ⟨[u], []⟩ [(x, u)])
    (hsp : ∀ H : Hp, Only H → SqL K H a (ns.map V.int) → sp [.ref a] H (fun v _ => v = .bl true) fun _ _ _ => False) :
    codeAny (model P w) callerA (.call (.ref fa) ⟨[.ref a], []⟩) (fun r s' => r = .ok (.ret (.bool true)) ∧ OldK s₁.heap s'.heap ∧ s'.os = s₁.os ∧ AllBare s'.gens) s₁ := by
  have rv := vals_ints hi
  have lenV := hi.length
  have core : ∀ H : Hp, Only H → SqL K H a (ns.map V.int) → HOk P w H s₁.heap → (∀ b, H b ≠ none → b = a) → (H a ≠ none → K.lookup a = none) →
      codeAny (model P w) callerA (.call (.ref fa) ⟨[.ref a], []⟩) (fun r s' => r = .ok (.ret (.bool true)) ∧ OldK s₁.heap s'.heap ∧ s'.os = s₁.os ∧ AllBare s'.gens) s₁ := by
    intro H hO hS hok hA hK
    have only_a : ∀ {b : Addr}, (∀ (q : b = a), False) → H b = none := by
      intro b nb
      cases q : H b with
      | none => rfl
      | some u => exact (nb (hA b (by rw [q]; simp))).elim
    have nsK : ∀ {b : Addr} {m : Str → Option Value}, s₁.heap.Ns b m → (hidT s₁.heap H).Ns b m := by
      rintro b m ⟨o, es, ep, e, d, r⟩
      refine ⟨o, es, ep, hidT_get e (only_a fun z => ?_), d, r⟩
      rw [z, ha] at e
      cases e
      cases d
    have hKb : K.In (hidT s₁.heap H) := by
      intro b o e
      refine hidT_get (KX b o e) ?_
      cases q : H b with
      | none => rfl
      | some u =>
        have z : b = a := hA b (by rw [q]; simp)
        rw [z] at e q
        rw [hK (by rw [q]; simp)] at e
        cases e
    have hM : Mod K mg (hidT s₁.heap H) := ⟨hKb, nsK hns, ⟨mb, nsK hb, hbb⟩, let ⟨mc, h1, h2⟩ := hlim; ⟨mc, nsK h1, h2⟩⟩
    have e0 : Env0 P w K mg (hidT s₁.heap H) callerA [] s₁ H := ⟨rfl, hM, fun b o e => of_hidT e, Nat.le_of_eq (hidT_size _ _), trivial, fun b hb => absurd (show b ∈ ([] : List Addr) from hb) (by simp), hok, .of_eq hg⟩
    have R := (F _ hKb (nsK hns)).run callerA [] s₁ H ⟨[.ref a], []⟩ [.ref a] [.ref a] _ _ hr (fun _ => rfl) e0 (hbind s₁ (.ref a)) (.cons rfl .nil) (hsp H hO hS)
    refine codeAny_mono R fun r s' h => ?_
    rcases r with er | fl
    · exact h.elim
    cases fl with
    | next => exact h.elim
    | brk => exact h.elim
    | cont => exact h.elim
    | ret u =>
      obtain ⟨v, H', os, bare, un, hok', r', q⟩ := h
      have q' : v = .bl true := q
      subst q'
      obtain rfl : u = Value.bool true := r'
      refine ⟨rfl, OldK.of_keep fun b o e => ?_, os, bare⟩
      cases q : H b with
      | none => exact un.keep b o e q (by intro z; exact absurd (show b ∈ ([] : List Addr) from z) (by simp)) (by simp)
      | some u =>
        rcases hO b with z | ⟨ob, xs, z⟩
        · rw [q] at z; cases z
        · obtain ⟨e1, _⟩ := hok b _ z
          obtain ⟨e2, _⟩ := hok' b _ (un.frzs b ob _ z)
          rw [e] at e1
          cases e1
          exact e2
  cases hk : K.lookup a with
  | some o =>
    have e := KX a o hk
    rw [ha] at e
    cases e
    refine core (fun _ => none) (fun _ => .inl rfl) (.inr ⟨_, vs.toArray, _, hk, rfl, rfl, rfl, by rw [List.size_toArray, lenV]; exact hl, by simpa using rv⟩) (fun b u z => ?_) (fun b z => absurd rfl z) fun z => absurd rfl z
    cases (show (none : Option HO) = some u from z)
  | none =>
    have at_a : ∀ {b : Addr} {y : HO}, (if b = a then some (HO.frz { cls := .type "list", data := .seq vs.toArray } (.lst (ns.map V.int))) else none) = some y → b = a ∧ y = HO.frz { cls := .type "list", data := .seq vs.toArray } (.lst (ns.map V.int)) := by
      intro b y z
      by_cases hb : b = a
      · rw [if_pos hb] at z
        exact ⟨hb, (Option.some.inj z).symm⟩
      · rw [if_neg hb] at z
        cases z
    refine core (fun b => if b = a then some (.frz { cls := .type "list", data := .seq vs.toArray } (.lst (ns.map V.int))) else none) (fun b => ?_) (.inl (.inr ⟨{ cls := .type "list", data := .seq vs.toArray }, if_pos rfl⟩)) (fun b u z => ?_) (fun b z => ?_) fun _ => hk
    · by_cases hb : b = a
      · exact .inr ⟨_, _, if_pos hb⟩
      · exact .inl (if_neg hb)
    · obtain ⟨e1, e2⟩ := at_a z
      subst e1 e2
      exact ⟨ha, by rw [List.length_map]; exact hl, vs, _, rv, ha⟩
    · cases y : (if b = a then some (HO.frz { cls := .type "list", data := .seq vs.toArray } (.lst (ns.map V.int))) else none) with
      | none => exact absurd y z
      | some u => exact (at_a y).1

theorem walk_G {l : PySem.W.OpenLaw} {n k : Nat} {q : Program} {loose : List Str} {XP : (Str → Option Value) → Heap → Prop} {YP : World → Heap → Prop} {d : DefRec} {K : Params → PySem.W.Frag} {sp : PySem.W.Frag → Sp} {x : Str}
    (hn : l.most = some n) (hn2 : n ≤ sizeLine) (hdf : d.params.defaults = []) (hr : GR k callerA) (hY : ∀ (w : World) (h : Heap), YP w h → (K w.params).In h)
    (F : ∀ (w : World) (mg : Str → Option Value) (fa : Addr) (h : Heap), (K w.params).In h → h.Ns mainGlobals mg → mg d.name = some (.ref fa) →
      ∃ fd : FuncData, (∀ (s : Shared) (u : Value), BindsTo s fd ⟨[u], []⟩ [(x, u)]) ∧ ∀ base : Heap, (K w.params).In base → base.Ns mainGlobals mg → FnG true l.prog w (K w.params) mg base CX0 k fa fd [x] (sp (K w.params)))
    (hsp : ∀ (K : PySem.W.Frag) (H : Hp) (a : Addr) (ns : List Int), ns.length ≤ n → Only H → SqL K H a (ns.map V.int) → sp K [.ref a] H (fun v _ => v = .bl true) fun _ _ _ => False) :
    PySem.W.WalkO q loose XP YP l.row.toRowW d [] (fun f vs => PySem.call f vs) := by
  refine Att.attach_call hn hdf fun w s₀ s₁ mg mb fa o pm cd doc a vs ns G Y ho hd hcd hmg hobj hints hlen hg => ?_
  have KX := hY w _ Y
  obtain ⟨fd, hb, hF⟩ := F w mg fa _ KX G.T.g hmg
  exact law_G KX G.T.g G.T.b G.T.builtins G.T.nolimit hg hobj hints (Nat.le_trans hlen hn2) hr hF hb fun H hO hS => hsp (K w.params) H a ns hlen hO hS
end KaG


set_option maxRecDepth 100000
set_option maxHeartbeats 2000000
namespace KaG
open PySem PySem.Spec PyProof.Rows L2
section
variable {P : Program} {w : World} {K : PySem.W.Frag} {mg : Str → Option Value} {base : Heap} {CW : Addr} {NW : Str}
theorem ok_alikeD {f : Addr} {fd : FuncData} (F : Fun K "_law_alike" "_law_alike" sAlike f fd) (T : TxtB mg) (W : WrK K CW NW) : FnG false P w K mg base CX0 1 f fd ["found", "due"] (spAlikeD K) := by
  refine fnG_of F scAlike (fun vs H Q E h => ?_) (fun cdv A outer s H vs Q E hr hc h => ?_)
  · obtain ⟨x, y, d, rfl, _⟩ := h
    rfl
  · obtain ⟨x, y, d, rfl, h1, h2, h3, h4, h5, k⟩ := h
    have u64 : (A.deeper (envOfC "_law_alike" (defScope sAlike) s.heap.objs.size f cdv)).units + 64 < cLine := by have := hr.un; omega
    have u60 : (A.deeper (envOfC "_law_alike" (defScope sAlike) s.heap.objs.size f cdv)).units + 60 < cLine := by have := hr.un; omega
    refine ⟨_, pss_one (ps_ret (pe_and (pe_cmpR (op_eqD u64) (pv 0) (pv 1) (nomark _))
      (pe_one (pe_cmpR op_eq (pe_callB (call_reprS (CW := CW) (NW := NW) (by exact W) hr.gd u60) (by rfl) T.repr (by decide +kernel) (pa_cons (pv 0) pa_nil))
        (pe_callB (call_reprS (CW := CW) (NW := NW) (by exact W) hr.gd u60) (by rfl) T.repr (by decide +kernel) (pa_cons (pv 1) pa_nil)) (nomark _))))), ?_⟩
    obtain ⟨as, s1, _⟩ := Rep.sh (CW := CW) (NW := NW) h1
    obtain ⟨bs, s2, _⟩ := Rep.sh (CW := CW) (NW := NW) h2
    have shp : SeqAt.shaped d = true := by
      unfold SeqAt.shaped
      rw [h3, decide_eq_true (show d.depth ≤ 64 by omega)]
      rfl
    refine ⟨_, rfl, _, rfl, d, d, Rep.dp h1, Rep.dp h2, shp, shp, _, rfl, ?_⟩
    rw [SeqAt.eqv_refl d h3]
    refine iteT ⟨_, rfl, x, as, d.depth, txt d, rfl, s1, h4, h5, _, rfl, y, bs, d.depth, txt d, rfl, s2, h4, h5, rfl, ?_⟩
    rw [decide_eq_true rfl]
    exact k
end
end KaG


set_option maxRecDepth 100000
set_option maxHeartbeats 2000000
namespace KaG
open PySem PySem.Spec PyProof.Rows L2
inductive Dial
  | nm (n w : Str)
  | pl (p : Plc) (w : Str)
def DlAt (H : Hp) (a : Addr) : Dial → Prop
  | .nm n w => H a = some (.tup [.str n, .str w])
  | .pl p w => ∃ q, H a = some (.tup [.ref q, .str w]) ∧ H q = some (.tup [.str p.1, .int (p.2.1 : Int), .int (p.2.2 : Int)])
theorem DlAt.ts {H H' : Hp} {a : Addr} {d : Dial} (h : DlAt H a d) (s : TSame H H') : DlAt H' a d := by
  cases d with
  | nm n w => exact s _ _ h
  | pl p w =>
    obtain ⟨q, h1, h2⟩ := h
    exact ⟨q, s _ _ h1, s _ _ h2⟩
/-- the need at a place -/
def needAt (ks : List Kd) (p : Plc) (its : List V) : Prop := ∃ k ∈ ks, k.name = p.1 ∧ ∃ g, k.gs[p.2.1]? = some g ∧ g[p.2.2]? = some its
def DialOk (ks : List Kd) : Dial → Prop
  | .nm n w => n ∈ ks.map Kd.name ∧ (w = "keep" ∨ w = "bar")
  | .pl p w => ∃ its, needAt ks p its ∧ (w = "tell" ∨ w = "most" ∨ (w = "after" ∧ its.head? = some (.str "kind")))
theorem place_need {ks : List Kd} {p : Plc} (h : p ∈ placesOf ks) : ∃ its, needAt ks p its := by
  unfold placesOf at h
  obtain ⟨k, hk, h⟩ := List.mem_flatMap.mp h
  unfold plK at h
  obtain ⟨g, hg, h⟩ := List.mem_flatMap.mp h
  unfold plG at h
  obtain ⟨n, hn, rfl⟩ := List.mem_map.mp h
  rw [List.mem_range] at hg hn
  have e : k.gs[g]? = some k.gs[g] := by simp [hg]
  have e2 : k.gs.getD g [] = k.gs[g] := by simp [hg]
  rw [e2] at hn
  exact ⟨k.gs[g][n], k, hk, rfl, k.gs[g], e, by simp [hn]⟩
theorem paired_at2 {α β : Type} {R : α → β → Prop} : ∀ {xs : List α} {ys : List β} {i : Nat} {y : β}, Paired R xs ys → ys[i]? = some y → ∃ x, xs[i]? = some x ∧ R x y
  | _, _, i, _, .nil, e => by simp at e
  | _, _, 0, _, .cons h r, e => by
    cases e
    exact ⟨_, rfl, h⟩
  | _, _, i + 1, _, .cons h r, e => by
    obtain ⟨x, q1, q2⟩ := paired_at2 r (show _ = some _ from e)
    exact ⟨x, q1, q2⟩
theorem kvs_keys {ks : List Kd} {kas : List Addr} (h : ks.length ≤ kas.length) : (kvsOf ks kas).map (·.1) = (ks.map Kd.name).map Sum.inr := by
  unfold kvsOf
  rw [List.map_map, List.map_map]
  have : ((fun x : Key × V => x.1) ∘ fun z : Kd × Addr => (Sum.inr z.1.name, V.ref z.2)) = (Sum.inr ∘ Kd.name) ∘ Prod.fst := rfl
  rw [this, ← List.map_map, List.map_fst_zip h]
/-- kinds[name][3][g][n], as it stands in the heap -/
theorem need_reach {H : Hp} {b : Addr} {rows : List Str} {ks : List Kd} {kas : List Addr} {p : Plc} {its : List V} (hA : BookAt H b rows ks) (hK : KasOf H b kas) (nd : (ks.map Kd.name).Nodup) (h : needAt ks p its) :
    ∃ (ka gt : Addr) (gas : List Addr) (ga : Addr) (nas : List Addr) (na : Addr) (k : Kd), valV (kvsOf ks kas) (Sum.inr p.1) = some (.ref ka) ∧ H ka = some (.tup [.str k.name, .int k.keep, .int k.bar, .ref gt]) ∧ H gt = some (.tup (gas.map V.ref)) ∧
      gas[p.2.1]? = some ga ∧ H ga = some (.tup (nas.map V.ref)) ∧ nas[p.2.2]? = some na ∧ H na = some (.tup its) := by
  obtain ⟨k, mk, kn, g, hg, hn⟩ := h
  obtain ⟨r, kt, kas', e1, e2, e3, pk⟩ := hA
  obtain ⟨r', kt', g1, g2⟩ := hK
  rw [e1] at g1
  cases g1
  rw [e3] at g2
  obtain rfl : kas' = kas := refs_inj (HO.tup.inj (Option.some.inj g2))
  obtain ⟨i, hi⟩ := List.getElem?_of_mem mk
  obtain ⟨ka, hka, gt, gas, f1, f2, f3⟩ := paired_at2 pk hi
  obtain ⟨ga, hga, nas, h1, h2⟩ := paired_at2 f3 hg
  obtain ⟨na, hna, h3⟩ := paired_at2 h2 hn
  have hlen := paired_len pk
  have mz : (Sum.inr k.name, V.ref ka) ∈ kvsOf ks kas' := by
    unfold kvsOf
    refine List.mem_map.mpr ⟨(k, ka), ?_, rfl⟩
    exact List.mem_of_getElem? ((List.getElem?_zip_eq_some (z := (k, ka))).mpr ⟨hi, hka⟩)
  have nk : ((kvsOf ks kas').map (·.1)).Nodup := by
    rw [kvs_keys (by omega)]
    exact List.pairwise_map.mpr (nd.imp fun h z => h (Sum.inr.inj z))
  refine ⟨ka, gt, gas, ga, nas, na, k, ?_, f1, f2, hga, h1, hna, h3⟩
  rw [← kn]
  exact valV_in nk mz
end KaG


set_option maxRecDepth 100000
set_option maxHeartbeats 2000000
namespace KaG
open PySem PySem.Spec PyProof.Rows L2
section
variable {P : Program} {w : World} {K : PySem.W.Frag} {mg : Str → Option Value} {base : Heap}
def DlsAt (H : Hp) (ks : List Kd) (as : List Addr) : Prop := ∀ a ∈ as, ∃ d, DlAt H a d ∧ DialOk ks d
theorem DlsAt.ts {H H' : Hp} {ks : List Kd} {as : List Addr} (h : DlsAt H ks as) (s : TSame H H') : DlsAt H' ks as := fun a m => let ⟨d, q, o⟩ := h a m; ⟨d, q.ts s, o⟩
theorem DlsAt.app {H : Hp} {ks : List Kd} {as bs : List Addr} (h : DlsAt H ks as) (g : DlsAt H ks bs) : DlsAt H ks (as ++ bs) := fun a m => (List.mem_append.mp m).elim (h a) (g a)
def spDials : Sp := fun vs H Q _ => ∃ (b : Addr) (rows : List Str) (ks : List Kd) (kas : List Addr), vs = [.ref b] ∧ BookAt H b rows ks ∧ KasOf H b kas ∧ BookOk rows ks ∧ ∀ (p : Addr) (as : List Addr) (H' : Hp), Same H H' → H p = none → H' p = some (.lst (as.map V.ref)) → DlsAt H' ks as → as.length ≤ 200 → Q (.ref p) H'
end
end KaG


set_option maxRecDepth 100000
set_option maxHeartbeats 2000000
namespace KaG
open PySem PySem.Spec PyProof.Rows L2
/-- a statement that is never reached -/
theorem ps_no {X : Cx} {st : Stmt} : PS X st (fun _ _ _ => False) := ⟨fun _ _ _ _ _ _ h => h.elim⟩
abbrev sKindOf : Stmt := top 5
section
variable {P : Program} {w : World} {K : PySem.W.Frag} {mg : Str → Option Value} {base : Heap}
theorem scKindOf : FnScope ["rulebook", "name", "kind"] ["rulebook", "name"] (defScope sKindOf) := ⟨rfl, rfl, rfl, by decide +kernel, rfl, by decide +kernel, by decide +kernel⟩
/-- the kind with a name that is there -/
def spKindOf0 : Sp := fun vs H Q _ => ∃ (b : Addr) (rows : List Str) (ks : List Kd) (kas : List Addr) (i : Nat) (k : Kd) (ka : Addr), vs = [.ref b, .str k.name] ∧ BookAt H b rows ks ∧ KasOf H b kas ∧ (ks.map Kd.name).Nodup ∧ ks[i]? = some k ∧ kas[i]? = some ka ∧ Q (.ref ka) H
theorem ok_kindOf0 {f : Addr} {fd : FuncData} (F : Fun K "kind_of" "kind_of" sKindOf f fd) : FnOk P w K mg base CX0 1 f fd ["rulebook", "name"] spKindOf0 := by
  refine F.ok scKindOf (fun vs H Q E h => ?_) (fun cdv A outer s H vs Q E hr h => ?_)
  · obtain ⟨b, rows, ks, kas, i, k, ka, rfl, _⟩ := h
    rfl
  · obtain ⟨b, rows, ks, kas, i, k, ka, rfl, hA, hK, nd, hi, hka, q⟩ := h
    refine ⟨_, (pss_cons (ps_for PassesOwn.never rfl (pi_tup (pe_ix ix_tup (pv 0) pe_int (fun _ _ => rfl))) (pg_name (i := 2) scKindOf.nd rfl (Or.inl rfl)) (pss_one (ps_if (pt_cmpR op_eq (pe_ix ix_tup (pv 2) pe_int (fun _ _ => rfl)) (pv 1) (nomark _)) (pss_one (ps_ret (pv 2))) pss_nil)))
      (pss_one ps_no)), ?_⟩
    obtain ⟨r, kt, kas', e1, e2, e3, pk⟩ := id hA
    obtain ⟨r', kt', g1, g2⟩ := hK
    rw [e1] at g1
    cases g1
    rw [e3] at g2
    obtain rfl : kas' = kas := refs_inj (HO.tup.inj (Option.some.inj g2))
    have hlen := paired_len pk
    refine ⟨_, rfl, b, _, 1, .ref kt, rfl, rfl, SqT.of e1, rfl, kt, rfl, ⟨_, SqT.of e3⟩, for_tup (K := K) (a := kt) (xs := kas'.map V.ref) (fun j σ' G => G = H ∧ j ≤ i ∧ ∃ x2 : Option V, σ' = [some (.ref b), some (.str k.name), x2]) ?_ ?_ ?_ ?_⟩
    · exact ⟨rfl, Nat.zero_le _, _, rfl⟩
    · rintro j σ' G _ ⟨rfl, _⟩
      exact SqT.of e3
    · rintro j x σ' G hx ⟨rfl, hj, x2, rfl⟩
      rw [List.getElem?_map] at hx
      obtain ⟨a, ha, rfl⟩ := Option.map_eq_some_iff.mp hx
      obtain ⟨kd, hkd, gt, gas, f1, _⟩ := paired_at pk ha
      refine ⟨_, rfl, a, _, 0, .str kd.name, rfl, rfl, SqT.of f1, rfl, _, rfl, rfl, _, rfl, ite2 (fun hc => ?_) fun hc => ?_⟩
      · have en : kd.name = k.name := by
          exact V.str.inj (of_decide_eq_true hc)
        have ej : j = i := by
          have h1 : (ks.map Kd.name)[j]? = some kd.name := by rw [List.getElem?_map, hkd]; rfl
          have h2 : (ks.map Kd.name)[i]? = some kd.name := by rw [List.getElem?_map, hi, en]; rfl
          have hj1 := (List.getElem?_eq_some_iff.mp h1).1
          exact (List.getElem?_inj hj1 nd).mp (h1.trans h2.symm)
        subst ej
        rw [ha] at hka
        cases hka
        exact ⟨_, rfl, q⟩
      · refine ⟨rfl, ?_, _, rfl⟩
        have nj : j ≠ i := fun z => by
          subst z
          rw [hkd] at hi
          cases hi
          exact hc (decide_eq_true rfl)
        omega
    · rintro σ' G ⟨rfl, hj, _⟩
      have := (List.getElem?_eq_some_iff.mp hka).1
      rw [List.length_map] at hj
      exact absurd this (by omega)
def spNeedAt : Sp := fun vs H Q _ => ∃ (b a : Addr) (rows : List Str) (ks : List Kd) (p : Plc) (its : List V), vs = [.ref b, .ref a] ∧ BookAt H b rows ks ∧ (ks.map Kd.name).Nodup ∧ H a = some (.tup [.str p.1, .int (p.2.1 : Int), .int (p.2.2 : Int)]) ∧ needAt ks p its ∧ ∀ na : Addr, H na = some (.tup its) → Q (.ref na) H
end
end KaG


set_option maxRecDepth 100000
set_option maxHeartbeats 4000000
/-! enumerate(t), t a tuple -/
namespace KaC
open PySem PySem.Spec PyProof.Rows L2
theorem enum_newT (l : Addr) (items : Array Value) (n : Nat) (dct : Option Addr) (sl : Array (Option Value)) : Meets (Builtin.«enumerate.__new__» ⟨[.type "enumerate", .ref l], []⟩) (fun _ R s => s.heap.get? l = some { cls := .type "tuple", dict := dct, data := .seq items n, slots := sl } ∧
      R (.ok (.ret (.ref (s.heap.push { cls := .type "tuple_iterator", data := .fields #[.ref l, .int 0 0] }).objs.size))) { s with heap := (s.heap.push { cls := .type "tuple_iterator", data := .fields #[.ref l, .int 0 0] }).push { cls := .type "enumerate", data := .fields #[.none, .bool false, .ref s.heap.objs.size, rawInt 0, .none, .none] } }) :=
  .of_wp fun prog w A R s h => by
    obtain ⟨hp, g, d, tk, os⟩ := s
    obtain ⟨hl, h⟩ := h
    have hsub := sub_enumerate
    have hL : Heap.IsTuple (Shared.heap ⟨hp, g, d, tk, os⟩) l items := ⟨_, hl, rfl, n, rfl⟩
    wp_walk using AutoSeq1.wpAny_loadPart' hl
    refine wpAny_stack_any fun st => wpAny_pure ?_
    split
    · rename_i c _ _ _ _ _
      cases (c == Value.type "enumerate") <;> (wp_walk using AutoSeq1.wpAny_loadPart' hl, wpAny_pyIter_tuple hL) <;> exact ⟨_, rfl, h⟩
    · wp_walk using AutoSeq1.wpAny_loadPart' hl, wpAny_pyIter_tuple hL
      exact ⟨_, rfl, h⟩
theorem call_enumT {prog : Program} {w : World} {A : Around} {E : Value → Shared → Prop} {s : Shared} {l : Addr} {items : Array Value} {Q : Value → Shared → Prop} (hL : s.heap.IsTuple l items)
    (h : ∀ h', IsEnum h' (s.heap.objs.size + 1) s.heap.objs.size 0 .none → h'.IsTupleIter s.heap.objs.size l 0 → (∀ b o, s.heap.get? b = some o → h'.get? b = some o) → Q (.ref (s.heap.objs.size + 1)) { s with heap := h' }) :
    wpAny (model prog w) A (call (.type "enumerate") [.ref l]) Q E s := by
  obtain ⟨⟨c, dct, dt, sl⟩, hl, hc, n, hd⟩ := hL
  obtain rfl : c = .type "tuple" := hc
  obtain rfl : dt = .seq items n := hd
  refine callType_new F.called_enumerate (by decide) (F.typeCall_enumerate_1 _) (F.newCall_enumerate_1 _) (fun obj => F.args_object_init_2 obj _) F.entry_enumerate_new (enum_newT l items n dct sl) ⟨hl, ?_⟩
  have hz : (s.heap.push { cls := .type "tuple_iterator", data := .fields #[.ref l, .int 0 0] }).objs.size = s.heap.objs.size + 1 := Heap.size_push ..
  change _ ∧ _
  rw [hz]
  have he : IsEnum ((s.heap.push { cls := .type "tuple_iterator", data := .fields #[.ref l, .int 0 0] }).push { cls := .type "enumerate", data := .fields #[.none, .bool false, .ref s.heap.objs.size, rawInt 0, .none, .none] }) (s.heap.objs.size + 1) s.heap.objs.size 0 .none := by
    have q := Heap.get?_push_size (s.heap.push { cls := .type "tuple_iterator", data := .fields #[.ref l, .int 0 0] }) (o := { cls := .type "enumerate", data := .fields #[.none, .bool false, .ref s.heap.objs.size, rawInt 0, .none, .none] }) rfl
    rw [hz] at q; exact q
  exact ⟨⟨_, he, rfl⟩, h _ he ⟨_, Heap.get?_push_of_some _ (Heap.get?_push_size _ rfl), rfl, rfl⟩ fun b o x => Heap.get?_push_of_some _ (Heap.get?_push_of_some _ x)⟩
end KaC


set_option maxRecDepth 100000
set_option maxHeartbeats 4000000
namespace KaC
open PySem PySem.Spec PyProof.Rows L2
/-- the tuple at a, each item in a new pair -/
def ItT (K : PySem.W.Frag) (a : Addr) : It :=
  ⟨fun i H => ∃ (xs : List V) (x : V), SqT K H a xs ∧ xs[i]? = some x, fun i H v H' => ∃ T x, v = .ref T ∧ H T = none ∧ H' = upd H T (.tup [.int (i : Nat), x]) ∧ ∀ xs, SqT K H a xs → xs[i]? = some x, fun i H => ∃ xs : List V, SqT K H a xs ∧ xs.length ≤ i⟩
theorem cls_ne {h : Heap} {x y : Addr} {m n : String} (hmn : m ≠ n) (h1 : ∃ o, h.get? x = some o ∧ o.cls = .type m) (h2 : ∃ o, h.get? y = some o ∧ o.cls = .type n) : x ≠ y := fun z => by
  obtain ⟨o1, e1, c1⟩ := h1
  obtain ⟨o2, e2, c2⟩ := h2
  rw [z, e2] at e1
  cases e1
  rw [c2] at c1
  injection c1 with c1
  exact hmn c1.symm
theorem tup_inj {X : Cx} {pins : List (Addr × Obj)} {σ : L2.St} {H : Hp} {s : Shared} {a : Addr} {xs ys : List V} (I : Inv X pins σ H s) (h1 : SqT X.K H a xs) (h2 : SqT X.K H a ys) : xs = ys := I.tuple_inj h1 h2
theorem turn_enumT {P : Program} {w : World} {K : PySem.W.Frag} {elts : List Expr} {kk : Nat} {tpos : Pos} (a e it : Addr) : Turn P w K (.Tuple elts kk tpos) (ItT K a) [e, it] e (fun i h => (∃ old, IsEnum h e it ((i : Nat) : Int) old) ∧ h.IsTupleIter it a i ∧ e ≠ it) where
  mem := List.mem_cons_self ..
  obj := fun i h st b hb => by
    obtain ⟨⟨old, he⟩, ⟨o, ho, hc, hd⟩, _⟩ := st
    rcases (by simpa using hb : b = e ∨ b = it) with z | z
    · subst z; exact ⟨_, he, fun v q => nomatch q⟩
    · subst z; exact ⟨o, ho, fun v q => by rw [hd] at q; cases q⟩
  keep := fun i h h' st k => let ⟨⟨old, he⟩, hi, hne⟩ := st; ⟨⟨old, k e (by simp) _ he⟩, hi.at fun o q => k it (by simp) o q, hne⟩
  item := fun X hP hw hK hc i pins s σ H E I hf st hg => by
    subst hP hw hK
    obtain ⟨⟨old, he⟩, hit, hne⟩ := st
    obtain ⟨xs, x, hq, hx⟩ := hg
    obtain ⟨its, rv, p, hz⟩ := I.tuple hq
    obtain ⟨u, hu, ru⟩ := rv.get hx
    have hel : e < s.heap.objs.size := Heap.lt_size he
    have hil : it < s.heap.objs.size := by obtain ⟨_, q, _⟩ := hit; exact Heap.lt_size q
    have pT : ∃ o, s.heap.get? a = some o ∧ o.cls = .type "tuple" := let ⟨o, h1, h2, _⟩ := p; ⟨o, h1, h2⟩
    have nai : a ≠ it := cls_ne (by decide) pT (let ⟨o, h1, h2, _⟩ := hit; ⟨o, h1, h2⟩)
    have nae : e ≠ a := cls_ne (m := "enumerate") (n := "tuple") (by decide) ⟨_, he, rfl⟩ pT
    have hix : i < its.toArray.size := by
      have := (List.getElem?_eq_some_iff.mp hu).1
      simpa using this
    refine wpAny_pyNext_enum_itemD (Draws.tuple (by simp [I.ok.hd hc]) it a nai its.toArray) he ⟨hit, p⟩ hix hne (by simp [hne, nae]) fun x' h' tk hx' ho st' hT hsz hk => ?_
    have ex : x' = u := by
      have : its.toArray[i]? = some x' := hx'
      simp only [List.getElem?_toArray] at this
      rw [hu] at this
      exact (Option.some.inj this).symm
    subst ex
    refine ⟨_, rfl, wpAny_letOwnedTupleGo_enum (s := { s with heap := h', toks := tk + 1 }) ho fun h2 he2 sb => ?_⟩
    have hT2 : h2.get? s.heap.objs.size = some { cls := .type "tuple", data := .seq #[.int i tk, x'] } := (sb.2 _ (Nat.ne_of_gt hel)).trans hT
    have I1 : Inv X pins σ (upd H s.heap.objs.size (.tup [.int (i : Nat), x])) { s with heap := h2, toks := tk + 1 } :=
      I.turnedNew (ch := [e, it]) (fun b ob hb q => (sb.2 b (fun z => hb (by simp [z]))).trans (hk b ob (fun z => hb (by simp [z])) (fun z => hb (by simp [z])) q)) hf (Nat.le_refl _)
        ⟨by show 2 ≤ sizeLine; decide, [.int i tk, x'], .cons ⟨_, rfl⟩ (.cons ru .nil), ⟨_, hT2, rfl, _, rfl⟩⟩
    refine ⟨.ref s.heap.objs.size, _, I1, rfl, ⟨_, x, rfl, I.hok.fresh (Nat.le_refl _), rfl, fun ys hy => by rw [tup_inj I hy hq]; exact hx⟩, ⟨⟨x', ?_⟩, st'.1.at fun o q => (sb.2 it (Ne.symm hne)).trans q, hne⟩, fun b hb => ?_⟩
    · rw [show ((i + 1 : Nat) : Int) = (i : Int) + 1 by omega]; exact he2
    · have hb' : b < s.heap.objs.size := by
        rcases (by simpa using hb : b = e ∨ b = it) with z | z
        · rw [z]; exact hel
        · rw [z]; exact hil
      rw [upd_ne (Nat.ne_of_lt hb')]
      exact (hf b hb).1
  done := fun X hP hw hK hc i pins s σ H E I hf st hg => by
    subst hP hw hK
    obtain ⟨⟨old, he⟩, hit, hne⟩ := st
    obtain ⟨xs, hq, hx⟩ := hg
    obtain ⟨its, rv, p, hz⟩ := I.tuple hq
    obtain ⟨f0, f1, f2, f3, f4, f5⟩ := hf it (by simp)
    have hl := rv.length
    have hT : s.TypeIs (.ref e) "enumerate" := ⟨_, he, rfl⟩
    unfold pyNext
    refine wpAny_bind (wpAny_attempt (wpAny_callSpecial?_slot (name := Str.ofString "__next__") hT F.slot_enumerate_next (wpAny_call_entry F.slot_enumerate_next hT F.entry_enumerate_next ?_ (F.args_enumerate_next_1 _))))
    change wpAny _ _ (field (.ref e) 2 >>= _) _ _ _
    refine wpAny_bind (wpAny_field he rfl (x := .ref it) rfl ?_)
    refine wpAny_bind (wpAny_nextOf_tuple_end (by simp [I.ok.hd hc]) hit p (by simp; omega) fun h' x he' hx' => ?_)
    obtain ⟨o, ho, hoc⟩ := hx'
    exact wpAny_bind (wpAny_isInstance (T := "StopIteration") (b := true) ⟨o, ho, hoc⟩ isSubtype_stop (wpAny_pure ⟨rfl, I.turned (t' := s.toks) (fun b o hb q => he' b o hb q) f0 f1 f3 f4 f5⟩))
  self := fun A i s Q E st h => let ⟨⟨_, he⟩, _⟩ := st; wpAny_pyIter_enum he h
def iEnumT (K : PySem.W.Frag) (ta : TA) : TI := fun σ H R => ta σ H fun vs H1 => ∃ a xs, vs = [.ref a] ∧ SqT K H1 a xs ∧ R (ItT K a) H1
theorem pi_enumT {X : Cx} {e : Expr} {ta : TA} {p pos tpos : Pos} {elts : List Expr} {kk : Nat} (hg : Gl X "enumerate") (hm : X.mg "enumerate" = none) (ha : PA X [e] ta) (hs : starEach [e] X.env = [(false, eval e X.env)] := by rfl) : PI X (.Tuple elts kk tpos) (.Call (.Name "enumerate" p) [e] [] pos) (iEnumT X.K ta) := by
  refine ⟨fun pins s σ H R I h => ?_⟩
  refine Call_ (ld_blt I hg hm boot_enumerate (PyProof.Rows.callWith_type1 (thn (ha.run pos pins s σ H _ I h) fun us s1 ⟨vs, H1, I1, r1, a, xs, ex, hq, q⟩ => ?_) hs rfl))
  subst ex
  rw [Vals.ref1 r1]
  obtain ⟨its, rv, p2, hz⟩ := I1.tuple hq
  refine call_enumT p2 fun h' he hit hk => wpAny_pyIter_enum he ?_
  refine ⟨s1.heap.objs.size + 1, [s1.heap.objs.size + 1, s1.heap.objs.size], _, _, H1, rfl, I1.kept (t' := s1.toks) hk, turn_enumT a (s1.heap.objs.size + 1) s1.heap.objs.size, ⟨⟨.none, he⟩, hit, Nat.succ_ne_self _⟩, fun b hb => ?_, q⟩
  have hle : s1.heap.objs.size ≤ b := by
    rcases (by simpa using hb : b = s1.heap.objs.size + 1 ∨ b = s1.heap.objs.size) with z | z
    · rw [z]; exact Nat.le_add_right _ _
    · rw [z]; exact Nat.le_refl _
  exact I1.fpOk hle (I1.hok.fresh hle)
end KaC


set_option maxRecDepth 100000
set_option maxHeartbeats 4000000
/-! comprehensions of three clauses: a clause as a piece that another one follows -/
namespace KaC
open PySem PySem.Spec PyProof.Rows L2
/-- what a piece is to reach, by what stands ahead of it -/
abbrev TC := L2.St → Hp → (Hp → Prop) → Prop
/-- M, run in the block, keeps the slots but those of vs and reaches Nx -/
def Piece (B : Cx) (vs : List Nat) (M : Sem PySem.Fin → Sem PySem.Fin) (tl : TC) : Prop := ∀ (k : Sem PySem.Fin) (R : PySem.Fin → Shared → Prop) (E : Value → Shared → Prop) (pins : List (Addr × Obj)) (s : Shared) (σ : L2.St) (H : Hp) (Nx : Hp → Prop), Inv B pins σ H s → tl σ H Nx →
  (∀ σ' H' s', Inv B pins σ' H' s' → σ.length = σ'.length → (∀ (i : Nat) v, i ∉ vs → σ[i]? = some (some v) → σ'[i]? = some (some v)) → Nx H' → wpAny (model B.prog B.w) B.A k R E s') → wpAny (model B.prog B.w) B.A (M k) R E s
def tEl (D : Addr) (te : TE) : TC := fun σ H Nx => te σ H fun y H1 => ∃ acc, H1 D = some (.lst acc) ∧ acc.length < sizeLine ∧ Nx (upd H1 D (.lst (acc ++ [y])))
def tCl (wi : TI) (g : TG) (tt : TT) (vs : List Nat) (tl : TC) : TC := fun σ H Nx => wi σ H fun J H1 => ∃ W : Nat → Nat → Hp → Prop, (∃ m, W 0 m H1) ∧ ∀ j k H, W j k H →
  (J.stop j H ∧ Nx H) ∨ (J.go j H ∧ ∃ N1 : Hp → Prop, (∀ H', N1 H' → ∃ k', k' < k ∧ W (j + 1) k' H') ∧ ∀ x H', J.yld j H x H' → g x (wipe σ vs) H' fun σ3 H5 => wipe σ3 vs = wipe σ vs ∧ tt σ3 H5 fun b H6 => if b = true then tl σ3 H6 N1 else N1 H6)
section
variable {X : Cx} {s3 : Shared} {H3 : Hp} {scope : Scope} {ce : Env} {fp : List Addr} {D : Addr}
theorem piece_elt {elt : Expr} {te : TE} (pe : PE (X.blk s3 H3 scope ce fp) elt te) : Piece (X.blk s3 H3 scope ce fp) [] (fun k => (do let _ ← call (.builtin "list.append") [.ref D, ← eval elt ce] : Sem PUnit) >>= fun _ => k) (tEl D te) := by
  intro k R E pins s σ H Nx I h hk
  refine wpAny_bind (wpAny_bind (thnF (pe.run pins s σ H _ I h) fun z s1 ⟨y, H1, I1, r1, acc, hD, hz, nx⟩ => ?_))
  refine wpAny_bind (app_ok (X := X.blk s3 H3 scope ce fp) I1 hD hz r1 fun s2 I2 => ?_)
  exact wpAny_pure (hk σ _ s2 I2 rfl (fun _ _ _ e => e) nx)
/-- what a turn of such a clause is -/
def TurnIs (e : Expr) (d : Nat) (tg : Expr) (ifs : List Expr) (p : Pos) (D : Addr) (ce : Env) (M : Sem PySem.Fin → Sem PySem.Fin) : Prop := ∀ it : Value, compTurn e d it (.ref D) ce = (do
  standAt p
  match ← pyNext it with
  | none => pure (.done .next)
  | some v =>
    letOwnedTupleGo tg it v
    assign tg ce v
    let mut ok := true
    for c in ifs do
      if ok then ok ← isTrue c ce (eval c ce)
    if ok then M (again (.compLoop e d it (.ref D) ce)) else again (.compLoop e d it (.ref D) ce))
/-- a clause behind the first -/
theorem piece_clause {elt : Expr} {gens : List Comprehension} {sc : Scope} {ps : Pos} {d : Nat} {tg iter : Expr} {ifs : List Expr} {p : Pos} {M : Sem PySem.Fin → Sem PySem.Fin} {wi : TI} {g : TG} {tt : TT} {tl : TC} {vs vn : List Nat}
    (hc : X.calm = true) (hT : TurnIs (.ListComp elt gens sc ps) d tg ifs p D ce M) (hM : Piece (X.blk s3 H3 scope ce fp) vn M tl) (hv : ∀ i ∈ vn, i ∈ vs) (pi : PI (X.blk s3 H3 scope ce fp) tg iter wi) (pg : PG (X.blk s3 H3 scope ce fp) tg g) (pt : PTs (X.blk s3 H3 scope ce fp) ifs tt)
    (hs : ∀ x, foldedSetIterable iter ce x = pure x)
    (hS : ∀ it : Value, compStart (.ListComp elt gens sc ps) d it (.ref D) ce = (do
      if (← ask).params.followText "comprehension-iter-twice" then return ← again (.compLoop (.ListComp elt gens sc ps) d it (.ref D) ce)
      rule "comprehension.iter-twice"
      standAt iter.pos
      again (.compLoop (.ListComp elt gens sc ps) d (← pyIter it) (.ref D) ce))) :
    Piece (X.blk s3 H3 scope ce fp) vs (fun k => do
      let x ← eval iter ce
      standAt iter.pos
      let x ← foldedSetIterable iter ce x
      let _ ← runOwn (.compStart (.ListComp elt gens sc ps) d (← holding [x] (pyIter x)) (.ref D) ce) ce
      k) (tCl wi g tt vs tl) := by
  intro k R E pins s σ H Nx I h hk
  refine wpAny_bind (thnF (pi.run pins s σ H _ I h) fun x s1 hx => ?_)
  refine wpAny_bind (wpAny_standAt (wpAny_bind (wpAny_of_eq (hs x) (wpAny_bind (wpAny_holding (thnF hx fun itv s2 h2 => ?_))))))
  obtain ⟨it, fi, tn, J, H2, rfl, I2, T, st2, f2, W, ⟨m0, w0⟩, turn⟩ := h2
  have stat : ∀ {H' : Hp}, (∀ b ∈ fi, H' b = none) → ∀ b ∈ fi, FpOk (X.blk s3 H3 scope ce fp) pins H' b := fun hn b hb => ⟨hn b hb, (f2 b hb).2⟩
  have loop : codeAny (model X.prog X.w) X.A (.compLoop (.ListComp elt gens sc ps) d (.ref it) (.ref D) ce) (fun r s' => match r with
      | .ok _ => ∃ H', Inv (X.blk s3 H3 scope ce fp) pins (wipe σ vs) H' s' ∧ Nx H'
      | .error _ => False) s2 := by
    refine codeAny_loop rfl (fun n s' => ∃ i H', Inv (X.blk s3 H3 scope ce fp) pins (wipe σ vs) H' s' ∧ tn i s'.heap ∧ (∀ b ∈ fi, H' b = none) ∧ W i n H') (fun n s4 ⟨i, H4, I4, st4, n4, w4⟩ => ?_) m0 ⟨0, H2, I2.weak (wipe_length _ _) (fun j v z => (wipe_some z).1), st2, fun b hb => (f2 b hb).1, w0⟩
    change wpAny _ X.A ((compTurn (.ListComp elt gens sc ps) d (.ref it) (.ref D) ce).onRaise (fun x => do noteFrame x ce; theTreesLotGoes x)) _ _ s4
    refine wpAny_noted ?_
    rw [hT]
    refine wpAny_bind (wpAny_standAt (wpAny_bind ?_))
    rcases turn i n H4 w4 with ⟨stop, nx⟩ | ⟨go, N1, hN1, step⟩
    · refine thnF (T.done (X.blk s3 H3 scope ce fp) rfl rfl rfl hc i _ s4 (wipe σ vs) H4 (fun _ _ => False) I4 (stat n4) st4 stop) fun r s5 ⟨hr, I5⟩ => ?_
      subst hr
      exact wpAny_pure ⟨H4, I5, nx⟩
    · refine thnF (T.item (X.blk s3 H3 scope ce fp) rfl rfl rfl hc i _ s4 (wipe σ vs) H4 (fun _ _ => False) I4 (stat n4) st4 go) fun r s5 ⟨u, hr, h5⟩ => ?_
      subst hr
      refine wpAny_bind (thnF h5 fun _ s6 ⟨x6, H6, I6, r6, y6, st6, n6⟩ => ?_)
      have I6' := I6.pinned (stat n6) (T.obj _ _ st6)
      refine wpAny_bind (thnF (pg.run _ s6 (wipe σ vs) H6 x6 u _ I6' r6 (step x6 H6 y6)) fun _ s7 ⟨σ7, H7, I7, hw7, q7⟩ => ?_)
      refine wpAny_bind (thnF (pt.run _ s7 σ7 H7 _ I7 q7) fun b s8 ⟨H8, I8, q8⟩ => ?_)
      have fin : ∀ {σ9 : L2.St} {s' : Shared} {H' : Hp}, Inv (X.blk s3 H3 scope ce fp) (pins ++ pinsAt fi s6.heap) σ9 H' s' → (wipe σ vs).length = σ9.length → (∀ (j : Nat) v, (wipe σ vs)[j]? = some (some v) → σ9[j]? = some (some v)) → N1 H' →
          ∃ m, m < n ∧ ∃ i H', Inv (X.blk s3 H3 scope ce fp) pins (wipe σ vs) H' s' ∧ tn i s'.heap ∧ (∀ b ∈ fi, H' b = none) ∧ W i m H' := fun {σ9 s' H'} I' hl hk nx => by
        obtain ⟨m', hm, w'⟩ := hN1 H' nx
        have pin' : ∀ b ∈ fi, ∀ o, s6.heap.get? b = some o → s'.heap.get? b = some o ∧ H' b = none := fun b hb o z =>
          let y := I'.pin (b, o) (List.mem_append_right _ (List.mem_append_right _ (mem_pinsAt hb z)))
          ⟨y.1, y.2.1⟩
        refine ⟨m', hm, i + 1, H', I'.unpinned.weak hl hk, T.keep _ _ _ st6 fun b hb o z => (pin' b hb o z).1, fun b hb => ?_, w'⟩
        obtain ⟨o, z, _⟩ := T.obj _ _ st6 b hb
        exact (pin' b hb o z).2
      have l7 : (wipe σ vs).length = σ7.length := by rw [← hw7, wipe_length]
      have k7 : ∀ (j : Nat) v, (wipe σ vs)[j]? = some (some v) → σ7[j]? = some (some v) ∧ j ∉ vs := fun j v z => by
        rw [← hw7] at z
        exact wipe_some z
      cases b with
      | false =>
        simp only [Bool.false_eq_true, if_false] at q8 ⊢
        exact wpAny_pure ⟨rfl, fin I8 l7 (fun j v z => (k7 j v z).1) q8⟩
      | true =>
        simp only [if_true] at q8 ⊢
        refine hM _ _ _ _ s8 σ7 H8 N1 I8 q8 fun σ9 H9 s9 I9 l9 k9 nx => ?_
        exact wpAny_pure ⟨rfl, fin I9 (l7.trans l9) (fun j v z => k9 j v (fun m => (k7 j v z).2 (hv j m)) (k7 j v z).1) nx⟩
  refine wpAny_bind (wpAny_runOwn ?_)
  rw [Around.mark_none]
  have start : codeAny (model X.prog X.w) X.A (.compStart (.ListComp elt gens sc ps) d (.ref it) (.ref D) ce) (fun r s' => match r with
      | .ok _ => ∃ H', Inv (X.blk s3 H3 scope ce fp) pins (wipe σ vs) H' s' ∧ Nx H'
      | .error _ => False) s2 := by
    refine codeAny_of_tree ?_
    change wpAny _ _ ((compStart (.ListComp elt gens sc ps) d (.ref it) (.ref D) ce).onRaise (fun x => do noteFrame x ce; standAt theWindowsPlace)) _ _ s2
    refine wpAny_notedAt ?_
    rw [hS]
    change wpAny _ _ (ask >>= _) _ _ s2
    refine wpAny_bind (wpAny_askSetting (wpAny_ite ?_))
    split
    · first
        | exact wpAny_bind (wpAny_pure (wpAny_pure (And.intro rfl loop)))
        | exact wpAny_bind (wpAny_pure (And.intro rfl loop))
        | exact wpAny_pure (And.intro rfl loop)
    · refine wpAny_bind (wpAny_rule ?_)
      first
        | exact wpAny_bind (wpAny_standAt (wpAny_bind (T.self X.A 0 s2 _ _ st2 (wpAny_pure (And.intro rfl loop)))))
        | (change wpAny _ _ (standAt iter.pos >>= _) _ _ s2; exact wpAny_bind (wpAny_standAt (wpAny_bind (T.self X.A 0 s2 _ _ st2 (wpAny_pure (And.intro rfl loop))))))
  refine codeAny_mono start fun r s' hr => ?_
  cases r with
  | ok f =>
    obtain ⟨H', I', nx⟩ := hr
    exact hk (wipe σ vs) H' s' I' (wipe_length _ _).symm (fun i v hi z => by rw [wipe_out hi]; exact z) nx
  | error er => exact hr.elim
/-- the reading: the first clause, and what follows its tests -/
def tLcN (wi : TI) (g : TG) (tt : TT) (vs : List Nat) (tl : Addr → TC) : TE := fun σ H Q => wi σ H fun J H1 => ∀ D, H1 D = none → ∃ W : Nat → Nat → Hp → Prop, (∃ m, W 0 m (upd H1 D (.lst []))) ∧ ∀ i m H, W i m H →
  (J.stop i H ∧ Q (.ref D) H) ∨ (J.go i H ∧ ∃ N1 : Hp → Prop, (∀ H', N1 H' → ∃ m', m' < m ∧ W (i + 1) m' H') ∧ ∀ x H', J.yld i H x H' → g x (wipe σ vs) H' fun σ3 H5 => wipe σ3 vs = wipe σ vs ∧ tt σ3 H5 fun b H6 => if b = true then tl D σ3 H6 N1 else N1 H6)
theorem pe_lcN {elt tg iter : Expr} {ifs : List Expr} {rest : List Comprehension} {sc : Scope} {ps : Pos} {own : List (Str × Nat)} {M : Addr → Env → Sem PySem.Fin → Sem PySem.Fin} {wi : TI} {g : TG} {tt : TT} {tl : Addr → TC} {vn : List Nat} (hc : X.calm = true) (hN : X.N.Nodup) (hi : PI X tg iter wi) (ok : BlkOk X.N X.env.scope sc own) (hv : ∀ i ∈ vn, i ∈ own.map (·.2))
    (hg : ∀ (s : Shared) (H : Hp) (C : Addr) (cl : List (Str × Addr)) (fp : List Addr), PG (X.blk s H sc (compEnvC sc cl C X.env) fp) tg g) (ht : ∀ (s : Shared) (H : Hp) (C : Addr) (cl : List (Str × Addr)) (fp : List Addr), PTs (X.blk s H sc (compEnvC sc cl C X.env) fp) ifs tt)
    (hT : ∀ D ce, TurnIs (.ListComp elt (⟨tg, iter, ifs, 0⟩ :: rest) sc ps) 0 tg ifs iter.pos D ce (M D ce))
    (hM : ∀ (s : Shared) (H : Hp) (C : Addr) (cl : List (Str × Addr)) (fp : List Addr) (D : Addr), Piece (X.blk s H sc (compEnvC sc cl C X.env) fp) vn (M D (compEnvC sc cl C X.env)) (tl D))
    (hs : ∀ x, foldedSetIterable iter X.env x = pure x := by intro _; rfl) : PE X (.ListComp elt (⟨tg, iter, ifs, 0⟩ :: rest) sc ps) (tLcN wi g tt (own.map (·.2)) tl) := by
  refine ⟨fun pins s σ H Q I h => ?_⟩
  rw [eval_ListComp]
  have free : ∀ y ∈ sc.names, y.2 = .free → ∃ c, X.env.cells.lookup y.1 = some c := fun y hy e => (ok.free y hy e).elim (fun k => I.ok.has _ (.inl k)) fun k => I.ok.has _ (.inr k)
  refine wpAny_comprehension_free rfl hs (closure_ok free) ok.kind (fun y hy e => by rw [ok.uniq y hy, e]) (thn (hi.run pins s σ H _ I h) fun xv s1 hx => thn hx fun itv s2 h2 => ?_)
  obtain ⟨it, fp, tn, J, H2, e, I2, T, st2, f2, q⟩ := h2
  subst e
  refine wpAny_newObj_type (newEnv_comp ?_) (by show 0 ≤ sizeLine; decide)
  generalize hD : s2.heap.objs.size = D
  have hDn : H2 D = none := I2.hok.fresh (Nat.le_of_eq hD)
  obtain ⟨W, ⟨m0, w0⟩, turn⟩ := q D hDn
  generalize hs3 : ({ s2 with heap := s2.heap.push { cls := .type "list", data := .seq ([] : List Value).toArray } } : Shared) = s3
  have h3 : s3.heap = s2.heap.push { cls := .type "list", data := .seq ([] : List Value).toArray } := by rw [← hs3]
  have I3 : Inv X pins σ (upd H2 D (.lst [])) s3 := by
    rw [← hs3]
    exact I2.laid (t' := s2.toks) (fun b o z => Heap.get?_push_of_some _ z) (Nat.le_of_eq hD) ⟨Nat.zero_le _, [], 0, .nil, by rw [← hD]; exact Heap.get?_push_size _ rfl⟩
  have f3 : ∀ b ∈ fp, FpOk X pins (upd H2 D (.lst [])) b ∧ b < s3.heap.objs.size := fun b hb => by
    obtain ⟨o, z, _⟩ := T.obj _ _ st2 b hb
    have hlt := Heap.lt_size z
    exact ⟨⟨by rw [upd_ne (by rw [← hD]; exact Nat.ne_of_lt hlt)]; exact (f2 b hb).1, (f2 b hb).2⟩, by rw [h3, Heap.size_push]; exact Nat.lt_succ_of_lt hlt⟩
  have st3 : tn 0 s3.heap := T.keep _ _ _ st2 fun b _ o z => by rw [h3]; exact Heap.get?_push_of_some _ z
  have I4 := block_start I3 ok hN f3
  have nfp : ∀ b ∈ fp, (upd H2 D (.lst [])) b = none := fun b hb => (f3 b hb).1.1
  change codeAny _ _ (.compStart (.ListComp elt (⟨tg, iter, ifs, 0⟩ :: rest) sc ps) 0 (.ref it) (.ref D) (compEnvC sc (cellsFrom (s3.heap.objs.size + 1) sc.names (cloFrom X.env.cells sc.names [])) s3.heap.objs.size X.env)) (compPost (model X.prog X.w) X.A X.xe none _ (.ref D) s3.heap.objs.size) { s3 with heap := pushCells (s3.heap.push { cls := .type "dict", data := .dict #[] }) sc.names }
  generalize hcl : cellsFrom (s3.heap.objs.size + 1) sc.names (cloFrom X.env.cells sc.names []) = cl at I4 ⊢
  have pg := hg s3 (upd H2 D (.lst [])) s3.heap.objs.size cl fp
  have pt := ht s3 (upd H2 D (.lst [])) s3.heap.objs.size cl fp
  have pm := hM s3 (upd H2 D (.lst [])) s3.heap.objs.size cl fp D
  have tm := hT D (compEnvC sc cl s3.heap.objs.size X.env)
  have cL : (compEnvC sc cl s3.heap.objs.size X.env).locals = s3.heap.objs.size := rfl
  generalize compEnvC sc cl s3.heap.objs.size X.env = ce at I4 pg pt pm tm cL ⊢
  generalize hH3 : upd H2 D (.lst []) = H3 at I3 I4 pg pt pm w0 nfp f3
  generalize hs4 : ({ s3 with heap := pushCells (s3.heap.push { cls := .type "dict", data := .dict #[] }) sc.names } : Shared) = s4 at I4 ⊢
  have st4 : tn 0 s4.heap := T.keep _ _ _ st3 fun b _ o z => by rw [← hs4]; exact pushCells_keeps _ _ _ _ (Heap.get?_push_of_some _ z)
  have stat : ∀ {σ' : L2.St} {H' : Hp} {s' : Shared}, Inv (X.blk s3 H3 sc ce fp) [] σ' H' s' → (∀ b ∈ fp, H' b = none) → ∀ b ∈ fp, FpOk (X.blk s3 H3 sc ce fp) [] H' b := fun {σ' H' s'} I' hn b hb =>
    ⟨hn b hb, (I'.ok.exf b hb).1, I'.ok.exfs b hb, .inl hb, fun x c z => (I'.ok.exf b hb).2 x c z, fun p hp => absurd (show p ∈ ([] : List (Addr × Obj)) ++ [] from hp) (by simp)⟩
  have loop : codeAny (model X.prog X.w) X.A (.compLoop (.ListComp elt (⟨tg, iter, ifs, 0⟩ :: rest) sc ps) 0 (.ref it) (.ref D) ce) (compPost (model X.prog X.w) X.A X.xe none (EP X pins σ Q) (.ref D) s3.heap.objs.size) s4 := by
    refine codeAny_loop rfl (fun n s' => ∃ i H', Inv (X.blk s3 H3 sc ce fp) [] (wipe σ (own.map (·.2))) H' s' ∧ tn i s'.heap ∧ (∀ b ∈ fp, H' b = none) ∧ W i n H') (fun n s5 ⟨i, H5, I5, st5, n5, w5⟩ => ?_) m0 ⟨0, H3, I4, st4, nfp, w0⟩
    change wpAny _ X.A ((compTurn (.ListComp elt (⟨tg, iter, ifs, 0⟩ :: rest) sc ps) 0 (.ref it) (.ref D) ce).onRaise (fun x => do noteFrame x ce; theTreesLotGoes x)) _ _ s5
    refine wpAny_noted ?_
    rw [tm]
    refine wpAny_bind (wpAny_standAt (wpAny_bind ?_))
    rcases turn i n H5 w5 with ⟨stop, qq⟩ | ⟨go, N1, hN1, step⟩
    · refine thnF (T.done (X.blk s3 H3 sc ce fp) rfl rfl rfl hc i [] s5 _ H5 (fun _ _ => False) I5 (stat I5 n5) st5 stop) fun r s6 ⟨hr, I6⟩ => ?_
      subst hr
      refine wpAny_pure ?_
      have I7 : Inv X pins σ H5 s6 := I3.call' (ch := fp) I6.os I6.base I6.hok I6.bare fun b hb => ⟨(f3 b hb).1.2.2.2.1, (f3 b hb).1.2.1, (f3 b hb).1.2.2.2.2.1, (f3 b hb).1.2.2.2.2.2⟩
      have nC : H5 s3.heap.objs.size = none := by
        have z : H5 ce.locals = none := I6.free
        rwa [cL] at z
      obtain ⟨m, hn, _⟩ := I6.loc
      have hn : s6.heap.Ns ce.locals m := hn
      rw [cL] at hn
      obtain ⟨f0, f1, f2', f3', f4, f5⟩ := I3.fpOk (Nat.le_refl _) nC
      exact ⟨m, hn, fun h'' sb => ⟨.ref D, H5, I7.turned (t' := s6.toks) (fun b o hb z => (sb.2 b hb).trans z) f0 f1 f3' f4 f5, rfl, qq⟩⟩
    · refine thnF (T.item (X.blk s3 H3 sc ce fp) rfl rfl rfl hc i [] s5 _ H5 (fun _ _ => False) I5 (stat I5 n5) st5 go) fun r s6 ⟨u, hr, h6⟩ => ?_
      subst hr
      refine wpAny_bind (thnF h6 fun _ s7 ⟨x, H7, I7, r7, y7, st7, n7⟩ => ?_)
      have I7' := I7.pinned (stat I7 n7) (T.obj _ _ st7)
      refine wpAny_bind (thnF (pg.run _ s7 _ H7 x u _ I7' r7 (step x H7 y7)) fun _ s8 ⟨σ8, H8, I8, hw8, q8⟩ => ?_)
      refine wpAny_bind (thnF (pt.run _ s8 σ8 H8 _ I8 q8) fun b s9 ⟨H9, I9, q9⟩ => ?_)
      have fin : ∀ {σ9 : L2.St} {s' : Shared} {H' : Hp}, Inv (X.blk s3 H3 sc ce fp) ([] ++ pinsAt fp s7.heap) σ9 H' s' → (wipe σ (own.map (·.2))).length = σ9.length → (∀ (j : Nat) v, (wipe σ (own.map (·.2)))[j]? = some (some v) → σ9[j]? = some (some v)) → N1 H' →
          ∃ m, m < n ∧ ∃ i H', Inv (X.blk s3 H3 sc ce fp) [] (wipe σ (own.map (·.2))) H' s' ∧ tn i s'.heap ∧ (∀ b ∈ fp, H' b = none) ∧ W i m H' := fun {σ9 s' H'} I' hl hk nx => by
        obtain ⟨m', hm, w'⟩ := hN1 H' nx
        have pin' : ∀ b ∈ fp, ∀ o, s7.heap.get? b = some o → s'.heap.get? b = some o ∧ H' b = none := fun b hb o z =>
          let y := I'.pin (b, o) (List.mem_append_right _ (List.mem_append_right _ (mem_pinsAt hb z)))
          ⟨y.1, y.2.1⟩
        refine ⟨m', hm, i + 1, H', (I'.unpinned (pins := [])).weak hl hk, T.keep _ _ _ st7 fun b hb o z => (pin' b hb o z).1, fun b hb => ?_, w'⟩
        obtain ⟨o, z, _⟩ := T.obj _ _ st7 b hb
        exact (pin' b hb o z).2
      have l8 : (wipe σ (own.map (·.2))).length = σ8.length := by rw [← hw8, wipe_length]
      have k8 : ∀ (j : Nat) v, (wipe σ (own.map (·.2)))[j]? = some (some v) → σ8[j]? = some (some v) ∧ j ∉ own.map (·.2) := fun j v z => by
        rw [← hw8] at z
        exact wipe_some z
      cases b with
      | false =>
        simp only [Bool.false_eq_true, if_false] at q9 ⊢
        exact wpAny_pure ⟨rfl, fin I9 l8 (fun j v z => (k8 j v z).1) q9⟩
      | true =>
        simp only [if_true] at q9 ⊢
        refine pm _ _ _ _ s9 σ8 H9 N1 I9 q9 fun σ10 H10 s10 I10 l10 k10 nx => ?_
        exact wpAny_pure ⟨rfl, fin I10 (l8.trans l10) (fun j v z => k10 j v (fun m => (k8 j v z).2 (hv j m)) (k8 j v z).1) nx⟩
  exact codeAny_compStart_list loop (T.self X.A 0 _ _ _ st4 loop)
/-- [elt for t0 in i0 for t1 in i1 for t2 in i2], each with its tests; v1, v2: the slots of the second and the third target, and of the third alone -/
theorem pe_lc3 {elt t0 i0 t1 i1 t2 i2 : Expr} {f0 f1 f2 : List Expr} {sc : Scope} {ps : Pos} {own : List (Str × Nat)} {w0 w1 w2 : TI} {g0 g1 g2 : TG} {tt0 tt1 tt2 : TT} {te : TE} (v1 v2 : List Nat) (hc : X.calm = true) (hN : X.N.Nodup) (hi : PI X t0 i0 w0) (ok : BlkOk X.N X.env.scope sc own)
    (h01 : ∀ i ∈ v1, i ∈ own.map (·.2)) (h12 : ∀ i ∈ v2, i ∈ v1)
    (hg0 : ∀ (s : Shared) (H : Hp) (C : Addr) (cl : List (Str × Addr)) (fp : List Addr), PG (X.blk s H sc (compEnvC sc cl C X.env) fp) t0 g0) (ht0 : ∀ (s : Shared) (H : Hp) (C : Addr) (cl : List (Str × Addr)) (fp : List Addr), PTs (X.blk s H sc (compEnvC sc cl C X.env) fp) f0 tt0)
    (hi1 : ∀ (s : Shared) (H : Hp) (C : Addr) (cl : List (Str × Addr)) (fp : List Addr), PI (X.blk s H sc (compEnvC sc cl C X.env) fp) t1 i1 w1)
    (hg1 : ∀ (s : Shared) (H : Hp) (C : Addr) (cl : List (Str × Addr)) (fp : List Addr), PG (X.blk s H sc (compEnvC sc cl C X.env) fp) t1 g1) (ht1 : ∀ (s : Shared) (H : Hp) (C : Addr) (cl : List (Str × Addr)) (fp : List Addr), PTs (X.blk s H sc (compEnvC sc cl C X.env) fp) f1 tt1)
    (hi2 : ∀ (s : Shared) (H : Hp) (C : Addr) (cl : List (Str × Addr)) (fp : List Addr), PI (X.blk s H sc (compEnvC sc cl C X.env) fp) t2 i2 w2)
    (hg2 : ∀ (s : Shared) (H : Hp) (C : Addr) (cl : List (Str × Addr)) (fp : List Addr), PG (X.blk s H sc (compEnvC sc cl C X.env) fp) t2 g2) (ht2 : ∀ (s : Shared) (H : Hp) (C : Addr) (cl : List (Str × Addr)) (fp : List Addr), PTs (X.blk s H sc (compEnvC sc cl C X.env) fp) f2 tt2)
    (he : ∀ (s : Shared) (H : Hp) (C : Addr) (cl : List (Str × Addr)) (fp : List Addr), PE (X.blk s H sc (compEnvC sc cl C X.env) fp) elt te)
    (s0 : ∀ x, foldedSetIterable i0 X.env x = pure x := by intro _; rfl) (s1 : ∀ env x, foldedSetIterable i1 env x = pure x := by intro _ _; rfl) (s2 : ∀ env x, foldedSetIterable i2 env x = pure x := by intro _ _; rfl) :
    PE X (.ListComp elt [⟨t0, i0, f0, 0⟩, ⟨t1, i1, f1, 0⟩, ⟨t2, i2, f2, 0⟩] sc ps) (tLcN w0 g0 tt0 (own.map (·.2)) fun D => tCl w1 g1 tt1 v1 (tCl w2 g2 tt2 v2 (tEl D te))) := by
  refine pe_lcN (vn := v1) (M := fun D ce k => do
      let x ← eval i1 ce
      standAt i1.pos
      let x ← foldedSetIterable i1 ce x
      let _ ← runOwn (.compStart (.ListComp elt [⟨t0, i0, f0, 0⟩, ⟨t1, i1, f1, 0⟩, ⟨t2, i2, f2, 0⟩] sc ps) 1 (← holding [x] (pyIter x)) (.ref D) ce) ce
      k) hc hN hi ok h01 hg0 ht0 (fun D ce it => rfl) (fun s H C cl fp D => ?_) s0
  refine piece_clause (vn := v2) (M := fun k => do
      let x ← eval i2 (compEnvC sc cl C X.env)
      standAt i2.pos
      let x ← foldedSetIterable i2 (compEnvC sc cl C X.env) x
      let _ ← runOwn (.compStart (.ListComp elt [⟨t0, i0, f0, 0⟩, ⟨t1, i1, f1, 0⟩, ⟨t2, i2, f2, 0⟩] sc ps) 2 (← holding [x] (pyIter x)) (.ref D) (compEnvC sc cl C X.env)) (compEnvC sc cl C X.env)
      k) hc (p := i1.pos) (fun it => rfl) ?_ h12 (hi1 s H C cl fp) (hg1 s H C cl fp) (ht1 s H C cl fp) (fun x => s1 _ x) (fun it => rfl)
  exact piece_clause (vn := []) (M := fun k => (do let _ ← call (.builtin "list.append") [.ref D, ← eval elt (compEnvC sc cl C X.env)] : Sem PUnit) >>= fun _ => k) hc (p := i2.pos) (fun it => rfl) (piece_elt (he s H C cl fp)) (fun _ m => nomatch m) (hi2 s H C cl fp) (hg2 s H C cl fp) (ht2 s H C cl fp) (fun x => s2 _ x) (fun it => rfl)
end
end KaC


set_option maxRecDepth 100000
set_option maxHeartbeats 4000000
namespace KaC
open PySem PySem.Spec PyProof.Rows L2
section
variable {K : PySem.W.Frag} {a : Addr} {xs : List V} {Hs : Hp} {Qd : Hp → Prop}
theorem go_tup {F : V → Hp → (Hp → Prop) → Prop} (Pv : Nat → Hp → Prop) (h0 : Pv 0 Hs) (hl : ∀ i H, i ≤ xs.length → Pv i H → SqT K H a xs) (hs : ∀ i x H, xs[i]? = some x → Pv i H → F x H (Pv (i + 1))) (hd : ∀ H, Pv xs.length H → Qd H) :
    ∃ W : Nat → Nat → Hp → Prop, (∃ m, W 0 m Hs) ∧ ∀ i m H, W i m H → ((Itt K a).stop i H ∧ Qd H) ∨ ((Itt K a).go i H ∧ ∃ N : Hp → Prop, (∀ H', N H' → ∃ m', m' < m ∧ W (i + 1) m' H') ∧ ∀ x H', (Itt K a).yld i H x H' → F x H' N) := by
  refine ⟨fun i m H => m = xs.length - i ∧ i ≤ xs.length ∧ Pv i H, ⟨_, rfl, Nat.zero_le _, h0⟩, fun i m H ⟨em, hi, p⟩ => ?_⟩
  have q := hl i H hi p
  rcases Nat.lt_or_ge i xs.length with lt | ge
  · refine .inr ⟨⟨xs, xs[i], q, List.getElem?_eq_getElem lt⟩, Pv (i + 1), fun H' p' => ⟨xs.length - (i + 1), by omega, rfl, lt, p'⟩, fun x H' ⟨e, y⟩ => ?_⟩
    subst e
    exact hs i x _ (y xs q) p
  · obtain rfl : i = xs.length := by omega
    exact .inl ⟨⟨xs, q, Nat.le_refl _⟩, hd H p⟩
theorem go_range {lo : Int} {n : Nat} {F : V → Hp → (Hp → Prop) → Prop} (Pv : Nat → Hp → Prop) (h0 : Pv 0 Hs) (hs : ∀ i H, i < n → Pv i H → F (.int (lo + i)) H (Pv (i + 1))) (hd : ∀ H, Pv n H → Qd H) :
    ∃ W : Nat → Nat → Hp → Prop, (∃ m, W 0 m Hs) ∧ ∀ i m H, W i m H → ((Itr lo n).stop i H ∧ Qd H) ∨ ((Itr lo n).go i H ∧ ∃ N : Hp → Prop, (∀ H', N H' → ∃ m', m' < m ∧ W (i + 1) m' H') ∧ ∀ x H', (Itr lo n).yld i H x H' → F x H' N) := by
  refine ⟨fun i m H => m = n - i ∧ i ≤ n ∧ Pv i H, ⟨_, rfl, Nat.zero_le _, h0⟩, fun i m H ⟨em, hi, p⟩ => ?_⟩
  rcases Nat.lt_or_ge i n with lt | ge
  · refine .inr ⟨lt, Pv (i + 1), fun H' p' => ⟨n - (i + 1), by omega, rfl, lt, p'⟩, fun x H' ⟨e, y⟩ => ?_⟩
    subst e; subst y
    exact hs i _ lt p
  · obtain rfl : i = n := by omega
    exact .inl ⟨Nat.le_refl _, hd H p⟩
theorem go_enumT {F : V → Hp → (Hp → Prop) → Prop} (Pv : Nat → Hp → Prop) (h0 : Pv 0 Hs) (hl : ∀ i H, i ≤ xs.length → Pv i H → SqT K H a xs) (hs : ∀ i x T H, xs[i]? = some x → Pv i H → H T = none → F (.ref T) (upd H T (.tup [.int (i : Nat), x])) (Pv (i + 1))) (hd : ∀ H, Pv xs.length H → Qd H) :
    ∃ W : Nat → Nat → Hp → Prop, (∃ m, W 0 m Hs) ∧ ∀ i m H, W i m H → ((ItT K a).stop i H ∧ Qd H) ∨ ((ItT K a).go i H ∧ ∃ N : Hp → Prop, (∀ H', N H' → ∃ m', m' < m ∧ W (i + 1) m' H') ∧ ∀ x H', (ItT K a).yld i H x H' → F x H' N) := by
  refine ⟨fun i m H => m = xs.length - i ∧ i ≤ xs.length ∧ Pv i H, ⟨_, rfl, Nat.zero_le _, h0⟩, fun i m H ⟨em, hi, p⟩ => ?_⟩
  have q := hl i H hi p
  rcases Nat.lt_or_ge i xs.length with lt | ge
  · refine .inr ⟨⟨xs, xs[i], q, List.getElem?_eq_getElem lt⟩, Pv (i + 1), fun H' p' => ⟨xs.length - (i + 1), by omega, rfl, lt, p'⟩, fun v H' ⟨T, x, e1, e2, e3, y⟩ => ?_⟩
    subst e1; subst e3
    exact hs i x T H (y xs q) p e2
  · obtain rfl : i = xs.length := by omega
    exact .inl ⟨⟨xs, q, Nat.le_refl _⟩, hd H p⟩
/-- for i, x in enumerate(t) -/
theorem for_enumT {g : TG} {tb : TS} {D : Ends} {σ : L2.St} {H : Hp} (Pv : Nat → L2.St → Hp → Prop) (h0 : Pv 0 σ H) (hl : ∀ i σ H, i ≤ xs.length → Pv i σ H → SqT K H a xs)
    (hs : ∀ i x T σ H, xs[i]? = some x → Pv i σ H → H T = none → g (.ref T) σ (upd H T (.tup [.int (i : Nat), x])) fun σ2 H2 => tb { D with nx := Pv (i + 1), ct := Pv (i + 1), bk := D.nx } σ2 H2) (hd : ∀ σ H, Pv xs.length σ H → D.nx σ H) :
    ∃ W : Nat → Nat → L2.St → Hp → Prop, (∃ m, W 0 m σ H) ∧ ∀ i m σ H, W i m σ H →
      ((ItT K a).stop i H ∧ D.nx σ H) ∨ ((ItT K a).go i H ∧ ∃ N : L2.St → Hp → Prop, (∀ σ' H', N σ' H' → ∃ m', m' < m ∧ W (i + 1) m' σ' H') ∧ ∀ x H', (ItT K a).yld i H x H' → g x σ H' fun σ2 H2 => tb { D with nx := N, ct := N, bk := D.nx } σ2 H2) := by
  refine ⟨fun i m σ H => m = xs.length - i ∧ i ≤ xs.length ∧ Pv i σ H, ⟨_, rfl, Nat.zero_le _, h0⟩, fun i m σ H ⟨em, hi, p⟩ => ?_⟩
  have q := hl i σ H hi p
  rcases Nat.lt_or_ge i xs.length with lt | ge
  · refine .inr ⟨⟨xs, xs[i], q, List.getElem?_eq_getElem lt⟩, Pv (i + 1), fun σ' H' p' => ⟨xs.length - (i + 1), by omega, rfl, lt, p'⟩, fun v H' ⟨T, x, e1, e2, e3, y⟩ => ?_⟩
    subst e1; subst e3
    exact hs i x T σ H (y xs q) p e2
  · obtain rfl : i = xs.length := by omega
    exact .inl ⟨⟨xs, q, Nat.le_refl _⟩, hd σ H p⟩
end
section
variable {X : Cx}
/-- two clauses, each with its tests -/
theorem pe_lc2n {elt t0 i0 t1 i1 : Expr} {f0 f1 : List Expr} {sc : Scope} {ps : Pos} {own : List (Str × Nat)} {w0 w1 : TI} {g0 g1 : TG} {tt0 tt1 : TT} {te : TE} (v1 : List Nat) (hc : X.calm = true) (hN : X.N.Nodup) (hi : PI X t0 i0 w0) (ok : BlkOk X.N X.env.scope sc own)
    (h01 : ∀ i ∈ v1, i ∈ own.map (·.2))
    (hg0 : ∀ (s : Shared) (H : Hp) (C : Addr) (cl : List (Str × Addr)) (fp : List Addr), PG (X.blk s H sc (compEnvC sc cl C X.env) fp) t0 g0) (ht0 : ∀ (s : Shared) (H : Hp) (C : Addr) (cl : List (Str × Addr)) (fp : List Addr), PTs (X.blk s H sc (compEnvC sc cl C X.env) fp) f0 tt0)
    (hi1 : ∀ (s : Shared) (H : Hp) (C : Addr) (cl : List (Str × Addr)) (fp : List Addr), PI (X.blk s H sc (compEnvC sc cl C X.env) fp) t1 i1 w1)
    (hg1 : ∀ (s : Shared) (H : Hp) (C : Addr) (cl : List (Str × Addr)) (fp : List Addr), PG (X.blk s H sc (compEnvC sc cl C X.env) fp) t1 g1) (ht1 : ∀ (s : Shared) (H : Hp) (C : Addr) (cl : List (Str × Addr)) (fp : List Addr), PTs (X.blk s H sc (compEnvC sc cl C X.env) fp) f1 tt1)
    (he : ∀ (s : Shared) (H : Hp) (C : Addr) (cl : List (Str × Addr)) (fp : List Addr), PE (X.blk s H sc (compEnvC sc cl C X.env) fp) elt te)
    (s0 : ∀ x, foldedSetIterable i0 X.env x = pure x := by intro _; rfl) (s1 : ∀ env x, foldedSetIterable i1 env x = pure x := by intro _ _; rfl) :
    PE X (.ListComp elt [⟨t0, i0, f0, 0⟩, ⟨t1, i1, f1, 0⟩] sc ps) (tLcN w0 g0 tt0 (own.map (·.2)) fun D => tCl w1 g1 tt1 v1 (tEl D te)) := by
  refine pe_lcN (vn := v1) (M := fun D ce k => do
      let x ← eval i1 ce
      standAt i1.pos
      let x ← foldedSetIterable i1 ce x
      let _ ← runOwn (.compStart (.ListComp elt [⟨t0, i0, f0, 0⟩, ⟨t1, i1, f1, 0⟩] sc ps) 1 (← holding [x] (pyIter x)) (.ref D) ce) ce
      k) hc hN hi ok h01 hg0 ht0 (fun D ce it => rfl) (fun s H C cl fp D => ?_) s0
  exact piece_clause (vn := []) (M := fun k => (do let _ ← call (.builtin "list.append") [.ref D, ← eval elt (compEnvC sc cl C X.env)] : Sem PUnit) >>= fun _ => k) hc (p := i1.pos) (fun it => rfl) (piece_elt (he s H C cl fp)) (fun _ m => nomatch m) (hi1 s H C cl fp) (hg1 s H C cl fp) (ht1 s H C cl fp) (fun x => s1 _ x) (fun it => rfl)
end
end KaC


set_option maxRecDepth 100000
set_option maxHeartbeats 4000000
namespace KaG
open PySem PySem.Spec PyProof.Rows L2 KaC
/-! ### kinds by their names -/
theorem kd_one {ks : List Kd} {k k' : Kd} (nd : (ks.map Kd.name).Nodup) (h : k ∈ ks) (h' : k' ∈ ks) (e : k.name = k'.name) : k = k' := by
  obtain ⟨i, hi⟩ := List.mem_iff_getElem?.mp h
  obtain ⟨j, hj⟩ := List.mem_iff_getElem?.mp h'
  obtain ⟨li, ei⟩ := List.getElem?_eq_some_iff.mp hi
  obtain ⟨lj, ej⟩ := List.getElem?_eq_some_iff.mp hj
  have hij : j = i := (List.getElem_inj (h₀ := by rw [List.length_map]; exact lj) (h₁ := by rw [List.length_map]; exact li) nd).mp (by rw [List.getElem_map, List.getElem_map, ei, ej, e])
  subst hij
  rw [hi] at hj
  exact Option.some.inj hj
theorem gsOf_eq {ks : List Kd} {k : Kd} (nd : (ks.map Kd.name).Nodup) (h : k ∈ ks) : gsOf ks k.name = k.gs := by
  unfold gsOf
  cases e : ks.find? (fun q => decide (q.name = k.name)) with
  | none =>
    have := List.find?_eq_none.mp e k h
    simp at this
  | some q =>
    have h1 := List.find?_some e
    have h2 := List.mem_of_find?_eq_some e
    rw [kd_one nd h2 h (of_decide_eq_true h1)]
theorem keepLt_eq {ks : List Kd} {k : Kd} {a : Int} (nd : (ks.map Kd.name).Nodup) (h : k ∈ ks) : keepLt ks k.name a = decide (a < k.keep) := by
  unfold keepLt
  cases e : decide (a < k.keep) with
  | true => exact List.any_eq_true.mpr ⟨k, h, by simp [e]⟩
  | false =>
    rw [List.any_eq_false]
    intro q hq z
    rw [Bool.and_eq_true, decide_eq_true_eq] at z
    rw [kd_one nd hq h z.1, e] at z
    exact absurd z.2 (by decide)
theorem inV_str {p : Str} : ∀ {B : List Str}, inV (.str p) (B.map V.str) = decide (p ∈ B)
  | [] => rfl
  | b :: r => by
    have ih := inV_str (p := p) (B := r)
    unfold inV at ih ⊢
    rw [List.map_cons, List.any_cons, ih]
    show ((b == p) || decide (p ∈ r)) = _
    by_cases h : b = p
    · subst h
      simp
    · have : (b == p) = false := by
        rw [beq_eq_false_iff_ne]
        exact h
      rw [this, Bool.false_or]
      exact decide_eq_decide.mpr ⟨fun z => List.mem_cons_of_mem _ z, fun z => (List.mem_cons.mp z).elim (fun y => absurd y.symm h) id⟩
theorem flat_strs : ∀ {B : List Str}, (B.map V.str).all flatV = true
  | [] => rfl
  | b :: r => by
    rw [List.map_cons, List.all_cons, flat_strs]
    rfl
theorem Sq2.in_ {K : PySem.W.Frag} {H : Hp} {l : Addr} {xs : List V} (h : Sq2 H l xs) : SqL K H l xs ∨ SqT K H l xs := h.imp SqL.of SqT.of
theorem Sq2.same {H H' : Hp} {l : Addr} {xs : List V} (h : Sq2 H l xs) (s : Same H H') : Sq2 H' l xs := h.imp (s _ _) (s _ _)
/-- a ground of a rulebook -/
structure GrOk (rows names : List Str) (g : Gr) : Prop where
  len : g.length ≤ 3
  nv : ∀ n ∈ g, NeedV rows names n
theorem BookOk.gr {rows : List Str} {ks : List Kd} (h : BookOk rows ks) {k : Kd} (m : k ∈ ks) {g : Gr} (mg : g ∈ k.gs) : GrOk rows (ks.map Kd.name) g := ⟨(h.grd k m g mg).2.1, (h.grd k m g mg).2.2⟩
section
variable {P : Program} {w : World} {K : PySem.W.Frag} {mg : Str → Option Value} {base : Heap}
/-- kind_of a name that is there -/
def spKindN : Sp := fun vs H Q _ => ∃ (b : Addr) (rows : List Str) (ks : List Kd) (n : Str), vs = [.ref b, .str n] ∧ BookAt H b rows ks ∧ (ks.map Kd.name).Nodup ∧ n ∈ ks.map Kd.name ∧ ∀ (ka : Addr) (k : Kd), k ∈ ks → k.name = n → KdAt H ka k → Q (.ref ka) H
theorem ok_kindN {f : Addr} {fd : FuncData} (F : Fun K "kind_of" "kind_of" sKindOf f fd) : FnOk P w K mg base CX0 1 f fd ["rulebook", "name"] spKindN := by
  have C := ok_kindOf0 (P := P) (w := w) (mg := mg) (base := base) F
  have go : ∀ vs H Q E, spKindN vs H Q E → spKindOf0 vs H Q E := fun vs H Q E ⟨b, rows, ks, n, e, hA, nd, mn, q⟩ => by
    obtain ⟨k, mk, kn⟩ := List.mem_map.mp mn
    obtain ⟨i, hi⟩ := List.mem_iff_getElem?.mp mk
    obtain ⟨r, kt, kas, e1, e2, e3, pk⟩ := id hA
    obtain ⟨ka, hka, hk⟩ := paired_at2 pk hi
    exact ⟨b, rows, ks, kas, i, k, ka, by rw [kn]; exact e, hA, ⟨r, kt, e1, e3⟩, nd, hi, hka, q ka k mk kn hk⟩
  exact ⟨fun vs H Q E h => C.len vs H Q E (go _ _ _ _ h), fun A outer s H args us vs Q E hr e0 hb r h => C.run A outer s H args us vs Q E hr e0 hb r (go _ _ _ _ h)⟩
/-! ### _is_live -/
abbrev sIsLive : Stmt := top 9
abbrev nmIL : List Str := ["rulebook", "ground", "bearing", "need"]
theorem scIL : FnScope nmIL ["rulebook", "ground", "bearing"] (defScope sIsLive) := ⟨rfl, rfl, rfl, by decide +kernel, rfl, by decide +kernel, by decide +kernel⟩
def spIsLive : Sp := fun vs H Q _ => ∃ (b ga sa : Addr) (rows : List Str) (ks : List Kd) (g : Gr) (B : List Str), vs = [.ref b, .ref ga, .ref sa] ∧ BookAt H b rows ks ∧ (ks.map Kd.name).Nodup ∧ Grd H ga g ∧ GrOk rows (ks.map Kd.name) g ∧ Sq2 H sa (B.map V.str) ∧ ∀ H', Same H H' → Q (.bl (grLive ks B g)) H'
theorem ok_isLive {f fK : Addr} {fd fdK : FuncData} (F : Fun K "_is_live" "_is_live" sIsLive f fd) (hall : mg "all" = none) (C : Ct P w K mg base "kind_of" 1 ["rulebook", "name"] spKindN fK fdK) : FnOk P w K mg base CX0 2 f fd ["rulebook", "ground", "bearing"] spIsLive := by
  refine F.ok scIL (fun vs H Q E h => ?_) (fun cdv A outer s H vs Q E hr h => ?_)
  · obtain ⟨b, ga, sa, rows, ks, g, B, rfl, _⟩ := h
    rfl
  · obtain ⟨b, ga, sa, rows, ks, g, B, rfl, hA, nd, ⟨ns, eg, pg⟩, hn, hB, k⟩ := h
    refine ⟨_, (pss_one (ps_ret (pe_callB (r := rAll K) (cr_all rfl) (by rfl) hall (by decide +kernel) (pa_cons (pe_lc (own := [("need", 3)]) (g := gName 3) (by rfl) scIL.nd (pi_tup (pv 1))
        (blkOk_by (own := [("need", 3)]) (N := nmIL) (sc := defScope sIsLive) (by decide +kernel)) (fun _ _ _ _ _ => pg_name (i := 3) scIL.nd rfl (Or.inl rfl)) (fun _ _ _ _ _ => pts_nil)
        (fun _ _ _ _ _ => pe_or (pe_cmpR (r := rEq) op_eq (pe_ix (r := rIxT K) ix_tup (pv 3) pe_int (fun _ _ => rfl)) pe_str (nomark _)) (pe_one (pe_and (pe_cmpR (r := rIn K false) op_in_seq (pe_ix (r := rIxT K) ix_tup (pv 3) pe_int (fun _ _ => rfl)) (pv 2) rfl)
          (pe_one (pe_cmpR (r := rI0 fun i j => V.bl (decide (i < j))) op_lt (pe_ix (r := rIxT K) ix_tup (pv 3) pe_int (fun _ _ => rfl))
            (pe_ix (r := rIxT K) ix_tup (pe_call C.G hr (by rfl) C.m C.kp C.b .nil pass0 (pa_cons (pv 0) (pa_cons (pe_ix (r := rIxT K) ix_tup (pv 3) pe_int (fun _ _ => rfl)) pa_nil))) pe_int (fun _ _ => rfl)) (nomark _))))))) pa_nil)))), ?_⟩
    have lng := paired_len pg
    have l3 := hn.len
    refine ⟨_, rfl, ga, rfl, ⟨_, SqT.of eg⟩, fun D hD => lc_tup (K := K) (a := ga) (xs := ns.map V.ref) (fun i J => Same H J ∧ J D = some (.lst (((g.take i).map (ndLive ks B)).map V.bl))) ?_ ?_ ?_ ?_⟩
    · exact ⟨same_upd hD, upd_same⟩
    · rintro i J _ ⟨S2, _⟩
      exact SqT.of (S2 _ _ eg)
    · rintro i x J hx ⟨S2, jD⟩
      rw [List.getElem?_map] at hx
      obtain ⟨q, hq, rfl⟩ := Option.map_eq_some_iff.mp hx
      obtain ⟨it, hit, eq⟩ := paired_at pg hq
      have nv := hn.nv it (List.mem_of_getElem? hit)
      have eqJ := S2 _ _ eq
      have fin : ∀ c : Bool, ndLive ks B it = c → ∃ acc, J D = some (.lst acc) ∧ acc.length < sizeLine ∧ Same H (upd J D (.lst (acc ++ [.bl c]))) ∧ upd J D (.lst (acc ++ [.bl c])) D = some (.lst (((g.take (i + 1)).map (ndLive ks B)).map V.bl)) := fun c hc => by
        refine ⟨_, jD, small1000 (by rw [List.length_map, List.length_map, List.length_take]; omega), fun b u e => by rw [upd_ne (ne_of_none e hD)]; exact S2 b u e, ?_⟩
        rw [upd_same, List.take_add_one, hit, Option.toList_some, List.map_append, List.map_append, List.map_singleton, hc]
        rfl
      refine ⟨rfl, ?_⟩
      unfold tYes
      dsimp only
      cases nv with
      | row nm t m h =>
        refine iteT ⟨_, rfl, q, _, 0, .str "row", rfl, rfl, SqT.of eqJ, rfl, rfl, _, rfl, ?_⟩
        rw [if_pos (by decide +kernel)]
        exact fin true rfl
      | kind nm a t m h =>
        refine iteT ⟨_, rfl, q, _, 0, .str "kind", rfl, rfl, SqT.of eqJ, rfl, rfl, _, rfl, ?_⟩
        rw [if_neg (by decide +kernel)]
        refine ⟨_, rfl, q, _, 1, .str nm, rfl, rfl, SqT.of eqJ, rfl, _, rfl, sa, B.map V.str, rfl, (hB.same S2).in_, rfl, flat_strs, _, rfl, ?_⟩
        rw [show (if false = true then !inV (V.str nm) (List.map V.str B) else inV (V.str nm) (List.map V.str B)) = decide (nm ∈ B) from inV_str]
        by_cases hm : nm ∈ B
        · rw [if_pos (decide_eq_true hm)]
          refine ⟨_, rfl, q, _, 2, .int a, rfl, rfl, SqT.of eqJ, rfl, _, rfl, _, rfl, q, _, 1, .str nm, rfl, rfl, SqT.of eqJ, rfl, b, rows, ks, nm, rfl, hA.ts (TSame.of S2), nd, h, fun ka kd mk kn hk => ?_⟩
          obtain ⟨gt, gas, f1, _⟩ := hk
          refine ⟨ka, _, 1, .int kd.keep, rfl, rfl, SqT.of f1, rfl, _, _, rfl, rfl, ?_⟩
          refine fin _ ?_
          show (decide (nm ∈ B) && keepLt ks nm a) = _
          rw [← kn, keepLt_eq nd mk, kn, decide_eq_true hm, Bool.true_and]
        · rw [if_neg (by rw [decide_eq_false hm]; decide)]
          refine fin false ?_
          show (decide (nm ∈ B) && keepLt ks nm a) = _
          rw [decide_eq_false hm, Bool.false_and]
    · rintro J ⟨S2, jD⟩
      rw [List.length_map, lng, List.take_length] at jD
      refine ⟨D, g.map (ndLive ks B), rfl, SqL.of jD, ?_⟩
      have e : (g.map (ndLive ks B)).all id = grLive ks B g := by
        unfold grLive
        rw [List.all_map]
        rfl
      rw [e]
      exact k J S2
end
end KaG


set_option maxRecDepth 100000
set_option maxHeartbeats 2000000
/-! a nested def that is handed to a def of the top: its cells are frozen for the time of that call -/
namespace KaG
open PySem PySem.Spec PyProof.Rows L2 LamX NdefX
/-- a cell, by what it holds -/
def CelO (c : Addr) (v : Option V) : HO := .ext fun h => ∃ u', h.IsCell c u' ∧ ∀ x, v = some x → ∃ u, u' = some u ∧ RelV x u
def InC (cl : List (Str × Addr)) (c : Addr) : Prop := ∃ y, cl.lookup y = some c
open Classical in
noncomputable def thaw (cl : List (Str × Addr)) (H : Hp) : Hp := fun b => if InC cl b then none else H b
open Classical in
noncomputable def backH (cl : List (Str × Addr)) (H0 H : Hp) : Hp := fun b => if InC cl b then H0 b else H b
section
variable {cl : List (Str × Addr)} {H H0 : Hp} {b : Addr}
theorem thaw_in (h : InC cl b) : thaw cl H b = none := if_pos h
theorem thaw_out (h : ¬ InC cl b) : thaw cl H b = H b := if_neg h
theorem back_in (h : InC cl b) : backH cl H0 H b = H0 b := if_pos h
theorem back_out (h : ¬ InC cl b) : backH cl H0 H b = H b := if_neg h
theorem thaw_none (h : H b = none) : thaw cl H b = none := by
  by_cases q : InC cl b
  · exact thaw_in q
  · rw [thaw_out q]
    exact h
end
/-- all cells of a function, frozen -/
def FrzC (cl : List (Str × Addr)) (H : Hp) : Prop := ∀ c, InC cl c → ∃ o v, H c = some (.frz o (CelO c v))
section
variable {P : Program} {w : World} {K : PySem.W.Frag} {mg : Str → Option Value} {base : Heap} {A : Around} {outer : List Env} {s s' : Shared} {H Hf : Hp} {cl : List (Str × Addr)} {Q : VK} {u : Value}
theorem FrzC.out (F : FrzC cl H) {b : Addr} {u : HO} (e : H b = some u) (n : ∀ o v, u ≠ .frz o (CelO b v)) : ¬ InC cl b := fun z => by
  obtain ⟨o, v, q⟩ := F b z
  rw [q] at e
  exact n o v (Option.some.inj e).symm
theorem FrzC.out' (F : FrzC cl H) {b : Addr} (e : H b = none) : ¬ InC cl b := fun z => by
  obtain ⟨o, v, q⟩ := F b z
  rw [q] at e
  cases e
theorem env0_thaw (F : FrzC cl H) (e0 : Env0 P w K mg base A outer s H) : Env0 P w K mg base A outer s (thaw cl H) := by
  refine ⟨e0.frames, e0.mod, fun b o e => ⟨(e0.bs b o e).1, thaw_none (e0.bs b o e).2⟩, e0.bsz, e0.funs, fun b hb => thaw_none (e0.frf b hb), fun b u e => ?_, e0.bare⟩
  by_cases q : InC cl b
  · rw [thaw_in q] at e
    cases e
  · rw [thaw_out q] at e
    exact (e0.hok b u e).stay (fun _ _ _ z => z) (fun d z => by rw [thaw_out (F.out z fun _ _ y => nomatch y)]; exact z) fun d xs z => by rw [thaw_out (F.out z fun _ _ y => nomatch y)]; exact z
theorem ce_thaw (F : FrzC cl H) (e0 : Env0 P w K mg base A outer s H) (h : CE outer P w (thaw cl H) s (fun v H' => Q v (backH cl H H')) u s') : CE outer P w H s Q u s' := by
  obtain ⟨v, H', os, bare, un, hok, r, q⟩ := h
  have kc : ∀ c, InC cl c → ∃ o v, H c = some (.frz o (CelO c v)) ∧ s.heap.get? c = some o ∧ s'.heap.get? c = some o ∧ H' c = none := fun c z => by
    obtain ⟨o, v, e⟩ := F c z
    obtain ⟨g, _⟩ := e0.hok c _ e
    refine ⟨o, v, e, g, un.keep c o g (thaw_in z) (fun hb => ?_) (by simp), un.free c o g (thaw_in z) (by simp)⟩
    have := e0.frf c hb
    rw [e] at this
    cases this
  refine ⟨v, backH cl H H', os, bare, ⟨fun b o e n hb hx => ?_, fun b o e n hb hx => ?_, fun b o e n hx => ?_, un.there, fun b xs e => ?_, fun b o x e => ?_, fun b ps e => ?_⟩, fun b x e => ?_, r, q⟩
  · exact un.keep b o e (thaw_none n) hb hx
  · exact un.slot b o e (thaw_none n) hb hx
  · rw [back_out (F.out' n)]
    exact un.free b o e (thaw_none n) hx
  · have z := F.out e fun _ _ y => nomatch y
    rw [back_out z]
    exact un.tups b xs (by rw [thaw_out z]; exact e)
  · by_cases z : InC cl b
    · rw [back_in z]
      exact e
    · rw [back_out z]
      exact un.frzs b o x (by rw [thaw_out z]; exact e)
  · have z := F.out e fun _ _ y => nomatch y
    rw [back_out z]
    exact un.tbls b ps (by rw [thaw_out z]; exact e)
  · by_cases z : InC cl b
    · rw [back_in z] at e
      obtain ⟨o, v, e1, g, g', _⟩ := kc b z
      rw [e1] at e
      cases e
      obtain ⟨_, p, _, st⟩ := e0.hok b _ e1
      exact ⟨g', st s.heap s'.heap p fun o2 q2 => by rw [g] at q2; cases q2; exact g', ⟨o, g'⟩, st⟩
    · rw [back_out z] at e
      have no : ∀ d, InC cl d → ∀ y, H' d ≠ some y := fun d zd y q2 => by
        obtain ⟨_, _, _, _, _, g⟩ := kc d zd
        rw [g] at q2
        cases q2
      exact (hok b x e).stay (fun _ _ _ y => y) (fun d q2 => by rw [back_out fun zd => no d zd _ q2]; exact q2) fun d xs q2 => by rw [back_out fun zd => no d zd _ q2]; exact q2
/-- Hf is H with the cells frozen as they stand -/
structure FrzAt (cl : List (Str × Addr)) (h : Heap) (H Hf : Hp) : Prop where
  non : ∀ c, InC cl c → H c = none
  out : ∀ b, ¬ InC cl b → Hf b = H b
  at_ : ∀ c, InC cl c → ∃ o v, Hf c = some (.frz o (CelO c v)) ∧ h.get? c = some o ∧ ∃ u', h.IsCell c u' ∧ ∀ x, v = some x → ∃ u, u' = some u ∧ RelV x u
theorem FrzAt.frz {h : Heap} (F : FrzAt cl h H Hf) : FrzC cl Hf := fun c z => by
  obtain ⟨o, v, e, _⟩ := F.at_ c z
  exact ⟨o, v, e⟩
theorem env0_frz (F : FrzAt cl s.heap H Hf) (nb : ∀ c, InC cl c → base.get? c = none) (nf : ∀ c, InC cl c → c ∉ frs outer) (e0 : Env0 P w K mg base A outer s H) : Env0 P w K mg base A outer s Hf := by
  refine ⟨e0.frames, e0.mod, fun b o e => ⟨(e0.bs b o e).1, ?_⟩, e0.bsz, e0.funs, fun b hb => ?_, fun b u e => ?_, e0.bare⟩
  · rw [F.out b fun z => by rw [nb b z] at e; cases e]
    exact (e0.bs b o e).2
  · rw [F.out b fun z => nf b z hb]
    exact e0.frf b hb
  · by_cases z : InC cl b
    · obtain ⟨o, v, e1, g, p⟩ := F.at_ b z
      rw [e1] at e
      cases e
      refine ⟨g, p, ⟨o, g⟩, fun h1 h2 p1 st => ?_⟩
      obtain ⟨u', ⟨o', ho, hd⟩, hv⟩ := p1
      exact ⟨u', ⟨o', st o' ho, hd⟩, hv⟩
    · rw [F.out b z] at e
      have no : ∀ d y, H d = some y → ¬ InC cl d := fun d y q zd => by rw [F.non d zd] at q; cases q
      exact (e0.hok b u e).stay (fun _ _ _ y => y) (fun d q => by rw [F.out d (no d _ q)]; exact q) fun d xs q => by rw [F.out d (no d _ q)]; exact q
theorem ce_frz (F : FrzAt cl s.heap H Hf) (nf : ∀ c, InC cl c → c ∉ frs outer) (h : CE outer P w Hf s (fun v H' => Q v (thaw cl H')) u s') : CE outer P w H s Q u s' := by
  obtain ⟨v, H', os, bare, un, hok, r, q⟩ := h
  have kc : ∀ c, InC cl c → ∃ o v, H' c = some (.frz o (CelO c v)) ∧ s.heap.get? c = some o ∧ s'.heap.get? c = some o := fun c z => by
    obtain ⟨o, v, e, g, _⟩ := F.at_ c z
    have e2 := un.frzs c o _ e
    exact ⟨o, v, e2, g, (hok c _ e2).1⟩
  have no : ∀ d y, H d = some y → ¬ InC cl d := fun d y q zd => by rw [F.non d zd] at q; cases q
  refine ⟨v, thaw cl H', os, bare, ⟨fun b o e n hb hx => ?_, fun b o e n hb hx => ?_, fun b o e n hx => ?_, un.there, fun b xs e => ?_, fun b o x e => ?_, fun b ps e => ?_⟩, fun b x e => ?_, r, q⟩
  · by_cases z : InC cl b
    · obtain ⟨o', _, _, g, g'⟩ := kc b z
      rw [g] at e
      cases e
      exact g'
    · exact un.keep b o e (by rw [F.out b z]; exact n) hb hx
  · exact un.slot b o e (by rw [F.out b fun z => nf b z hb]; exact n) hb hx
  · by_cases z : InC cl b
    · exact thaw_in z
    · rw [thaw_out z]
      exact un.free b o e (by rw [F.out b z]; exact n) hx
  · have z := no b _ e
    rw [thaw_out z]
    exact un.tups b xs (by rw [F.out b z]; exact e)
  · have z := no b _ e
    rw [thaw_out z]
    exact un.frzs b o x (by rw [F.out b z]; exact e)
  · have z := no b _ e
    rw [thaw_out z]
    exact un.tbls b ps (by rw [F.out b z]; exact e)
  · by_cases z : InC cl b
    · rw [thaw_in z] at e
      cases e
    · rw [thaw_out z] at e
      have no2 : ∀ d y, H' d = some y → (∀ o v, y ≠ .frz o (CelO d v)) → ¬ InC cl d := fun d y q n zd => by
        obtain ⟨o, v, e2, _⟩ := kc d zd
        rw [e2] at q
        exact n o v (Option.some.inj q).symm
      exact (hok b x e).stay (fun _ _ _ y => y) (fun d q2 => by rw [thaw_out (no2 d _ q2 fun _ _ y => nomatch y)]; exact q2) fun d xs q2 => by rw [thaw_out (no2 d _ q2 fun _ _ y => nomatch y)]; exact q2
end
/-- what the frozen cells hold (some v), or may hold (none) -/
structure CelsH (cl : List (Str × Addr)) (fr : List Str) (ws : List (Option V)) (H : Hp) : Prop where
  len : ws.length = fr.length
  all : FrzC cl H
  inj : ∀ x y c, cl.lookup x = some c → cl.lookup y = some c → x = y
  has : ∀ (i : Nat) (y : Str), fr[i]? = some y → ∃ c, cl.lookup y = some c ∧ ∀ v, ws[i]? = some (some v) → ∃ o, H c = some (.frz o (CelO c (some v)))
theorem CelsH.stay {cl : List (Str × Addr)} {fr : List Str} {ws : List (Option V)} {H H' : Hp} (C : CelsH cl fr ws H) (k : ∀ b o u, H b = some (.frz o u) → H' b = some (.frz o u)) : CelsH cl fr ws H' :=
  ⟨C.len, fun c z => by obtain ⟨o, v, e⟩ := C.all c z; exact ⟨o, v, k _ _ _ e⟩, C.inj, fun i y e => by
    obtain ⟨c, h1, h2⟩ := C.has i y e
    refine ⟨c, h1, fun v hv => ?_⟩
    obtain ⟨o, q⟩ := h2 v hv
    exact ⟨o, k _ _ _ q⟩⟩
theorem CelsH.at_ {P : Program} {w : World} {cl : List (Str × Addr)} {fr : List Str} {ws : List (Option V)} {H : Hp} {h : Heap} (C : CelsH cl fr ws H) (hok : HOk P w H h) : CellsAt cl fr ws h (thaw cl H) := by
  refine ⟨C.len, fun y c e => ⟨thaw_in ⟨y, e⟩, ?_⟩, C.inj, fun i y e => ?_⟩
  · obtain ⟨o, v, q⟩ := C.all c ⟨y, e⟩
    obtain ⟨_, ⟨u', p, _⟩, _⟩ := hok c _ q
    exact ⟨u', p⟩
  · obtain ⟨c, h1, h2⟩ := C.has i y e
    refine ⟨c, h1, fun v hv => ?_⟩
    obtain ⟨o, q⟩ := h2 v hv
    obtain ⟨_, ⟨u', p, r⟩, _⟩ := hok c _ q
    obtain ⟨u, e2, r2⟩ := r v rfl
    rw [e2] at p
    exact ⟨u, r2, p⟩
/-- the cells, as they stand, can be frozen -/
theorem frz_is {cl : List (Str × Addr)} {fr : List Str} {ws : List (Option V)} {h : Heap} {H : Hp} (nd : fr.Nodup) (C : CellsAt cl fr ws h H) : ∃ Hf, FrzAt cl h H Hf ∧ CelsH cl fr ws Hf := by
  classical
  have ex : ∀ c, InC cl c → ∃ ov : Obj × Option V, h.get? c = some ov.1 ∧ (∃ u', h.IsCell c u' ∧ ∀ x, ov.2 = some x → ∃ u, u' = some u ∧ RelV x u) ∧ ∀ (i : Nat) (y : Str) (v : V), fr[i]? = some y → cl.lookup y = some c → ws[i]? = some (some v) → ov.2 = some v := fun c ⟨y, hy⟩ => by
    obtain ⟨_, v0, ⟨o, ho, hd⟩⟩ := C.all y c hy
    by_cases q : ∃ (i : Nat) (v : V), fr[i]? = some y ∧ ws[i]? = some (some v)
    · obtain ⟨i, v, q1, q2⟩ := q
      obtain ⟨c', h1, h2⟩ := C.has i y q1
      rw [hy] at h1
      cases h1
      obtain ⟨u, r, p⟩ := h2 v q2
      refine ⟨(o, some v), ho, ⟨some u, p, fun x e => by cases e; exact ⟨u, rfl, r⟩⟩, fun j z v' e1 e2 e3 => ?_⟩
      have ez : z = y := C.inj z y c e2 hy
      subst ez
      have hi := (List.getElem?_eq_some_iff.mp q1).1
      have : i = j := (List.getElem?_inj hi nd).mp (q1.trans e1.symm)
      subst this
      rw [q2] at e3
      exact Option.some.inj e3
    · refine ⟨(o, none), ho, ⟨v0, ⟨o, ho, hd⟩, fun x e => nomatch e⟩, fun j z v' e1 e2 e3 => ?_⟩
      have ez : z = y := C.inj z y c e2 hy
      subst ez
      exact absurd ⟨j, v', e1, e3⟩ q
  let g : Addr → Option HO := fun c => if z : InC cl c then some (.frz (Classical.choose (ex c z)).1 (CelO c (Classical.choose (ex c z)).2)) else H c
  have gi : ∀ c (z : InC cl c), g c = some (.frz (Classical.choose (ex c z)).1 (CelO c (Classical.choose (ex c z)).2)) := fun c z => dif_pos z
  refine ⟨g, ⟨fun c z => ?_, fun b z => dif_neg z, fun c z => ?_⟩, C.len, fun c z => ⟨_, _, gi c z⟩, C.inj, fun i y e => ?_⟩
  · obtain ⟨y, hy⟩ := z
    exact (C.all y c hy).1
  · obtain ⟨h1, h2, _⟩ := Classical.choose_spec (ex c z)
    exact ⟨_, _, gi c z, h1, h2⟩
  · obtain ⟨c, h1, _⟩ := C.has i y e
    refine ⟨c, h1, fun v hv => ?_⟩
    obtain ⟨_, _, h3⟩ := Classical.choose_spec (ex c ⟨y, h1⟩)
    exact ⟨(Classical.choose (ex c ⟨y, h1⟩)).1, by rw [gi c ⟨y, h1⟩, h3 i y v e h1 hv]⟩
end KaG


set_option maxRecDepth 100000
set_option maxHeartbeats 2000000
/-! .. and its calls there -/
namespace KaG
open PySem PySem.Spec PyProof.Rows L2 LamX NdefX
section
variable {X : Cx} {pins : List (Addr × Obj)} {σ : L2.St} {H : Hp} {s s' : Shared}
theorem CE.imp {outer : List Env} {P : Program} {w : World} {Q Q' : VK} {u : Value} (h : CE outer P w H s Q u s') (k : ∀ v H', Q v H' → Q' v H') : CE outer P w H s Q' u s' := by
  obtain ⟨v, H', a, b, c, d, e, q⟩ := h
  exact ⟨v, H', a, b, c, d, e, k v H' q⟩
/-- x(..), x a name that holds a function whose cells are frozen -/
def tCallF (F : NF) (f : Addr) (fr : List Str) (i : Nat) (sp : List (Option V) → Sp) (ws : List (Option V)) (t : TA) : TE := fun σ H Q => σ[i]? = some (some (.ref f)) ∧ H f = some (FnO f F) ∧
  t σ H fun vs H1 => H1 f = some (FnO f F) ∧ H1 F.c = some (CodeO F.c F.qual) ∧ CelsH F.cl fr ws H1 ∧ sp ws vs (thaw F.cl H1) (fun v H' => Q v (backH F.cl H1 H')) E0
theorem pe_callF {F : NF} {f : Addr} {ps fr : List Str} {i j k : Nat} {x : Str} {sp : List (Option V) → Sp} {ws : List (Option V)} {t : TA} {e : Expr} {es : List Expr} {p pos : Pos} (Fn : NOk X.prog X.w X.K X.mg X.base CX0 k f F ps fr sp) (hr : Room j X.A) (hk : k ≤ j) (hN : X.N[i]? = some x) (hv : Vis X.env.scope x) (ha : PA X (e :: es) t)
    (hd : (x == ("__debug__" : Str)) = false := by decide) (hcd : (x == ("__classdict__" : Str)) = false := by decide)
    (he : starEach (e :: es) X.env = (false, eval e X.env) :: starEach es X.env := by rfl) (hpl : (backTo pos (starEach es X.env)).any (·.1) = false := by rfl) :
    PE X (.Call (.Name x p) (e :: es) [] pos) (tCallF F f fr i sp ws t) := by
  refine ⟨fun pins s σ H Q I h => ?_⟩
  obtain ⟨hs, hf, ht⟩ := h
  refine wpAny_Call_Name_kw (thn ((pe_var (pos := p) hN hv hd hcd).run pins s σ H (fun v H1 => v = .ref f ∧ H1 = H) I ⟨.ref f, hs, rfl, rfl⟩) fun u s1 ⟨v, H1, I1, r1, q1⟩ => ?_)
  obtain ⟨ev, eH⟩ := q1
  subst ev
  rw [eH] at I1
  obtain rfl : u = Value.ref f := r1
  refine PySem.W.callWith_F (first := []) (fnAt_of I1 hf) (thn (ha.run pos pins s1 σ H _ I1 ht) fun us s2 ⟨vs, H2, I2, r, h1, h2, C, q⟩ => ⟨fnAt_of I2 h1, ?_⟩) he hpl
  show wpAny _ _ (call (.ref f) us) _ _ _
  have e0 := I2.env0
  have nin : ∀ b o, H2 b = some o → (∀ ob v, o ≠ .frz ob (CelO b v)) → thaw F.cl H2 b = some o := fun b o e n => by
    rw [thaw_out (C.all.out e n)]
    exact e
  refine wpAny_call (codeAny_mono (Fn.run X.A X.stack s2 (thaw F.cl H2) us vs ws _ E0 (hr.mono hk) (env0_thaw C.all e0) (nin _ _ h1 fun _ _ y => by unfold FnO at y; cases y) (nin _ _ h2 fun _ _ y => by unfold CodeO at y; cases y) (C.at_ I2.hok) r q) fun r' s' hq => ?_)
  cases r' with
  | error e => exact (show False from hq).elim
  | ok fl =>
    cases fl with
    | ret u => exact I2.after (ce_thaw C.all e0 hq)
    | next => exact False.elim hq
    | brk => exact False.elim hq
    | cont => exact False.elim hq
/-- g(.., x, ..), g a def of the top that is handed a nested function: the cells of F are frozen for the call -/
def tCallZ (mk : Addr → NF) (fr : List Str) (js : List Nat) (sp : Sp) (t : TA) : TE := fun σ H Q => t σ H fun vs H1 => ∃ (f c' : Addr), H1 f = some (FnO f (mk c')) ∧ H1 c' = some (CodeO c' (mk c').qual) ∧
  ∀ Hf : Hp, CelsH (mk c').cl fr (js.map (slotAt σ)) Hf → (∀ b o, H1 b = some o → Hf b = some o) → (∀ c, InC (mk c').cl c → H1 c = none) → (∀ b, ¬ InC (mk c').cl b → Hf b = H1 b) → sp vs Hf (fun v H' => Q v (thaw (mk c').cl H')) E0
theorem pe_callZ {mk : Addr → NF} {cl : List (Str × Addr)} {ps fr : List Str} {js : List Nat} {k : Nat} {x : Str} {g : Addr} {fd : FuncData} {sp : Sp} {t : TA} {e : Expr} {es : List Expr} {p pos : Pos} (Fg : FnOk X.prog X.w X.K X.mg X.base CX0 k g fd ps sp) (hcl : ∀ c', (mk c').cl = cl) (nd : fr.Nodup)
    (hfn : ∀ x c, X.env.cells.lookup x = some c → X.fn x = true) (cp : X.Ok → Caps X cl fr js) (hr : Room k X.A) (hg : Gl X x) (hm : X.mg x = some (.ref g)) (hk : PySem.W.keepIn X.K (.ref g) = true) (hb : Binds X.K fd ps []) (ha : PA X (e :: es) t)
    (hdb : (x == ("__debug__" : Str)) = false := by decide) (he : starEach (e :: es) X.env = (false, eval e X.env) :: starEach es X.env := by rfl) (hpl : (backTo pos (starEach es X.env)).any (·.1) = false := by rfl) :
    PE X (.Call (.Name x p) (e :: es) [] pos) (tCallZ mk fr js sp t) := by
  refine ⟨fun pins s σ H Q I h => ?_⟩
  refine wpAny_Call_Name_kw (ld_glob I hg hm ?_ hdb)
  refine PySem.W.callWith_K (h₀ := X.base) I.ok.mod.kin hk (thn (ha.run pos pins s σ H _ I h) fun us s1 ⟨vs, H1, I1, r, f, c', h1, h2, q⟩ => ⟨I1.kIn, ?_⟩) he hpl
  have CA := cells_of I1 (cp I1.ok)
  rw [← hcl c'] at CA
  obtain ⟨Hf, FA, CH⟩ := frz_is nd CA
  have cin : ∀ c, InC (mk c').cl c → ∃ y, X.env.cells.lookup y = some c := fun c ⟨y, hy⟩ => ⟨y, (cp I1.ok).sub y c (by rw [← hcl c']; exact hy)⟩
  have big : ∀ c, InC (mk c').cl c → X.s_0.heap.objs.size ≤ c := fun c z => by
    obtain ⟨y, hy⟩ := cin c z
    exact I1.ok.cab y c (hfn y c hy) hy
  have nb : ∀ c, InC (mk c').cl c → X.base.get? c = none := fun c z => by
    cases e2 : X.base.get? c with
    | none => rfl
    | some o =>
      have h3 := (I1.ok.bs c o e2).1
      exact absurd (Nat.lt_of_lt_of_le (Heap.lt_size h3) (big c z)) (Nat.lt_irrefl _)
  have nf : ∀ c, InC (mk c').cl c → c ∉ frs X.stack := fun c z hm2 => by
    rcases List.mem_cons.mp (I1.stkSub c hm2) with e2 | e2
    · obtain ⟨y, hy⟩ := cin c z
      obtain ⟨v, o, ho, hd⟩ := I1.cell y c hy
      obtain ⟨m, ⟨o2, es2, ep2, h4, h5, _⟩, _⟩ := I1.loc
      rw [← e2, ho] at h4
      cases h4
      rw [hd] at h5
      cases h5
    · obtain ⟨o, h3⟩ : ∃ o, X.s_0.heap.get? c = some o := by
        have := (I1.ok.funs.mem e2).2
        first
          | exact ⟨_, this⟩
          | exact this
          | (obtain ⟨o, h3, _⟩ := this; exact ⟨o, h3⟩)
      exact absurd (Nat.lt_of_lt_of_le (Heap.lt_size h3) (big c z)) (Nat.lt_irrefl _)
  have q := q Hf CH (fun b o e2 => by rw [FA.out b fun z => by rw [FA.non b z] at e2; cases e2]; exact e2) FA.non FA.out
  have hl : us.length = ps.length := r.length.symm.trans (Fg.len _ _ _ _ q)
  have bd := hb s1 us I1.kIn (by rw [List.append_nil]; exact hl)
  rw [List.append_nil] at bd
  show wpAny _ _ (call (.ref g) us) _ _ _
  refine wpAny_call (codeAny_mono (Fg.run X.A X.stack s1 Hf ⟨us, []⟩ us vs _ E0 hr (env0_frz FA nb nf I1.env0) bd r q) fun r' s' hq => ?_)
  cases r' with
  | error e => exact (show False from hq).elim
  | ok fl =>
    cases fl with
    | ret u => exact I1.after (ce_frz FA nf hq)
    | next => exact False.elim hq
    | brk => exact False.elim hq
    | cont => exact False.elim hq
end
end KaG


set_option maxRecDepth 100000
set_option maxHeartbeats 4000000
namespace KaG
open PySem PySem.Spec PyProof.Rows L2 KaC LamX NdefX
section
variable {P : Program} {w : World} {K : PySem.W.Frag} {mg : Str → Option Value} {base : Heap}
/-! ### _grown -/
abbrev sGrown : Stmt := top 8
abbrev nmGw : List Str := ["names", "joins", "found", "grown", "name"]
theorem scGw : FnScope nmGw ["names", "joins"] (defScope sGrown) := ⟨rfl, rfl, rfl, by decide +kernel, rfl, by decide +kernel, by decide +kernel⟩
/-- what the function that is handed on tells: whether a name joins those found -/
def spGrown (P : Program) (w : World) (K : PySem.W.Frag) (mg : Str → Option Value) (base : Heap) (kJ : Nat) : Sp := fun vs H Q _ => ∃ (na f : Addr) (Fj : NF) (fr : List Str) (sp : List (Option V) → Sp) (ws : List (Option V)) (names : List Str) (J : Jn), vs = [.ref na, .ref f] ∧ H na = some (.lst (names.map V.str)) ∧
  H f = some (FnO f Fj) ∧ H Fj.c = some (CodeO Fj.c Fj.qual) ∧ CelsH Fj.cl fr ws H ∧ NOk P w K mg base CX0 kJ f Fj ["name", "found"] fr sp ∧ names.length ≤ 5 ∧ Mono J ∧
  (∀ (n : Str) (fa : Addr) (B : List Str) (H1 : Hp) (Q1 : VK), n ∈ names → Same H H1 → H1 fa = some (.lst (B.map V.str)) → (∀ H2, Same (thaw Fj.cl H1) H2 → Q1 (.bl (J n B)) H2) → sp ws [.str n, .ref fa] (thaw Fj.cl H1) Q1 E0) ∧
  ∀ (p : Addr) (B : List Str) (H' : Hp), Same H H' → H' p = some (.lst (B.map V.str)) → IsL names J B → Q (.ref p) H'
theorem back_same {cl : List (Str × Addr)} {H H' : Hp} (S : Same (thaw cl H) H') : Same H (backH cl H H') := fun b o e => by
  by_cases z : InC cl b
  · rw [back_in z]
    exact e
  · rw [back_out z]
    exact S b o (by rw [thaw_out z]; exact e)
theorem ok_grown {kJ : Nat} {f : Addr} {fd : FuncData} (F : Fun K "_grown" "_grown" sGrown f fd) (T : TxtC mg) : FnOk P w K mg base CX0 (kJ + 1) f fd ["names", "joins"] (spGrown P w K mg base kJ) := by
  refine F.ok scGw (fun vs H Q E h => ?_) (fun cdv A outer s H vs Q E hr h => ?_)
  · obtain ⟨na, f, Fj, fr, sp, ws, names, J, rfl, _⟩ := h
    rfl
  · obtain ⟨na, fj, Fj, fr, sp, ws, names, J, rfl, eN, eF, eC, CH, NJ, n5, mo, call, k⟩ := h
    refine ⟨_, (pss_cons (ps_set (i := 2) scGw.nd rfl (Or.inr rfl) (pe_lst pa_nil))
      (pss_one (ps_while PassesOwn.never (pt_val pe_bl)
        (pss_cons (ps_setLc (i := 3) (own := [("name", 4)]) (g := gName 4) (by rfl) scGw.nd rfl rfl (sw_true rfl rfl rfl (by decide +kernel)) (pi_list (pv 0))
            (blkOk_by (own := [("name", 4)]) (N := nmGw) (sc := defScope sGrown) (by decide +kernel)) (fun _ _ _ _ _ => pg_name (i := 4) scGw.nd rfl (Or.inl rfl))
            (fun _ _ _ _ _ => pts_one (PW.pt (pw_or (pt_cmpR (r := rIn K false) op_in_seq (pv 4) (pv 2) rfl) (pw_or1 (pt_val (pe_callF (i := 1) (ws := ws) NJ hr (Nat.le_refl _) (by rfl) (by first | exact Or.inl rfl | exact Or.inr (Or.inl rfl) | exact Or.inr (Or.inr rfl)) (pa_cons (pv 4) (pa_cons (pv 2) pa_nil))))))))
            (fun _ _ _ _ _ => pv 4))
        (pss_cons (ps_if (pt_cmpR op_eq (pe_callB call_len_seq (by rfl) T.b.len PySem.boot_len (pa_cons (pv 3) pa_nil)) (pe_callB call_len_seq (by rfl) T.b.len PySem.boot_len (pa_cons (pv 2) pa_nil)) (nomark _)) (pss_one (ps_ret (pv 3))) pss_nil)
        (pss_one (ps_set (i := 2) scGw.nd rfl (Or.inr rfl) (pv 3)))))))), ?_⟩
    refine ⟨Nat.zero_le _, fun p0 np0 => ?_⟩
    let W : Nat → L2.St → Hp → Prop := fun m σ' G => ∃ (q : Addr) (B : List Str) (x3 x4 : Option V), σ' = [some (.ref na), some (.ref fj), some (.ref q), x3, x4] ∧ Same H G ∧ G q = some (.lst (B.map V.str)) ∧ Grw names J B ∧ m = names.length - B.length
    refine ⟨W, ⟨_, p0, [], _, _, rfl, same_upd np0, upd_same, Grw.nil, rfl⟩, ?_⟩
    rintro m σ' G ⟨q, B, x3, x4, rfl, S, eq, hG, rfl⟩
    have eNG := S _ _ eN
    refine ⟨true, rfl, ?_⟩
    refine iteT ⟨fun σ' H' => ∃ m', m' < names.length - B.length ∧ W m' σ' H', fun _ _ h => h, ?_⟩
    have hB5 : B.length ≤ names.length := by
      have := hG.fl
      rw [this]
      exact List.length_filter_le ..
    refine ⟨_, rfl, na, rfl, ⟨_, SqL.of eNG⟩, fun D hD => lc_list (K := K) (a := na) (xs := names.map V.str) (fun i J' => Same G J' ∧ J' D = some (.lst (((names.take i).filter fun n => decide (n ∈ B) || J n B).map V.str))) ?_ ?_ ?_ ?_⟩
    · exact ⟨same_upd hD, upd_same⟩
    · rintro i J' _ ⟨S2, _⟩
      exact SqL.of (S2 _ _ eNG)
    · rintro i x J' hx ⟨S2, jD⟩
      rw [List.getElem?_map] at hx
      obtain ⟨n, hn, rfl⟩ := Option.map_eq_some_iff.mp hx
      have mn : n ∈ names := List.mem_of_getElem? hn
      have SH := KaG.Same.tr S S2
      have tk : names.take (i + 1) = names.take i ++ [n] := by rw [List.take_add_one, hn]; rfl
      have fin : ∀ (c : Bool) (J2 : Hp), (decide (n ∈ B) || J n B) = c → Same J' J2 → (if c = true then tVar 4 [some (.ref na), some (.ref fj), some (.ref q), x3, some (.str n)] J2 fun y H4 => ∃ acc, H4 D = some (.lst acc) ∧ acc.length < sizeLine ∧ (Same G (upd H4 D (.lst (acc ++ [y]))) ∧ upd H4 D (.lst (acc ++ [y])) D = some (.lst (((names.take (i + 1)).filter fun n => decide (n ∈ B) || J n B).map V.str)))
          else (Same G J2 ∧ J2 D = some (.lst (((names.take (i + 1)).filter fun n => decide (n ∈ B) || J n B).map V.str)))) := fun c J2 hc S3 => by
        have j2D := S3 _ _ jD
        have S23 := KaG.Same.tr S2 S3
        cases c with
        | true =>
          rw [if_pos rfl]
          refine ⟨_, rfl, _, j2D, small1000 ?_, fun b u e => by rw [upd_ne (ne_of_none e hD)]; exact S23 b u e, ?_⟩
          · have h1 := List.length_filter_le (fun n => decide (n ∈ B) || J n B) (names.take i)
            rw [List.length_take] at h1
            rw [List.length_map]
            omega
          · rw [upd_same, tk, List.filter_append, List.map_append, List.filter_cons_of_pos (by simpa using hc)]
            rfl
        | false =>
          rw [if_neg (by decide)]
          refine ⟨S23, ?_⟩
          rw [j2D, tk, List.filter_append, List.filter_cons_of_neg (by rw [hc]; decide), List.filter_nil, List.append_nil]
      refine ⟨rfl, ?_⟩
      refine ⟨_, rfl, _, rfl, q, B.map V.str, rfl, .inl (SqL.of (S2 _ _ eq)), rfl, flat_strs, _, rfl, ?_⟩
      rw [show (if false = true then !inV (V.str n) (List.map V.str B) else inV (V.str n) (List.map V.str B)) = decide (n ∈ B) from inV_str]
      by_cases hm : n ∈ B
      · rw [decide_eq_true hm]
        exact iteT (fin true J' (by rw [decide_eq_true hm]; rfl) Same.refl')
      · rw [decide_eq_false hm]
        refine iteF ⟨rfl, SH _ _ eF, _, rfl, _, rfl, SH _ _ eF, SH _ _ eC, CH.stay fun b o u e => SH _ _ e, ?_⟩
        refine call n q B J' _ mn SH (S2 _ _ eq) fun H2 S3 => ⟨_, rfl, ?_⟩
        exact fin (J n B) _ (by rw [decide_eq_false hm, Bool.false_or]) (back_same S3)
    · rintro J' ⟨S2, jD⟩
      rw [List.length_map, List.take_length] at jD
      have SH := KaG.Same.tr S S2
      have jD : J' D = some (.lst ((grow1 names J B).map V.str)) := jD
      have gl := grow1_le (names := names) (J := J) (B := B)
      have st := hG.step
      have nx := hG.next mo
      refine ⟨_, rfl, D, _, rfl, .inl (SqL.of jD), _, rfl, q, _, rfl, .inl (SqL.of (S2 _ _ eq)), rfl, _, rfl, ite2 (fun hc => ?_) fun hc => ?_⟩
      · rw [List.length_map, List.length_map] at hc
        obtain ⟨e1, cl⟩ := st.2 (Int.ofNat.inj (by simpa using hc))
        refine ⟨_, rfl, k D B J' SH (by rw [jD, e1]) (hG.done cl)⟩
      · rw [List.length_map, List.length_map] at hc
        have ne : (grow1 names J B).length ≠ B.length := fun z => hc (by simp [z])
        refine ⟨_, rfl, names.length - (grow1 names J B).length, by omega, D, grow1 names J B, _, _, rfl, SH, jD, nx, rfl⟩
end
end KaG


set_option maxRecDepth 100000
set_option maxHeartbeats 2000000
/-! a nested def that has cells of its own beside those that it captured -/
namespace PySem
section
variable {M : Model} {A : Around} {E : Value → Shared → Prop} {s₀ s : Shared} {m cm : Str → Option Value} {env : Env} {own : List (Str × Addr)}
theorem ka_stL {n : Str} {v : Value} {Q : Unit → Shared → Prop} (x : InCallC s₀ env.locals m own cm s) (hk : env.scope.kind = .function) (hl : env.kindOf n = some .local)
    (h : ∀ s', InCallC s₀ env.locals (fun y => if y = n then some v else m y) own cm s' → Q () s') : wpAny M A (storeName env n v) Q E s := by
  refine wpAny_storeName_local hl x.toInCall.ns (fun h' hn' hs' => h _ ⟨⟨?_, hn', fun b o e => ?_, x.toInCall.fresh⟩, fun k c hc => ?_, x.apart, x.above⟩) (by rw [hk]; rfl)
  · obtain ⟨h₁, tk, rfl⟩ := x.toInCall.same
    exact ⟨h', _, rfl⟩
  · exact hs'.extBut b o (Nat.ne_of_lt (Nat.lt_of_lt_of_le (Heap.lt_size e) x.toInCall.fresh)) (x.toInCall.keep b o e)
  · exact (x.cell k c hc).sameBut hs' (Nat.ne_of_gt (x.above k c (mem_of_lookup hc)))
theorem ka_stC {n : Str} {c : Addr} {v : Value} {Q : Unit → Shared → Prop} (x : InCallC s₀ env.locals m own cm s) (hk : env.scope.kind = .function) (hl : env.kindOf n = some .cell)
    (hc : own.lookup n = some c) (hce : env.cells.lookup n = some c)
    (h : ∀ s', InCallC s₀ env.locals m own (fun y => if y = n then some v else cm y) s' → Q () s') : wpAny M A (storeName env n v) Q E s := by
  have hLc := x.above n c (mem_of_lookup hc)
  refine wpAny_storeName_cell hk hl hce (x.cell n c hc) fun h' hc' hs' => h _ ⟨⟨?_, x.toInCall.ns.sameBut hs' (Nat.ne_of_lt hLc), fun b o e => ?_, x.toInCall.fresh⟩, fun k c' hk' => ?_, x.apart, x.above⟩
  · obtain ⟨h₁, tk, rfl⟩ := x.toInCall.same
    exact ⟨h', _, rfl⟩
  · exact hs'.extBut b o (Nat.ne_of_lt (Nat.lt_trans (Nat.lt_of_lt_of_le (Heap.lt_size e) x.toInCall.fresh) hLc)) (x.toInCall.keep b o e)
  · by_cases hkn : k = n
    · subst hkn
      rw [hc] at hk'; cases hk'
      simpa using hc'
    · rw [if_neg hkn]
      exact (x.cell k c' hk').sameBut hs' fun e => hkn (name_of_addr x.apart (mem_of_lookup hk') (e ▸ mem_of_lookup hc))
theorem ka_bind (hown : ∀ n c, own.lookup n = some c → env.cells.lookup n = some c) (f : Str × Value → PUnit → Sem (ForInStep PUnit)) (hf : ∀ n v u, f (n, v) u = (do storeName env n v; pure (.yield ⟨⟩))) (hk : env.scope.kind = .function) :
    ∀ (binds : List (Str × Value)) (m cm : Str → Option Value) (s : Shared) (Q : PUnit → Shared → Prop), InCallC s₀ env.locals m own cm s →
      (∀ x ∈ binds, env.kindOf x.1 = some .local ∨ (env.kindOf x.1 = some .cell ∧ (own.lookup x.1).isSome = true)) →
      (∀ s', InCallC s₀ env.locals (bindL env.kindOf binds m) own (bindC env.kindOf binds cm) s' → Q ⟨⟩ s') → wpAny M A (forIn binds ⟨⟩ f) Q E s
  | [], m, cm, s, Q, x, _, h => by rw [List.forIn_nil]; exact wpAny_pure (h s x)
  | (n, v) :: r, m, cm, s, Q, x, hkind, h => by
    rw [List.forIn_cons, hf]
    have hr : ∀ y ∈ r, env.kindOf y.1 = some .local ∨ (env.kindOf y.1 = some .cell ∧ (own.lookup y.1).isSome = true) := fun y hy => hkind y (List.mem_cons_of_mem _ hy)
    rcases hkind (n, v) List.mem_cons_self with hl | ⟨hl, hc⟩
    · refine wpAny_bind (wpAny_bind (ka_stL x hk hl fun s' x' => wpAny_pure (ka_bind hown f hf hk r _ _ s' Q x' hr fun s'' x'' => h s'' ?_)))
      unfold bindL bindC; rw [if_pos hl, if_pos hl]; exact x''
    · obtain ⟨c, hc⟩ := Option.isSome_iff_exists.mp hc
      have hnl : ¬ env.kindOf n = some .local := by rw [hl]; decide
      refine wpAny_bind (wpAny_bind (ka_stC x hk hl hc (hown n c hc) fun s' x' => wpAny_pure (ka_bind hown f hf hk r _ _ s' Q x' hr fun s'' x'' => h s'' ?_)))
      unfold bindL bindC; rw [if_neg hnl, if_neg hnl]; exact x''
end
theorem cellsFrom_app : ∀ (names : List (Str × NameKind)) (n : Nat) (acc : List (Str × Addr)), cellsFrom n names acc = cellsFrom n names [] ++ acc
  | [], _, _ => rfl
  | (name, kind) :: r, n, acc => by
    unfold cellsFrom
    split
    · rw [cellsFrom_app r (n + 1) ((name, n) :: acc), cellsFrom_app r (n + 1) [(name, n)], List.append_assoc]
      rfl
    · exact cellsFrom_app r n acc
theorem cellsFrom_of : ∀ (names : List (Str × NameKind)) (n : Nat) {x : Str} {c : Addr}, (x, c) ∈ cellsFrom n names [] → (x, NameKind.cell) ∈ names
  | [], _, _, _, h => nomatch h
  | (name, kind) :: r, n, x, c, h => by
    unfold cellsFrom at h
    split at h
    · rename_i hk
      rw [cellsFrom_app] at h
      rcases List.mem_append.mp h with h | h
      · exact List.mem_cons_of_mem _ (cellsFrom_of r _ h)
      · have e := List.mem_singleton.mp h
        cases e
        have : kind = .cell := by simpa using hk
        rw [this]
        exact List.mem_cons_self
    · exact List.mem_cons_of_mem _ (cellsFrom_of r _ h)
section
variable {M : Model} {A : Around} {E : Value → Shared → Prop} {s : Shared}
theorem ka_newEnv {scope : Scope} {globals : Addr} {cl : List (Str × Addr)} {binds : List (Str × Value)} {qual : Str} {func : Option Addr} {code : Value} {builtins : Addr} {Q : Env → Shared → Prop}
    (hk : scope.kind = .function)
    (hkind : ∀ x ∈ binds, scope.names.lookup x.1 = some .local ∨ (scope.names.lookup x.1 = some .cell ∧ ((cellsFrom (s.heap.objs.size + 1) scope.names []).lookup x.1).isSome = true))
    (hQ : ∀ env, env = newEnv scope s.heap.objs.size globals (cellsFrom (s.heap.objs.size + 1) scope.names cl) qual func code none builtins →
      ∀ s', InCallC s env.locals (bindL env.kindOf binds fun _ => none) (cellsFrom (s.heap.objs.size + 1) scope.names []) (bindC env.kindOf binds fun _ => none) s' → Q env s') :
    wpAny M A (newFunctionEnv scope globals cl binds qual func code none builtins) Q E s := by
  simp only [newFunctionEnv, Option.isSome_none, Bool.false_eq_true, if_false]
  refine wpAny_bind (wpAny_alloc ?_)
  refine wpAny_bind (wpAny_layCells _ (fun name kind cells => by cases hkc : kind == NameKind.cell <;> simp [hkc]) _ _ _ _ ?_)
  have ok := cellsFrom_ok scope.names (s.heap.push { cls := .type "frame", data := .dict #[] }) (s.heap.objs.size + 1) [] ⟨fun _ _ hm => (nomatch hm), List.Pairwise.nil⟩ (by rw [Heap.size_push]; exact Nat.le_refl _)
  rw [Heap.size_push] at ok
  rw [show ({ s with heap := s.heap.push { cls := .type "frame", data := .dict #[] } } : Shared).heap.objs.size = s.heap.objs.size + 1 from Heap.size_push ..]
  refine wpAny_bind (ka_bind (s₀ := s) (env := newEnv scope s.heap.objs.size globals (cellsFrom (s.heap.objs.size + 1) scope.names cl) qual func code none builtins) (own := cellsFrom (s.heap.objs.size + 1) scope.names [])
    (fun n c e => by
      show (cellsFrom (s.heap.objs.size + 1) scope.names cl).lookup n = some c
      rw [cellsFrom_app, List.lookup_append, e]
      rfl)
    _ (fun _ _ _ => rfl) hk binds (fun _ => none) (fun _ => none) _ _
    ⟨⟨⟨_, _, rfl⟩, (Heap.Ns.new s.heap (.type "frame")).keeps (pushCells_keeps _ _), fun b o e => pushCells_keeps _ _ b o (Heap.get?_push_of_some _ e), Nat.le_refl _⟩,
      fun n c hc => (ok.empty n c (mem_of_lookup hc)).1, ok.apart, fun n c hm => (ok.empty n c hm).2⟩
    hkind fun s' x => wpAny_pure (hQ _ rfl s' x))
end
end PySem
namespace KaG
open PySem PySem.Spec PyProof.Rows L2 LamX NdefX
structure NScopeC (N ps fr : List Str) (sc : Scope) : Prop where
  kind : sc.kind = .function
  co : sc.isCoroutine = false
  gen : sc.isGenerator = false
  nd : N.Nodup
  pre : N.take (ps.length + fr.length) = ps ++ fr
  par : ∀ x ∈ ps, sc.names.lookup x = some .local ∨ sc.names.lookup x = some .cell
  free : ∀ y ∈ sc.names, y.2 = .free → y.1 ∈ fr
  frk : ∀ x ∈ fr, sc.names.lookup x = some .free
  cel : ∀ y ∈ sc.names, y.2 = .cell → sc.names.lookup y.1 = some .cell
def nscC (N ps fr : List Str) (sc : Scope) : Bool :=
  decide (sc.kind = .function) && !sc.isCoroutine && !sc.isGenerator && decide N.Nodup && decide (N.take (ps.length + fr.length) = ps ++ fr) && ps.all (fun x => decide (sc.names.lookup x = some .local) || decide (sc.names.lookup x = some .cell)) &&
    sc.names.all (fun y => !decide (y.2 = .free) || decide (y.1 ∈ fr)) && fr.all (fun x => decide (sc.names.lookup x = some .free)) && sc.names.all (fun y => !decide (y.2 = .cell) || decide (sc.names.lookup y.1 = some .cell))
theorem nscopeC_by {N ps fr : List Str} {sc : Scope} (h : nscC N ps fr sc = true) : NScopeC N ps fr sc := by
  unfold nscC at h
  simp only [Bool.and_eq_true, Bool.not_eq_true', decide_eq_true_eq, List.all_eq_true, Bool.or_eq_true, decide_eq_false_iff_not] at h
  obtain ⟨⟨⟨⟨⟨⟨⟨⟨h1, h2⟩, h3⟩, h4⟩, h5⟩, h6⟩, h7⟩, h8⟩, h9⟩ := h
  exact ⟨h1, h2, h3, h4, h5, h6, fun y hy e => (h7 y hy).elim (fun z => absurd e z) id, h8, fun y hy e => (h9 y hy).elim (fun z => absurd e z) id⟩
abbrev cellsC (F : NF) (L : Addr) : List (Str × Addr) := cellsFrom (L + 1) F.scope.names F.cl
abbrev envC (F : NF) (f L : Addr) : Env := PySem.W.envX F.qual F.scope L f (.ref F.c) (cellsC F L)
/-- the context of its body, at its entry -/
def ncxC (CX : CXT) (P : Program) (w : World) (K : PySem.W.Frag) (mg : Str → Option Value) (base : Heap) (N : List Str) (F : NF) (f : Addr) (A : Around) (outer : List Env) (s : Shared) (H : Hp) (E : XK) : Cx where
  prog := P
  w := w
  K := K
  mg := mg
  base := base
  A := A.deeper (envC F f s.heap.objs.size)
  N := N
  s_0 := s
  H_0 := H
  env := envC F f s.heap.objs.size
  outer := outer
  stack := envC F f s.heap.objs.size :: outer
  ex := []
  calm := true
  fn := fun x => F.scope.names.lookup x == some .cell
  pn := []
  xe := fun e s' => wpAny (model P w) (A.deeper (envC F f s.heap.objs.size)) (leaving (envC F f s.heap.objs.size) e) (fun _ s'' => CX outer H s E e s'') (fun e' s'' => CX outer H s E e' s'') s'
section
variable {CX : CXT} {P : Program} {w : World} {K : PySem.W.Frag} {mg : Str → Option Value} {base : Heap} {N ps fr : List Str} {F : NF} {f : Addr} {A : Around} {outer : List Env} {s s1 : Shared} {H : Hp} {E : XK} {us : List Value} {vs : List V} {ws : List (Option V)}
theorem inv_startC (S : NScopeC N ps fr F.scope) (hd : A.handled = none) (e0 : Env0 P w K mg base A outer s H) (hl : vs.length = ps.length) (r : Vals vs us) (C : CellsAt F.cl fr ws s.heap H)
    (x : InCallC s s.heap.objs.size (bindL (envC F f s.heap.objs.size).kindOf (ps.zip us) fun _ => none) (cellsFrom (s.heap.objs.size + 1) F.scope.names []) (bindC (envC F f s.heap.objs.size).kindOf (ps.zip us) fun _ => none) s1) :
    Inv (ncxC CX P w K mg base N F f A outer s H E) [] (startF N vs ws) H s1 := by
  have hpl : ps.length + fr.length ≤ N.length := by
    have q := congrArg List.length S.pre
    rw [List.length_take, List.length_append] at q
    omega
  obtain ⟨h1, tk, rfl, hk⟩ := x.done
  have noA : ∀ b : Addr, b ∉ (ncxC CX P w K mg base N F f A outer s H E).ex := fun b z => absurd (show b ∈ ([] : List Addr) from z) (by simp)
  have look : ∀ y, (cellsC F s.heap.objs.size).lookup y = ((cellsFrom (s.heap.objs.size + 1) F.scope.names []).lookup y).or (F.cl.lookup y) := fun y => by
    unfold cellsC
    rw [cellsFrom_app, List.lookup_append]
  have clt : ∀ y c, F.cl.lookup y = some c → c < s.heap.objs.size := fun y c e => by
    obtain ⟨_, v, o, ho, _⟩ := C.all y c e
    exact Heap.lt_size ho
  have two : ∀ y c, (cellsC F s.heap.objs.size).lookup y = some c → (cellsFrom (s.heap.objs.size + 1) F.scope.names []).lookup y = some c ∨ F.cl.lookup y = some c := fun y c e => by
    rw [look] at e
    cases q : (cellsFrom (s.heap.objs.size + 1) F.scope.names []).lookup y with
    | some d => rw [q] at e; exact .inl e
    | none => rw [q] at e; exact .inr e
  have ownN : ∀ y, F.scope.names.lookup y = some .free → (cellsFrom (s.heap.objs.size + 1) F.scope.names []).lookup y = none := fun y e => by
    cases q : (cellsFrom (s.heap.objs.size + 1) F.scope.names []).lookup y with
    | none => rfl
    | some d =>
      have := S.cel _ (cellsFrom_of _ _ (PySem.mem_of_lookup q)) rfl
      rw [e] at this
      cases this
  have cellK : ∀ {c : Addr} {v : Option Value}, s.heap.IsCell c v → h1.IsCell c v := fun {c v} ⟨o, ho, hd⟩ => ⟨o, hk _ _ ho, hd⟩
  refine ⟨⟨e0.mod, S.kind, rfl, rfl, Nat.le_refl _, fun y z c q1 q2 => ?_, fun y hy => ?_, fun y c hf q => ?_, fun _ => hd, Around.frames_deeper e0.frames, .inr ⟨rfl, rfl⟩, fun b z => absurd z (noA b), e0.bs, e0.bsz, fun b _ _ => noA b, fun b z => absurd z (noA b), e0.funs, e0.frf⟩,
    rfl, e0.bare, Un.kept hk, ⟨_, x.toInCall.ns, fun i y v e1 e2 e3 => ?_⟩, fun y c q => ?_, e0.hok.fresh (Nat.le_refl _), fun y c q => ?_, fun p hp => absurd (show p ∈ ([] : List (Addr × Obj)) from hp) (by simp), e0.hok.kept hk, ?_⟩
  · rcases two y c q1 with a | a <;> rcases two z c q2 with b | b
    · exact name_of_addr x.apart (PySem.mem_of_lookup a) (PySem.mem_of_lookup b)
    · exact absurd (Nat.lt_trans (x.above y c (PySem.mem_of_lookup a)) (clt z c b)) (Nat.lt_irrefl _)
    · exact absurd (Nat.lt_trans (x.above z c (PySem.mem_of_lookup b)) (clt y c a)) (Nat.lt_irrefl _)
    · exact C.inj y z c a b
  · have hy : F.scope.names.lookup y = some .cell ∨ F.scope.names.lookup y = some .free := hy
    show ∃ c, (cellsC F s.heap.objs.size).lookup y = some c
    rw [look]
    rcases hy with hy | hy
    · obtain ⟨c, e⟩ := L2.cell_has (n := s.heap.objs.size + 1) hy
      rw [e]
      exact ⟨c, rfl⟩
    · obtain ⟨i, hi⟩ := List.mem_iff_getElem?.mp (S.free _ (PySem.mem_of_lookup hy) rfl)
      obtain ⟨c, hc, _⟩ := C.has i y hi
      rw [ownN y hy, hc]
      exact ⟨c, rfl⟩
  · have hf : F.scope.names.lookup y = some .cell := by
      have := hf
      simpa [ncxC] using this
    obtain ⟨c2, e⟩ := L2.cell_has (n := s.heap.objs.size + 1) hf
    have q : (cellsC F s.heap.objs.size).lookup y = some c := q
    rw [look, e] at q
    cases q
    exact Nat.le_of_lt (x.above y _ (PySem.mem_of_lookup e))
  · have e1 : N[i]? = some y := e1
    have clen := C.len
    unfold startF at e2
    by_cases h3 : i < ps.length
    · have hq : (ps ++ fr)[i]? = some y := by
        rw [← S.pre, List.getElem?_take_of_lt (by omega)]
        exact e1
      rw [List.getElem?_append_left h3] at hq
      rw [List.getElem?_append_left (by rw [List.length_map]; omega), List.getElem?_map] at e2
      have ha : vs[i]? = some v := by
        cases e : vs[i]? with
        | none => rw [e] at e2; cases e2
        | some a => rw [e] at e2; cases e2; rfl
      obtain ⟨u, hu, rv⟩ := r.get ha
      have ndP : ps.Nodup := by
        have q := S.nd.sublist (List.take_sublist (ps.length + fr.length) N)
        rw [S.pre] at q
        exact (List.nodup_append.mp q).1
      refine ⟨u, rv, ?_⟩
      rcases S.par y (List.mem_of_getElem? hq) with k | k
      · exact .inl ⟨k, L2.bindL_get ndP hq hu k⟩
      · obtain ⟨c, e⟩ := L2.cell_has (n := s.heap.objs.size + 1) k
        refine .inr ⟨.inl k, c, by show (cellsC F s.heap.objs.size).lookup y = some c; rw [look, e]; rfl, ?_⟩
        have q := x.cell y c e
        rw [L2.bindC_get ndP hq hu (by show F.scope.names.lookup y ≠ _; rw [k]; decide)] at q
        exact q
    · rw [List.getElem?_append_right (by rw [List.length_map]; omega), List.length_map] at e2
      by_cases h2 : i < ps.length + fr.length
      · have hq : (ps ++ fr)[i]? = some y := by
          rw [← S.pre, List.getElem?_take_of_lt (by omega)]
          exact e1
        rw [List.getElem?_append_right (by omega)] at hq
        rw [List.getElem?_append_left (by omega), hl] at e2
        obtain ⟨c, hc, hv⟩ := C.has (i - ps.length) y hq
        obtain ⟨u, ru, hu⟩ := hv v e2
        have hfr := S.frk y (List.mem_of_getElem? hq)
        exact ⟨u, ru, .inr ⟨.inr hfr, c, by show (cellsC F s.heap.objs.size).lookup y = some c; rw [look, ownN y hfr, hc]; rfl, cellK hu⟩⟩
      · rw [List.getElem?_append_right (by omega), List.getElem?_replicate] at e2
        split at e2 <;> cases e2
  · rcases two y c q with a | a
    · exact ⟨_, x.cell y c a⟩
    · obtain ⟨v, z⟩ := (C.all y c a).2
      exact ⟨v, cellK z⟩
  · rcases two y c q with a | a
    · exact e0.hok.fresh (Nat.le_of_lt (x.above y c (PySem.mem_of_lookup a)))
    · exact (C.all y c a).1
  · have clen := C.len
    unfold startF
    show _ = N.length
    rw [List.length_append, List.length_append, List.length_map, List.length_replicate]
    omega
/-- THE RULE: a nested def with cells of its own, by its body -/
theorem nok_ofC {sp : List (Option V) → Sp} {k : Nat} (S : NScopeC N ps fr F.scope) (hb : ∀ (doc pm ctv : Value) (us : List Value), us.length = ps.length → bindArgs (F.fd doc pm ctv) ⟨us, []⟩ = pure (ps.zip us)) (len : ∀ ws vs H Q E, sp ws vs H Q E → vs.length = ps.length)
    (hbody : ∀ (A : Around) (outer : List Env) (s : Shared) (H : Hp) (vs : List V) (ws : List (Option V)) (Q : VK) (E : XK), Room k (A.deeper (envC F f s.heap.objs.size)) → H f = some (FnO f F) → H F.c = some (CodeO F.c F.qual) → ws.length = fr.length → sp ws vs H Q E →
      ∃ t, PSs (ncxC CX P w K mg base N F f A outer s H E) F.body t ∧ t { nx := fun _ H' => Q .non H', rt := Q } (startF N vs ws) H) :
    NOk P w K mg base CX (k + 1) f F ps fr sp := by
  refine ⟨len, fun A outer s H us vs ws Q E hr e0 hf hc C r hsp => ?_⟩
  have hl := len _ _ _ _ _ hsp
  have lim : s.heap.NoLimit := e0.mod.nolimit.keeps fun b o e => (e0.bs b o e).1
  obtain ⟨od, sl, doc, pm, ctv, ho⟩ := fnO_at e0.hok hf
  refine codeAny_call_function hr.depth ho rfl S.co S.gen rfl (codeO_at e0.hok hc) ?_
  rw [hb doc pm ctv us (by rw [← r.length]; exact hl)]
  have hkind : ∀ y ∈ ps.zip us, F.scope.names.lookup y.1 = some .local ∨ (F.scope.names.lookup y.1 = some .cell ∧ ((cellsFrom (s.heap.objs.size + 1) F.scope.names []).lookup y.1).isSome = true) := fun ⟨n, v⟩ hy => by
    rcases S.par n (List.of_mem_zip hy).1 with q | q
    · exact .inl q
    · exact .inr ⟨q, PySem.W.cellsFrom_some _ _ _ (.inl q)⟩
  refine wpAny_pure (ka_newEnv S.kind hkind fun env he s1 x => ?_)
  subst he
  refine ⟨lim.keeps x.toInCall.keep, ?_⟩
  show codeAny _ _ (.func F.body (envC F f s.heap.objs.size)) _ _
  refine codeAny_func ?_
  obtain ⟨t, ht, hq⟩ := hbody A outer s H vs ws Q E (hr.deeper _) hf hc C.len hsp
  have I : Inv (ncxC CX P w K mg base N F f A outer s H E) [] (startF N vs ws) H s1 := inv_startC S hr.hd e0 hl r C x
  refine wpAny_mono (ht.run [] _ (startF N vs ws) H _ I hq) (fun fl s' hs => ?_) fun e s' hs => hs
  have fin : ∀ {σ' : L2.St} {H' : Hp} {v : V} {u : Value}, Inv (ncxC CX P w K mg base N F f A outer s H E) [] σ' H' s' → L2.RelV v u → Q v H' → CE outer P w H s Q u s' :=
    fun {σ' H' v u} J rv q => ⟨v, H', J.os, J.bare, J.base, J.hok, rv, q⟩
  cases fl with
  | ret u =>
    obtain ⟨v, σ', H', J, rv, q⟩ := hs
    exact fin J rv q
  | next =>
    obtain ⟨σ', H', J, q⟩ := hs
    exact fin (v := V.non) (u := Value.none) J rfl q
  | brk =>
    obtain ⟨_, _, _, q⟩ := hs
    exact False.elim q
  | cont =>
    obtain ⟨_, _, _, q⟩ := hs
    exact False.elim q
end
end KaG


set_option maxRecDepth 100000
set_option maxHeartbeats 4000000
namespace KaG
open PySem PySem.Spec PyProof.Rows L2 KaC LamX NdefX
/-- what stays where tables of code may grow -/
structure Ex (T : List NTab) (H H' : Hp) : Prop where
  ext : ExtN H H'
  tab : TabsN T H'
  non : ∀ b, H' b = none → H b = none
theorem same_non {H H' : Hp} (s : Same H H') (b : Addr) (e : H' b = none) : H b = none := by
  cases q : H b with
  | none => rfl
  | some u => rw [s _ _ q] at e; cases e
theorem Ex.same {T : List NTab} {H H' : Hp} (t : TabsN T H) (s : Same H H') : Ex T H H' := ⟨fun b o e _ => s b o e, t.ext s, same_non s⟩
theorem Ex.tr {T : List NTab} {H H1 H2 : Hp} (a : Ex T H H1) (b : Ex T H1 H2) : Ex T H H2 := ⟨ExtN.trans a.ext b.ext, b.tab, fun c e => a.non c (b.non c e)⟩
/-- a list that is new is written -/
theorem Ex.wr {T : List NTab} {H H' : Hp} {p : Addr} {xs ys : List V} (a : Ex T H H') (e : H' p = some (.lst xs)) (n : H p = none) : Ex T H (upd H' p (.lst ys)) := by
  refine ⟨fun b o q h => by rw [upd_ne (ne_of_none q n)]; exact a.ext b o q h, fun q hq => ?_, fun b h => ?_⟩
  · obtain ⟨ps, h1, h2, h3⟩ := a.tab q hq
    refine ⟨ps, by rw [upd_ne (fun z => by rw [z, e] at h1; cases h1)]; exact h1, h2, fun pos cv hc => ?_⟩
    obtain ⟨c, e1, e2⟩ := h3 pos cv hc
    exact ⟨c, e1, by rw [upd_ne (fun z => by rw [z, e] at e2; unfold CodeO at e2; cases e2)]; exact e2⟩
  · by_cases z : b = p
    · rw [z]; exact n
    · rw [upd_ne z] at h
      exact a.non b h
theorem Ex.refl {T : List NTab} {H : Hp} (t : TabsN T H) : Ex T H H := Ex.same t fun _ _ e => e
theorem Ex.trs {T : List NTab} {H H1 H2 : Hp} (a : Ex T H H1) (s : Same H1 H2) : Ex T H H2 := a.tr (Ex.same a.tab s)
theorem Ex.ts {T : List NTab} {H H' : Hp} (a : Ex T H H') : TSame H H' := fun b xs e => a.ext b _ e fun _ z => nomatch z
theorem Ex.lst {T : List NTab} {H H' : Hp} (a : Ex T H H') {b : Addr} {xs : List V} (e : H b = some (.lst xs)) : H' b = some (.lst xs) := a.ext b _ e fun _ z => nomatch z
theorem Ex.sq2 {T : List NTab} {H H' : Hp} (a : Ex T H H') {b : Addr} {xs : List V} (e : Sq2 H b xs) : Sq2 H' b xs := e.imp a.lst (a.ts _ _)
section
variable {P : Program} {w : World} {K : PySem.W.Frag} {mg : Str → Option Value} {base : Heap}
theorem fun_okC {x qual : Str} {st : Stmt} {f c : Addr} {fd : FuncData} {N ps : List Str} {k : Nat} {sp : Sp} (F : Fun K x qual st f fd) (S : FnScope N ps (defScope st)) (hc : fd.code = .ref c) (len : ∀ vs H Q E, sp vs H Q E → vs.length = ps.length)
    (hbody : ∀ (A : Around) (outer : List Env) (s : Shared) (H : Hp) (vs : List V) (Q : VK) (E : XK), Room k (A.deeper (envOfC qual (defScope st) s.heap.objs.size f (.ref c))) → sp vs H Q E →
      ∃ t, PSs (cxOf CX0 P w K mg base N qual (defScope st) f (.ref c) A outer s H E).nox (defBody st) t ∧ t { nx := fun _ H' => Q .non H', rt := Q } (start N vs) H) : FnOk P w K mg base CX0 (k + 1) f fd ps sp := by
  obtain ⟨oc, od, kV, doc, pm, an, cdv, ct, osl, rfl, lk, hcd⟩ := F.ex
  have hc : cdv = .ref c := hc
  subst hc
  refine fn_of lk hcd S len fun A outer s H vs Q E hr hsp => ?_
  obtain ⟨t, h, q⟩ := hbody A outer s H vs Q E hr hsp
  exact ⟨t, h.nox, q⟩
/-! ### bearing_kinds -/
abbrev sBear : Stmt := top 10
abbrev stJB : Stmt := (defBody sBear).getD 0 (.Pass ⟨0, 0, 0, 0⟩)
abbrev qJB : Str := Str.ofString "bearing_kinds.<locals>.joins"
abbrev nmJB : List Str := ["name", "found", "rulebook", "ground"]
theorem scJB : NScopeC nmJB ["name", "found"] ["rulebook"] (C8.fnScope stJB) := nscopeC_by (by decide +kernel)
def spJB : List (Option V) → Sp := fun ws vs H Q _ => ∃ (b fa : Addr) (rows : List Str) (ks : List Kd) (n : Str) (B : List Str), ws = [some (.ref b)] ∧ vs = [.str n, .ref fa] ∧ BookAt H b rows ks ∧ BookOk rows ks ∧ n ∈ ks.map Kd.name ∧ H fa = some (.lst (B.map V.str)) ∧ ∀ H', Same H H' → Q (.bl (jB ks n B)) H'
theorem ok_joinsB {f fK fL : Addr} {fdK fdL : FuncData} {cl : List (Str × Addr)} {c' : Addr} (hany : mg "any" = none) (C : Ct P w K mg base "kind_of" 1 ["rulebook", "name"] spKindN fK fdK) (CL : Ct P w K mg base "_is_live" 2 ["rulebook", "ground", "bearing"] spIsLive fL fdL) :
    NOk P w K mg base CX0 3 f (NF.of stJB "joins" qJB cl c') ["name", "found"] ["rulebook"] spJB := by
  refine nok_ofC scJB (fun doc pm ctv us hl => match us, hl with | [_, _], _ => rfl) (fun ws vs H Q E h => ?_) (fun A outer s H vs ws Q E hr hf hc hw h => ?_)
  · obtain ⟨b, fa, rows, ks, n, B, _, rfl, _⟩ := h
    rfl
  · obtain ⟨b, fa, rows, ks, n, B, rfl, rfl, hA, hO, hn, hB, k⟩ := h
    refine ⟨_, PSs.nox (pss_one (ps_ret (pe_callB (r := rAny K) (cr_any rfl) (by rfl) hany (by decide +kernel) (pa_cons (pe_lc (own := [("ground", 3)]) (g := gName 3) (by rfl) scJB.nd (pi_tup (pe_ix ix_tup (pe_call C.G (hr.mono (by decide)) (by rfl) C.m C.kp C.b .nil pass0 (pa_cons (pv 2) (pa_cons (pv 0) pa_nil))) pe_int (fun _ _ => rfl)))
        (blkOk_by (own := [("ground", 3)]) (N := nmJB) (sc := C8.fnScope stJB) (by decide +kernel)) (fun _ _ _ _ _ => pg_name (i := 3) scJB.nd rfl (Or.inl rfl)) (fun _ _ _ _ _ => pts_nil)
        (fun _ _ _ _ _ => pe_call CL.G hr (by rfl) CL.m CL.kp CL.b .nil pass0 (pa_cons (pv 2) (pa_cons (pv 3) (pa_cons (pv 1) pa_nil))))) pa_nil)))), ?_⟩
    have nd := hO.nm.nd
    refine ⟨_, rfl, _, rfl, b, rows, ks, n, rfl, hA, nd, hn, fun ka kd mk kn hk => ?_⟩
    obtain ⟨gt, gas, f1, f2, f3⟩ := hk
    have lg := paired_len f3
    have g4 := (hO.num kd mk).2.2.2.2
    refine ⟨ka, _, 3, .ref gt, rfl, rfl, SqT.of f1, rfl, gt, rfl, ⟨_, SqT.of f2⟩, fun D hD => lc_tup (K := K) (a := gt) (xs := gas.map V.ref) (fun i J => Same H J ∧ J D = some (.lst (((kd.gs.take i).map (grLive ks B)).map V.bl))) ?_ ?_ ?_ ?_⟩
    · exact ⟨same_upd hD, upd_same⟩
    · rintro i J _ ⟨S2, _⟩
      exact SqT.of (S2 _ _ f2)
    · rintro i x J hx ⟨S2, jD⟩
      rw [List.getElem?_map] at hx
      obtain ⟨ga, hga, rfl⟩ := Option.map_eq_some_iff.mp hx
      obtain ⟨g, hg, eg⟩ := paired_at f3 hga
      have mg' := List.mem_of_getElem? hg
      refine ⟨rfl, ?_⟩
      unfold tYes
      dsimp only
      refine iteT ⟨_, rfl, _, rfl, _, rfl, b, ga, fa, rows, ks, g, B, rfl, hA.ts (TSame.of S2), nd, Grd.ts eg (TSame.of S2), hO.gr mk mg', .inl (S2 _ _ hB), fun J2 S3 => ⟨_, S3 _ _ jD, small1000 ?_, fun b u e => ?_, ?_⟩⟩
      · rw [List.length_map, List.length_map, List.length_take]
        omega
      · rw [upd_ne (ne_of_none e hD)]
        exact S3 _ _ (S2 _ _ e)
      · rw [upd_same, List.take_add_one, hg, Option.toList_some, List.map_append, List.map_append]
        rfl
    · rintro J ⟨S2, jD⟩
      rw [List.length_map, lg, List.take_length] at jD
      refine ⟨D, kd.gs.map (grLive ks B), rfl, SqL.of jD, ?_⟩
      have e : (kd.gs.map (grLive ks B)).any id = jB ks n B := by
        unfold jB
        rw [← kn, gsOf_eq nd mk, List.any_map]
        rfl
      rw [e]
      exact k J S2
/-- the names of a rulebook's kinds, those that bear -/
abbrev nmsOf (ks : List Kd) : List Str := ks.map Kd.name
noncomputable def bearOf (ks : List Kd) : List Str := lfp (nmsOf ks) (jB ks)
theorem ndJB : ndefB (defScope sBear) (C8.fnScope stJB) ["rulebook"] = true := by decide +kernel
theorem scBear : FnScope ["rulebook", "joins"] ["rulebook"] (defScope sBear) := ⟨rfl, rfl, rfl, by decide +kernel, rfl, by decide +kernel, by decide +kernel⟩
def spBear (T : List NTab) : Sp := fun vs H Q _ => ∃ (b : Addr) (rows : List Str) (ks : List Kd), vs = [.ref b] ∧ BookAt H b rows ks ∧ BookOk rows ks ∧ TabsN T H ∧ ∀ (p : Addr) (H' : Hp), Ex T H H' → H' p = some (.tup ((bearOf ks).map V.str)) → IsL (nmsOf ks) (jB ks) (bearOf ks) → Q (.ref p) H'
/-- what a def with a nested one asks of the tables -/
structure TbOk (base : Heap) (mg : Str → Option Value) (T : List NTab) (c Pt : Addr) (q : Str) : Prop where
  TB : TabB base mg c Pt
  m : (Pt, fun _ _ => q) ∈ T
  u : ∀ p ∈ T, p.1 = Pt → p.2 = fun _ _ => q
theorem ok_bear {T : List NTab} {f fN fG fK fL c Pt : Addr} {fd fdN fdG fdK fdL : FuncData} (F : Fun K "bearing_kinds" "bearing_kinds" sBear f fd) (hcode : fd.code = .ref c) (TT : TbOk base mg T c Pt qJB) (TC : TxtC mg) (hany : mg "any" = none)
    (C : Ct P w K mg base "kind_of" 1 ["rulebook", "name"] spKindN fK fdK) (CL : Ct P w K mg base "_is_live" 2 ["rulebook", "ground", "bearing"] spIsLive fL fdL) (CN : Ct P w K mg base "kind_names" 1 ["rulebook"] spKindNames fN fdN)
    (CG : Ct P w K mg base "_grown" 4 ["names", "joins"] (spGrown P w K mg base 3) fG fdG) : FnOk P w K mg base CX0 5 f fd ["rulebook"] (spBear T) := by
  refine fun_okC F scBear hcode (fun vs H Q E h => ?_) (fun A outer s H vs Q E hr h => ?_)
  · obtain ⟨b, rows, ks, rfl, _⟩ := h
    rfl
  · obtain ⟨b, rows, ks, rfl, hA, hO, hT, k⟩ := h
    refine ⟨_, (pss_cons (ps_ndefMS (i := 1) (T := T) (st := stJB) (name := "joins") rfl TT.TB rfl TT.m rfl TT.u (ndef_free ndJB) rfl rfl rfl scBear.nd rfl (Or.inl rfl) (Or.inr rfl))
      (pss_one (ps_ret (pe_callTy call_tuple_of (by rfl) TC.tup (by decide +kernel) (pa_cons (pe_callZ (mk := fun c' => NF.of stJB "joins" qJB _ c') (fr := ["rulebook"]) (js := [0]) CG.G (fun _ => rfl) (by decide) (fun _ _ _ => rfl)
        (fun ok => Caps.made ok (ndef_free ndJB) (ndef_fr ndJB) rfl) hr (by rfl) CG.m CG.kp CG.b
        (pa_cons (pe_call CN.G (hr.mono (by decide)) (by rfl) CN.m CN.kp CN.b .nil pass0 (pa_cons (pv 0) pa_nil)) (pa_cons (pv 1) pa_nil))) pa_nil))))), ?_⟩
    refine ⟨hT, fun fj c' H1 x1 n1 T1 nf e1 ec => ?_⟩
    have X1 : Ex T H H1 := ⟨x1, T1, n1⟩
    have hA1 := hA.ts X1.ts
    have hk5 := hO.k5
    refine ⟨_, rfl, b, rows, ks, rfl, hA1, by omega, fun p H2 S2 np e2 => ?_⟩
    have X2 := X1.trs S2
    refine ⟨_, rfl, fj, c', S2 _ _ e1, S2 _ _ ec, fun Hf CH ke nin nout => ?_⟩
    have hA2 := hA1.ts (TSame.of S2)
    refine ⟨p, fj, _, _, spJB, _, nmsOf ks, jB ks, rfl, ke _ _ e2, ke _ _ (S2 _ _ e1), ke _ _ (S2 _ _ ec), CH, ok_joinsB hany C CL, by rw [List.length_map]; exact hk5, jB_mono ks, fun n fa B G1 Q1 mn S1 efa kk => ?_, fun q B H3 S3 eB hL => ?_⟩
    · have CG1 := CH.stay fun b o u e => S1 _ _ e
      refine ⟨b, fa, rows, ks, n, B, rfl, rfl, hA2.ts fun d xs e => ?_, hO, mn, ?_, kk⟩
      · have e3 := S1 _ _ (ke _ _ e)
        exact (thaw_out (CG1.all.out e3 fun _ _ y => nomatch y)).trans e3
      · exact (thaw_out (CG1.all.out efa fun _ _ y => nomatch y)).trans efa
    · have S4 : Same H2 (thaw _ H3) := fun d o e => by
        rw [thaw_out fun z => by rw [nin d z] at e; cases e]
        exact S3 _ _ (ke _ _ e)
      have X4 := X2.trs S4
      have CH3 := CH.stay fun b o u e => S3 _ _ e
      have eB2 : thaw _ H3 q = some (.lst (B.map V.str)) := (thaw_out (CH3.all.out eB fun _ _ y => nomatch y)).trans eB
      refine ⟨q, _, rfl, .inl ⟨SqL.of eB2, fun l nl => ?_⟩⟩
      have eq : B = bearOf ks := hL.eq
      rw [eq] at hL ⊢
      exact k l _ (X4.trs (same_upd nl)) upd_same hL
end
end KaG


set_option maxRecDepth 100000
set_option maxHeartbeats 4000000
namespace KaG
open PySem PySem.Spec PyProof.Rows L2 KaC LamX NdefX
section
variable {P : Program} {w : World} {K : PySem.W.Frag} {mg : Str → Option Value} {base : Heap}
abbrev sLiveIx : Stmt := top 11
abbrev nmLI : List Str := ["rulebook", "bearing", "kind", "at", "ground"]
theorem scLI : FnScope nmLI ["rulebook"] (defScope sLiveIx) := ⟨rfl, rfl, rfl, by decide +kernel, rfl, by decide +kernel, by decide +kernel⟩
abbrev scDLI : Scope := { kind := .function, names := [(".0", .local), ("kind", .local), ("enumerate", .globalImplicit), ("bearing", .cell), ("rulebook", .cell)], isGenerator := false, isCoroutine := false, more := [] }
/-- the first n places of a list at which a test holds -/
def atsTo {α : Type} (t : α → Bool) (xs : List α) (n : Nat) : List Nat := (List.range n).filter fun i => match xs[i]? with
  | some x => t x
  | none => false
theorem atsTo_all {α : Type} {t : α → Bool} {xs : List α} : atsTo t xs xs.length = ats t xs := rfl
theorem atsTo_succ {α : Type} {t : α → Bool} {xs : List α} {n : Nat} {x : α} (h : xs[n]? = some x) : atsTo t xs (n + 1) = atsTo t xs n ++ if t x = true then [n] else [] := by
  unfold atsTo
  rw [List.range_succ, List.filter_append]
  congr 1
  rw [List.filter_cons, h]
  dsimp only
  split <;> simp
theorem atsTo_le {α : Type} {t : α → Bool} {xs : List α} {n : Nat} : (atsTo t xs n).length ≤ n := by
  have := List.length_filter_le (fun i => match xs[i]? with
  | some x => t x
  | none => false) (List.range n)
  rw [List.length_range] at this
  exact this
theorem kvs_no {ks : List Kd} {kas : List Addr} {n : Str} (h : ∀ k ∈ ks, k.name ≠ n) : valV (kvsOf ks kas) (Sum.inr n) = none := by
  unfold valV
  have : (kvsOf ks kas).find? (fun p => decide (p.1 = Sum.inr n)) = none := by
    rw [List.find?_eq_none]
    intro p m z
    unfold kvsOf at m
    obtain ⟨q, mq, rfl⟩ := List.mem_map.mp m
    exact h q.1 (List.of_mem_zip mq).1 (Sum.inr.inj (of_decide_eq_true z))
  rw [this]
  rfl
theorem kvs_snoc {ks : List Kd} {kas : List Addr} {k : Kd} {a : Addr} (h : ks.length = kas.length) : kvsOf (ks ++ [k]) (kas ++ [a]) = kvsOf ks kas ++ [(Sum.inr k.name, V.ref a)] := by
  unfold kvsOf
  rw [List.zip_append h, List.map_append]
  rfl
theorem kvs_len {ks : List Kd} {kas : List Addr} (h : kas.length = ks.length) : (kvsOf ks kas).length = ks.length := by
  unfold kvsOf
  rw [List.length_map, List.length_zip, h, Nat.min_self]
def ixV (xs : List Nat) : List V := xs.map fun i : Nat => V.int (i : Int)
/-- the live indexes of all kinds, as lists in a dict -/
structure LiveD (H0 H : Hp) (p : Addr) (ks : List Kd) (ls : List Addr) : Prop where
  d : H p = some (.dK (kvsOf ks ls))
  l : Paired (fun (l : Addr) (k : Kd) => H0 l = none ∧ H l = some (.lst (ixV (liveIx ks (bearOf ks) k.name)))) ls ks
def spLiveIx (T : List NTab) : Sp := fun vs H Q _ => ∃ (b : Addr) (rows : List Str) (ks : List Kd), vs = [.ref b] ∧ BookAt H b rows ks ∧ BookOk rows ks ∧ TabsN T H ∧ ∀ (p : Addr) (ls : List Addr) (H' : Hp), Ex T H H' → H p = none → LiveD H H' p ks ls → IsL (nmsOf ks) (jB ks) (bearOf ks) → Q (.ref p) H'
theorem ok_liveIx {T : List NTab} {f fB fL : Addr} {fd fdB fdL : FuncData} (F : Fun K "live_indexes" "live_indexes" sLiveIx f fd) (hen : mg "enumerate" = none) (CB : Ct P w K mg base "bearing_kinds" 5 ["rulebook"] (spBear T) fB fdB)
    (CL : Ct P w K mg base "_is_live" 2 ["rulebook", "ground", "bearing"] spIsLive fL fdL) : FnOk P w K mg base CX0 6 f fd ["rulebook"] (spLiveIx T) := by
  refine F.ok scLI (fun vs H Q E h => ?_) (fun cdv A outer s H vs Q E hr h => ?_)
  · obtain ⟨b, rows, ks, rfl, _⟩ := h
    rfl
  · obtain ⟨b, rows, ks, rfl, hA, hO, hT, k⟩ := h
    have hr2 : Room 2 (A.deeper (envOfC "live_indexes" (defScope sLiveIx) s.heap.objs.size f cdv)) := hr.mono (by decide)
    refine ⟨_, (pss_cons (ps_set (i := 1) scLI.nd rfl (Or.inr rfl) (pe_call CB.G hr (by rfl) CB.m CB.kp CB.b .nil pass0 (pa_cons (pv 0) pa_nil)))
      (pss_one (ps_ret (pe_dc (own := [("kind", 2)]) (g := gName 2) (by rfl) scLI.nd (pi_tup (pe_ix ix_tup (pv 0) pe_int (fun _ _ => rfl)))
        (blkOk_by (own := [("kind", 2)]) (N := nmLI) (sc := defScope sLiveIx) (by decide +kernel)) (fun _ _ _ _ _ => pg_name (i := 2) scLI.nd rfl (Or.inl rfl)) (fun _ _ _ _ _ => pts_nil)
        (fun _ _ _ _ _ => pe_ix (r := rIxT K) ix_tup (pv 2) pe_int (fun _ _ => rfl))
        (fun _ _ _ _ _ => pe_lc (own := [("at", 3), ("ground", 4)]) (g := gTup K 2 (gCons (gName 3) (gCons (gName 4) gNil))) (wi := iEnumT K (tCons (tOp (rIxT K) (tVar 2) (tC (.int 3))) tNil))
          (tt := tB (tCall spIsLive [] E0 (tCons (tVar 0) (tCons (tVar 4) (tCons (tVar 1) tNil))))) (te := tVar 3) (by rfl) scLI.nd
          (pi_enumT (by rfl) hen (pa_cons (pe_ix (r := rIxT K) ix_tup (pv 2) pe_int (fun _ _ => rfl)) pa_nil))
          (blkOk_by (own := [("at", 3), ("ground", 4)]) (N := nmLI) (sc := scDLI) (by decide +kernel))
          (fun _ _ _ _ _ => pg_tup (t := gCons (gName 3) (gCons (gName 4) gNil)) rfl (pgs_cons (pg_name (i := 3) scLI.nd rfl (Or.inl rfl)) (pgs_cons (pg_name (i := 4) scLI.nd rfl (Or.inl rfl)) pgs_nil)))
          (fun _ _ _ _ _ => pts_one (pt_val (pe_call CL.G hr2 (by rfl) CL.m CL.kp CL.b .nil pass0 (pa_cons (pv 0) (pa_cons (pv 4) (pa_cons (pv 1) pa_nil))))))
          (fun _ _ _ _ _ => pv 3)))))), ?_⟩
    have nd := hO.nm.nd
    have hk5 := hO.k5
    refine ⟨_, rfl, b, rows, ks, rfl, hA, hO, hT, fun bp H1 X1 ebp hL => ?_⟩
    have hA1 := hA.ts X1.ts
    obtain ⟨r, kt, kas, e1, e2, e3, pk⟩ := id hA1
    have hlen := paired_len pk
    refine ⟨_, rfl, b, _, 1, .ref kt, rfl, rfl, SqT.of e1, rfl, kt, rfl, ⟨_, SqT.of e3⟩, fun D hD => dc_tup (K := K) (a := kt) (xs := kas.map V.ref) (fun i G => Same H1 G ∧ ∃ ls : List Addr, G D = some (.dK (kvsOf (ks.take i) ls)) ∧ Paired (fun (l : Addr) (k : Kd) => H1 l = none ∧ l ≠ D ∧ G l = some (.lst (ixV (liveIx ks (bearOf ks) k.name)))) ls (ks.take i)) ?_ ?_ ?_ ?_⟩
    · exact ⟨same_upd hD, [], upd_same, .nil⟩
    · rintro i G _ ⟨S, _⟩
      exact SqT.of (S _ _ e3)
    · rintro i x G hx ⟨S, ls, gD, pl⟩
      rw [List.getElem?_map] at hx
      obtain ⟨ka, ha, rfl⟩ := Option.map_eq_some_iff.mp hx
      obtain ⟨kd, hkd, gt, gas, f1, f2, f3⟩ := paired_at pk ha
      have mk : kd ∈ ks := List.mem_of_getElem? hkd
      have hi : i < ks.length := (List.getElem?_eq_some_iff.mp hkd).1
      have lg := paired_len f3
      have g4 := (hO.num kd mk).2.2.2.2
      have ll := paired_len pl
      rw [List.length_take] at ll
      have tk : ks.take (i + 1) = ks.take i ++ [kd] := by rw [List.take_add_one, hkd]; rfl
      refine ⟨rfl, ?_⟩
      unfold tYes
      dsimp only
      refine iteT ⟨_, rfl, ka, _, 0, .str kd.name, rfl, rfl, SqT.of (S _ _ f1), rfl, ?_⟩
      refine ⟨_, rfl, ka, _, 3, .ref gt, rfl, rfl, SqT.of (S _ _ f1), rfl, gt, gas.map V.ref, rfl, SqT.of (S _ _ f2), fun L nL => go_enumT (K := K) (a := gt) (xs := gas.map V.ref) (fun g J => Same G J ∧ J L = some (.lst (ixV (atsTo (grLive ks (bearOf ks)) kd.gs g)))) ?_ ?_ ?_ ?_⟩
      · exact ⟨same_upd nL, upd_same⟩
      · rintro g J _ ⟨S2, _⟩
        exact SqT.of (S2 _ _ (S _ _ f2))
      · rintro g x T2 J hx ⟨S2, jL⟩ nT
        rw [List.getElem?_map] at hx
        obtain ⟨ga, hga, rfl⟩ := Option.map_eq_some_iff.mp hx
        obtain ⟨gr, hgr, eg⟩ := paired_at f3 hga
        have hgl := (List.getElem?_eq_some_iff.mp hgr).1
        have mg' := List.mem_of_getElem? hgr
        have sT := same_upd (o := .tup [.int (g : Nat), .ref ga]) nT
        have S3 := KaG.Same.tr S2 sT
        have jL3 := sT _ _ jL
        refine ⟨T2, _, rfl, SqT.of upd_same, rfl, _, _, rfl, _, _, rfl, rfl, rfl, ?_⟩
        generalize upd J T2 (.tup [.int (g : Nat), .ref ga]) = J3 at S3 jL3 ⊢
        have S03 := KaG.Same.tr S S3
        refine ⟨_, rfl, _, rfl, _, rfl, b, ga, bp, rows, ks, gr, bearOf ks, rfl, hA1.ts (TSame.of S03), nd, Grd.ts eg (TSame.of S03), hO.gr mk mg', .inr (S03 _ _ ebp), fun J4 S4 => ⟨_, rfl, ?_⟩⟩
        have S34 := KaG.Same.tr S3 S4
        have jL4 := S4 _ _ jL3
        have le := atsTo_le (t := grLive ks (bearOf ks)) (xs := kd.gs) (n := g)
        refine ite2 (fun hc => ?_) fun hc => ?_
        · refine ⟨_, rfl, _, jL4, small1000 (by unfold ixV; rw [List.length_map]; omega), fun b u e => by rw [upd_ne (ne_of_none e nL)]; exact S34 b u e, ?_⟩
          rw [upd_same, atsTo_succ hgr, if_pos hc]
          unfold ixV
          rw [List.map_append]
          rfl
        · refine ⟨S34, ?_⟩
          rw [jL4, atsTo_succ hgr, if_neg hc, List.append_nil]
      · rintro J ⟨S2, jL⟩
        rw [List.length_map, lg, atsTo_all] at jL
        have nLD : L ≠ D := fun z => by rw [z, gD] at nL; cases nL
        have jD := S2 _ _ gD
        refine ⟨_, Sum.inr kd.name, rfl, jD, small1000 (by rw [kvs_len (by rw [List.length_take]; exact ll), List.length_take]; omega), fun b u e => by rw [upd_ne (ne_of_none e hD)]; exact S2 _ _ (S b u e), ls ++ [L], ?_, ?_⟩
        · rw [upd_same, putK_new, tk, kvs_snoc (by rw [List.length_take]; exact ll.symm)]
          refine kvs_no fun k hk e => ?_
          obtain ⟨j, hj⟩ := List.mem_iff_getElem?.mp hk
          have hji : j < i := by
            have := (List.getElem?_eq_some_iff.mp hj).1
            rw [List.length_take] at this
            omega
          rw [List.getElem?_take_of_lt hji] at hj
          have h1 : (ks.map Kd.name)[j]? = some k.name := by rw [List.getElem?_map, hj]; rfl
          have h2 : (ks.map Kd.name)[i]? = some k.name := by rw [List.getElem?_map, hkd, e]; rfl
          have := (List.getElem?_inj (List.getElem?_eq_some_iff.mp h1).1 nd).mp (h1.trans h2.symm)
          omega
        · rw [tk]
          refine paired_snoc ⟨?_, nLD, ?_⟩ (Paired.mono' (fun l k h => ⟨h.1, h.2.1, by rw [upd_ne h.2.1]; exact S2 _ _ h.2.2⟩) pl)
          · exact same_non S L nL
          · rw [upd_ne nLD, jL]
            unfold liveIx
            rw [gsOf_eq nd mk]
    · rintro G ⟨S, ls, gD, pl⟩
      rw [List.length_map, hlen, List.take_length] at gD pl
      have X2 := X1.trs S
      exact k D ls G X2 (X1.non D hD) ⟨gD, Paired.mono' (fun l k h => ⟨X1.non l h.1, h.2.2⟩) pl⟩ hL
end
end KaG


set_option maxRecDepth 100000
set_option maxHeartbeats 4000000
namespace KaG
open PySem PySem.Spec PyProof.Rows L2 KaC LamX NdefX
theorem iteD {c : Bool} {A B : Prop} (hc : c = true) (h : A) : if c = true then A else B := by
  rw [hc]
  exact h
theorem iteDF {c : Bool} {A B : Prop} (hc : c = false) (h : B) : if c = true then A else B := by
  rw [hc]
  exact h
section
variable {P : Program} {w : World} {K : PySem.W.Frag} {mg : Str → Option Value} {base : Heap}
/-! ### _is_forced, _forced_places, _places_on -/
abbrev sIsForced : Stmt := top 12
theorem scIF : FnScope ["struck", "clean", "need"] ["struck", "clean", "need"] (defScope sIsForced) := ⟨rfl, rfl, rfl, by decide +kernel, rfl, by decide +kernel, by decide +kernel⟩
def spIsForced : Sp := fun vs H Q _ => ∃ (sa ca na : Addr) (S C rows names : List Str) (it : List V), vs = [.ref sa, .ref ca, .ref na] ∧ Sq2 H sa (S.map V.str) ∧ Sq2 H ca (C.map V.str) ∧ H na = some (.tup it) ∧ NeedV rows names it ∧ Q (.bl (ndForced S C it)) H
theorem ok_isForced {f : Addr} {fd : FuncData} (F : Fun K "_is_forced" "_is_forced" sIsForced f fd) : FnOk P w K mg base CX0 1 f fd ["struck", "clean", "need"] spIsForced := by
  refine F.ok scIF (fun vs H Q E h => ?_) (fun cdv A outer s H vs Q E hr h => ?_)
  · obtain ⟨sa, ca, na, S, C, rows, names, it, rfl, _⟩ := h
    rfl
  · obtain ⟨sa, ca, na, S, C, rows, names, it, rfl, hS, hC, eN, nv, q⟩ := h
    refine ⟨_, (pss_cons (ps_if (pt_cmpR (r := rEq) op_eq (pe_ix (r := rIxT K) ix_tup (pv 2) pe_int (fun _ _ => rfl)) pe_str (nomark _)) (pss_one (ps_ret (pe_cmpR (r := rIn K false) op_in_seq (pe_ix (r := rIxT K) ix_tup (pv 2) pe_int (fun _ _ => rfl)) (pv 0) rfl))) pss_nil)
      (pss_one (ps_ret (pe_cmpR (r := rIn K true) op_notIn_seq (pe_ix (r := rIxT K) ix_tup (pv 2) pe_int (fun _ _ => rfl)) (pv 1) rfl)))), ?_⟩
    cases nv with
    | row nm t m h =>
      refine ⟨_, rfl, na, _, 0, .str "row", rfl, rfl, SqT.of eN, rfl, rfl, _, rfl, ?_⟩
      refine iteD (by decide +kernel) ⟨_, rfl, na, _, 1, .str nm, rfl, rfl, SqT.of eN, rfl, _, rfl, sa, S.map V.str, rfl, hS.in_, rfl, flat_strs, ?_⟩
      rw [show (if false = true then !inV (V.str nm) (List.map V.str S) else inV (V.str nm) (List.map V.str S)) = decide (nm ∈ S) from inV_str]
      exact q
    | kind nm a t m h =>
      refine ⟨_, rfl, na, _, 0, .str "kind", rfl, rfl, SqT.of eN, rfl, rfl, _, rfl, ?_⟩
      refine iteDF (by decide +kernel) ⟨_, rfl, na, _, 1, .str nm, rfl, rfl, SqT.of eN, rfl, _, rfl, ca, C.map V.str, rfl, hC.in_, rfl, flat_strs, ?_⟩
      rw [show (if true = true then !inV (V.str nm) (List.map V.str C) else inV (V.str nm) (List.map V.str C)) = !decide (nm ∈ C) by rw [if_pos rfl, inV_str]]
      exact q
abbrev sForcedPl : Stmt := top 13
abbrev nmFP : List Str := ["struck", "clean", "ground", "place", "need"]
theorem scFP : FnScope nmFP ["struck", "clean", "ground"] (defScope sForcedPl) := ⟨rfl, rfl, rfl, by decide +kernel, rfl, by decide +kernel, by decide +kernel⟩
def spForcedPl : Sp := fun vs H Q _ => ∃ (sa ca ga : Addr) (S C rows names : List Str) (g : Gr), vs = [.ref sa, .ref ca, .ref ga] ∧ Sq2 H sa (S.map V.str) ∧ Sq2 H ca (C.map V.str) ∧ Grd H ga g ∧ GrOk rows names g ∧ ∀ (p : Addr) (H' : Hp), Same H H' → H p = none → H' p = some (.lst (ixV (forcedPl S C g))) → Q (.ref p) H'
theorem ok_forcedPl {f fI : Addr} {fd fdI : FuncData} (F : Fun K "_forced_places" "_forced_places" sForcedPl f fd) (hen : mg "enumerate" = none) (CI : Ct P w K mg base "_is_forced" 1 ["struck", "clean", "need"] spIsForced fI fdI) : FnOk P w K mg base CX0 2 f fd ["struck", "clean", "ground"] spForcedPl := by
  refine F.ok scFP (fun vs H Q E h => ?_) (fun cdv A outer s H vs Q E hr h => ?_)
  · obtain ⟨sa, ca, ga, S, C, rows, names, g, rfl, _⟩ := h
    rfl
  · obtain ⟨sa, ca, ga, S, C, rows, names, g, rfl, hS, hC, ⟨ns, eg, pg⟩, hg, k⟩ := h
    refine ⟨_, (pss_one (ps_ret (pe_lc (own := [("place", 3), ("need", 4)]) (g := gTup K 2 (gCons (gName 3) (gCons (gName 4) gNil))) (wi := iEnumT K (tCons (tVar 2) tNil))
          (tt := tB (tCall spIsForced [] E0 (tCons (tVar 0) (tCons (tVar 1) (tCons (tVar 4) tNil))))) (te := tVar 3) (by rfl) scFP.nd
          (pi_enumT (by rfl) hen (pa_cons (pv 2) pa_nil))
          (blkOk_by (own := [("place", 3), ("need", 4)]) (N := nmFP) (sc := defScope sForcedPl) (by decide +kernel))
          (fun _ _ _ _ _ => pg_tup (t := gCons (gName 3) (gCons (gName 4) gNil)) rfl (pgs_cons (pg_name (i := 3) scFP.nd rfl (Or.inl rfl)) (pgs_cons (pg_name (i := 4) scFP.nd rfl (Or.inl rfl)) pgs_nil)))
          (fun _ _ _ _ _ => pts_one (pt_val (pe_call CI.G hr (by rfl) CI.m CI.kp CI.b .nil pass0 (pa_cons (pv 0) (pa_cons (pv 1) (pa_cons (pv 4) pa_nil))))))
          (fun _ _ _ _ _ => pv 3)))), ?_⟩
    have lg := paired_len pg
    have l3 := hg.len
    refine ⟨_, rfl, ga, ns.map V.ref, rfl, SqT.of eg, fun L nL => go_enumT (K := K) (a := ga) (xs := ns.map V.ref) (fun i J => Same H J ∧ J L = some (.lst (ixV (atsTo (ndForced S C) g i)))) ?_ ?_ ?_ ?_⟩
    · exact ⟨same_upd nL, upd_same⟩
    · rintro i J _ ⟨S2, _⟩
      exact SqT.of (S2 _ _ eg)
    · rintro i x T2 J hx ⟨S2, jL⟩ nT
      rw [List.getElem?_map] at hx
      obtain ⟨na, hna, rfl⟩ := Option.map_eq_some_iff.mp hx
      obtain ⟨it, hit, eq⟩ := paired_at pg hna
      have nv := hg.nv it (List.mem_of_getElem? hit)
      have hil := (List.getElem?_eq_some_iff.mp hit).1
      have sT := same_upd (o := .tup [.int (i : Nat), .ref na]) nT
      have S3 := KaG.Same.tr S2 sT
      have jL3 := sT _ _ jL
      refine ⟨T2, _, rfl, SqT.of upd_same, rfl, _, _, rfl, _, _, rfl, rfl, rfl, ?_⟩
      generalize upd J T2 (.tup [.int (i : Nat), .ref na]) = J3 at S3 jL3 ⊢
      have le := atsTo_le (t := ndForced S C) (xs := g) (n := i)
      refine ⟨_, rfl, _, rfl, _, rfl, sa, ca, na, S, C, rows, names, it, rfl, hS.same S3, hC.same S3, S3 _ _ eq, nv, _, rfl, ?_⟩
      refine ite2 (fun hc => ?_) fun hc => ?_
      · refine ⟨_, rfl, _, jL3, small1000 (by unfold ixV; rw [List.length_map]; omega), fun b u e => by rw [upd_ne (ne_of_none e nL)]; exact S3 b u e, ?_⟩
        rw [upd_same, atsTo_succ hit, if_pos hc]
        unfold ixV
        rw [List.map_append]
        rfl
      · refine ⟨S3, ?_⟩
        rw [jL3, atsTo_succ hit, if_neg hc, List.append_nil]
    · rintro J ⟨S2, jL⟩
      rw [List.length_map, lg, atsTo_all] at jL
      exact k L J S2 nL jL
abbrev sPlacesOn : Stmt := top 15
abbrev nmPn : List Str := ["ground", "kinds", "place", "need"]
theorem scPn : FnScope nmPn ["ground", "kinds"] (defScope sPlacesOn) := ⟨rfl, rfl, rfl, by decide +kernel, rfl, by decide +kernel, by decide +kernel⟩
def spPlacesOn : Sp := fun vs H Q _ => ∃ (ga sa : Addr) (A rows names : List Str) (g : Gr), vs = [.ref ga, .ref sa] ∧ Grd H ga g ∧ GrOk rows names g ∧ Sq2 H sa (A.map V.str) ∧ ∀ (p : Addr) (H' : Hp), Same H H' → H p = none → H' p = some (.lst (ixV (placesOn g A))) → Q (.ref p) H'
theorem ok_placesOn {f : Addr} {fd : FuncData} (F : Fun K "_places_on" "_places_on" sPlacesOn f fd) (hen : mg "enumerate" = none) : FnOk P w K mg base CX0 1 f fd ["ground", "kinds"] spPlacesOn := by
  refine F.ok scPn (fun vs H Q E h => ?_) (fun cdv A outer s H vs Q E hr h => ?_)
  · obtain ⟨ga, sa, A, rows, names, g, rfl, _⟩ := h
    rfl
  · obtain ⟨ga, sa, A, rows, names, g, rfl, ⟨ns, eg, pg⟩, hg, hA, k⟩ := h
    refine ⟨_, (pss_one (ps_ret (pe_lc (own := [("place", 2), ("need", 3)]) (g := gTup K 2 (gCons (gName 2) (gCons (gName 3) gNil))) (wi := iEnumT K (tCons (tVar 0) tNil))
          (te := tVar 2) (by rfl) scPn.nd
          (pi_enumT (by rfl) hen (pa_cons (pv 0) pa_nil))
          (blkOk_by (own := [("place", 2), ("need", 3)]) (N := nmPn) (sc := defScope sPlacesOn) (by decide +kernel))
          (fun _ _ _ _ _ => pg_tup (t := gCons (gName 2) (gCons (gName 3) gNil)) rfl (pgs_cons (pg_name (i := 2) scPn.nd rfl (Or.inl rfl)) (pgs_cons (pg_name (i := 3) scPn.nd rfl (Or.inl rfl)) pgs_nil)))
          (fun _ _ _ _ _ => pts_one (PW.pt (pw_and (pt_cmpR (r := rEq) op_eq (pe_ix (r := rIxT K) ix_tup (pv 3) pe_int (fun _ _ => rfl)) pe_str (nomark _)) (pw_and1 (pt_cmpR (r := rIn K false) op_in_seq (pe_ix (r := rIxT K) ix_tup (pv 3) pe_int (fun _ _ => rfl)) (pv 1) rfl)))))
          (fun _ _ _ _ _ => pv 2)))), ?_⟩
    have lg := paired_len pg
    have l3 := hg.len
    refine ⟨_, rfl, ga, ns.map V.ref, rfl, SqT.of eg, fun L nL => go_enumT (K := K) (a := ga) (xs := ns.map V.ref) (fun i J => Same H J ∧ J L = some (.lst (ixV (atsTo (ndOn A) g i)))) ?_ ?_ ?_ ?_⟩
    · exact ⟨same_upd nL, upd_same⟩
    · rintro i J _ ⟨S2, _⟩
      exact SqT.of (S2 _ _ eg)
    · rintro i x T2 J hx ⟨S2, jL⟩ nT
      rw [List.getElem?_map] at hx
      obtain ⟨na, hna, rfl⟩ := Option.map_eq_some_iff.mp hx
      obtain ⟨it, hit, eq⟩ := paired_at pg hna
      have nv := hg.nv it (List.mem_of_getElem? hit)
      have hil := (List.getElem?_eq_some_iff.mp hit).1
      have sT := same_upd (o := .tup [.int (i : Nat), .ref na]) nT
      have S3 := KaG.Same.tr S2 sT
      have jL3 := sT _ _ jL
      refine ⟨T2, _, rfl, SqT.of upd_same, rfl, _, _, rfl, _, _, rfl, rfl, rfl, ?_⟩
      generalize upd J T2 (.tup [.int (i : Nat), .ref na]) = J3 at S3 jL3 ⊢
      have le := atsTo_le (t := ndOn A) (xs := g) (n := i)
      have eq3 := S3 _ _ eq
      have fin : ∀ (c : Bool), ndOn A it = c → (if c = true then tVar 2 [some (.ref ga), some (.ref sa), some (.int (i : Nat)), some (.ref na)] J3 fun y H4 => ∃ acc, H4 L = some (.lst acc) ∧ acc.length < sizeLine ∧ (Same H (upd H4 L (.lst (acc ++ [y]))) ∧ upd H4 L (.lst (acc ++ [y])) L = some (.lst (ixV (atsTo (ndOn A) g (i + 1))))) else (Same H J3 ∧ J3 L = some (.lst (ixV (atsTo (ndOn A) g (i + 1)))))) := fun c hc => by
        refine ite2 (fun h2 => ?_) fun h2 => ?_
        · refine ⟨_, rfl, _, jL3, small1000 (by unfold ixV; rw [List.length_map]; omega), fun b u e => by rw [upd_ne (ne_of_none e nL)]; exact S3 b u e, ?_⟩
          rw [upd_same, atsTo_succ hit, if_pos (hc.trans h2)]
          unfold ixV
          rw [List.map_append]
          rfl
        · refine ⟨S3, ?_⟩
          rw [jL3, atsTo_succ hit, if_neg (by rw [hc]; exact h2), List.append_nil]
      cases nv with
      | row nm t m h =>
        refine ⟨_, rfl, na, _, 0, .str "row", rfl, rfl, SqT.of eq3, rfl, rfl, _, rfl, ?_⟩
        exact iteDF (by decide +kernel) (fin false rfl)
      | kind nm a t m h =>
        refine ⟨_, rfl, na, _, 0, .str "kind", rfl, rfl, SqT.of eq3, rfl, rfl, _, rfl, ?_⟩
        refine iteD (by decide +kernel) ⟨_, rfl, na, _, 1, .str nm, rfl, rfl, SqT.of eq3, rfl, _, rfl, sa, A.map V.str, rfl, (hA.same S3).in_, rfl, flat_strs, _, rfl, ?_⟩
        rw [show (if false = true then !inV (V.str nm) (List.map V.str A) else inV (V.str nm) (List.map V.str A)) = decide (nm ∈ A) from inV_str]
        exact fin _ rfl
    · rintro J ⟨S2, jL⟩
      rw [List.length_map, lg, atsTo_all] at jL
      exact k L J S2 nL jL
end
end KaG


set_option maxRecDepth 100000
set_option maxHeartbeats 4000000
namespace KaG
open PySem PySem.Spec PyProof.Rows L2 KaC LamX NdefX
theorem ixV_at {xs : List Nat} {j : Nat} {x : V} (h : (ixV xs)[j]? = some x) : ∃ i, xs[j]? = some i ∧ x = .int (i : Int) := by
  unfold ixV at h
  rw [List.getElem?_map] at h
  obtain ⟨i, hi, rfl⟩ := Option.map_eq_some_iff.mp h
  exact ⟨i, hi, rfl⟩
/-- what a dict of all kinds has at a name -/
theorem kvs_get {R : Addr → Kd → Prop} : ∀ {ks : List Kd} {ls : List Addr} {k : Kd}, (ks.map Kd.name).Nodup → Paired R ls ks → k ∈ ks → ∃ l, valV (kvsOf ks ls) (Sum.inr k.name) = some (.ref l) ∧ R l k
  | [], _, _, _, _, m => nomatch m
  | q :: r, _, k, nd, .cons (a := l) (l₁ := ls) h t, m => by
    have e : kvsOf (q :: r) (l :: ls) = (Sum.inr q.name, V.ref l) :: kvsOf r ls := rfl
    rw [e]
    rw [List.map_cons, List.nodup_cons] at nd
    rcases List.mem_cons.mp m with z | z
    · rw [z]
      exact ⟨l, valV_pos rfl, h⟩
    · rw [valV_neg (fun y => nd.1 (by rw [show q.name = k.name from Sum.inr.inj y]; exact List.mem_map_of_mem z))]
      exact kvs_get nd.2 t z
/-- the live indexes of all kinds in the dict at d -/
structure LiveH (H : Hp) (d : Addr) (ks : List Kd) (ls : List Addr) : Prop where
  d : H d = some (.dK (kvsOf ks ls))
  l : Paired (fun (l : Addr) (k : Kd) => H l = some (.lst (ixV (liveIx ks (bearOf ks) k.name)))) ls ks
theorem LiveD.h {H0 H : Hp} {d : Addr} {ks : List Kd} {ls : List Addr} (h : LiveD H0 H d ks ls) : LiveH H d ks ls := ⟨h.d, Paired.mono' (fun _ _ z => z.2) h.l⟩
theorem LiveH.keep {H H' : Hp} {d : Addr} {ks : List Kd} {ls : List Addr} (h : LiveH H d ks ls) (kd : ∀ b kvs, H b = some (.dK kvs) → H' b = some (.dK kvs)) (kl : ∀ b xs, H b = some (.lst xs) → H' b = some (.lst xs)) : LiveH H' d ks ls := ⟨kd _ _ h.d, Paired.mono' (fun _ _ z => kl _ _ z) h.l⟩
theorem LiveH.same {H H' : Hp} {d : Addr} {ks : List Kd} {ls : List Addr} (h : LiveH H d ks ls) (s : Same H H') : LiveH H' d ks ls := h.keep (fun _ _ e => s _ _ e) fun _ _ e => s _ _ e
theorem liveIx_le {ks : List Kd} {B : List Str} {n : Str} : (liveIx ks B n).length ≤ (gsOf ks n).length := atsTo_le (t := grLive ks B) (xs := gsOf ks n) (n := (gsOf ks n).length)
section
variable {P : Program} {w : World} {K : PySem.W.Frag} {mg : Str → Option Value} {base : Heap}
/-! ### live_grounds -/
def spLiveG (T : List NTab) : Sp := fun vs H Q _ => ∃ (b : Addr) (rows : List Str) (ks : List Kd) (k : Kd), vs = [.ref b, .str k.name] ∧ BookAt H b rows ks ∧ BookOk rows ks ∧ TabsN T H ∧ k ∈ ks ∧ ∀ (p : Addr) (H' : Hp), Ex T H H' → H p = none → H' p = some (.lst (ixV (liveIx ks (bearOf ks) k.name))) → IsL (nmsOf ks) (jB ks) (bearOf ks) → Q (.ref p) H'
/-! ### clean_kinds -/
abbrev sClean : Stmt := top 14
abbrev stJC : Stmt := (defBody sClean).getD 1 (.Pass ⟨0, 0, 0, 0⟩)
abbrev qJC : Str := Str.ofString "clean_kinds.<locals>.joins"
abbrev frJC : List Str := ["rulebook", "struck", "live"]
abbrev nmJC : List Str := ["name", "found", "rulebook", "struck", "live", "grounds", "index"]
theorem scJC : NScopeC nmJC ["name", "found"] frJC (C8.fnScope stJC) := nscopeC_by (by decide +kernel)
def spJC : List (Option V) → Sp := fun ws vs H Q _ => ∃ (b sa d fa : Addr) (rows : List Str) (ks : List Kd) (ls : List Addr) (n : Str) (S C : List Str), ws = [some (.ref b), some (.ref sa), some (.ref d)] ∧ vs = [.str n, .ref fa] ∧ BookAt H b rows ks ∧ BookOk rows ks ∧ Sq2 H sa (S.map V.str) ∧ LiveH H d ks ls ∧ n ∈ ks.map Kd.name ∧ H fa = some (.lst (C.map V.str)) ∧ ∀ H', Same H H' → Q (.bl (jC ks (bearOf ks) S n C)) H'
theorem ok_joinsC {f fK fF : Addr} {fdK fdF : FuncData} {cl : List (Str × Addr)} {c' : Addr} (hany : mg "any" = none) (C : Ct P w K mg base "kind_of" 1 ["rulebook", "name"] spKindN fK fdK) (CF : Ct P w K mg base "_forced_places" 2 ["struck", "clean", "ground"] spForcedPl fF fdF) :
    NOk P w K mg base CX0 3 f (NF.of stJC "joins" qJC cl c') ["name", "found"] frJC spJC := by
  refine nok_ofC scJC (fun doc pm ctv us hl => match us, hl with | [_, _], _ => rfl) (fun ws vs H Q E h => ?_) (fun A outer s H vs ws Q E hr hf hc hw h => ?_)
  · obtain ⟨b, sa, d, fa, rows, ks, ls, n, S, C, _, rfl, _⟩ := h
    rfl
  · obtain ⟨b, sa, d, fa, rows, ks, ls, n, S, C', rfl, rfl, hA, hO, hS, hL, hn, hC, k⟩ := h
    have u1 := hu_of hr
    refine ⟨_, PSs.nox (pss_cons (ps_set (i := 5) scJC.nd rfl (Or.inr rfl) (pe_ix (r := rIxT K) ix_tup (pe_call C.G (hr.mono (by decide)) (by rfl) C.m C.kp C.b .nil pass0 (pa_cons (pv 2) (pa_cons (pv 0) pa_nil))) pe_int (fun _ _ => rfl)))
      (pss_one (ps_ret (pe_callB (r := rAny K) (cr_any rfl) (by rfl) hany (by decide +kernel) (pa_cons (pe_lc (own := [("index", 6)]) (g := gName 6) (te := tNotT K (tCall spForcedPl [] E0 (tCons (tVar 3) (tCons (tVar 1) (tCons (tOp (rIxT K) (tVar 5) (tVar 6)) tNil))))) (by rfl) scJC.nd (pi_list (pe_dget u1 (pv 4) (pv 0) (fun _ _ => rfl)))
        (blkOk_by (own := [("index", 6)]) (N := nmJC) (sc := C8.fnScope stJC) (by decide +kernel)) (fun _ _ _ _ _ => pg_name (i := 6) scJC.nd rfl (Or.inl rfl)) (fun _ _ _ _ _ => pts_nil)
        (fun _ _ _ _ _ => pe_notT (pe_call CF.G hr (by rfl) CF.m CF.kp CF.b .nil pass0 (pa_cons (pv 3) (pa_cons (pv 1) (pa_cons (pe_ix (r := rIxT K) ix_tup (pv 5) (pv 6) (fun _ _ => rfl)) pa_nil)))))) pa_nil))))), ?_⟩
    have nd := hO.nm.nd
    refine ⟨_, rfl, _, rfl, b, rows, ks, n, rfl, hA, nd, hn, fun ka kd mk kn hk => ?_⟩
    obtain ⟨gt, gas, f1, f2, f3⟩ := hk
    have lg := paired_len f3
    have g4 := (hO.num kd mk).2.2.2.2
    obtain ⟨l, ev, el⟩ := kvs_get nd hL.l mk
    rw [kn] at ev el
    have eg : gsOf ks n = kd.gs := by rw [← kn, gsOf_eq nd mk]
    refine ⟨ka, _, 3, .ref gt, rfl, rfl, SqT.of f1, rfl, ?_⟩
    refine ⟨_, rfl, _, rfl, d, .ref l, rfl, by rw [← ev]; exact DGet.k (k := Sum.inr n) hL.d, l, rfl, ⟨_, SqL.of el⟩, fun D hD => lc_list (K := K) (a := l) (xs := ixV (liveIx ks (bearOf ks) n)) (fun i J => Same H J ∧ J D = some (.lst ((((liveIx ks (bearOf ks) n).take i).map fun i => (forcedPl S C' (grAt ks n i)).isEmpty).map V.bl))) ?_ ?_ ?_ ?_⟩
    · exact ⟨same_upd hD, upd_same⟩
    · rintro i J _ ⟨S2, _⟩
      exact SqL.of (S2 _ _ el)
    · rintro j x J hx ⟨S2, jD⟩
      obtain ⟨i, hi, rfl⟩ := ixV_at hx
      obtain ⟨gr, hgr, _⟩ := ats_mem.mp (List.mem_of_getElem? hi)
      rw [eg] at hgr
      obtain ⟨ga, hga, eGr⟩ := paired_at2 f3 hgr
      have mg' := List.mem_of_getElem? hgr
      have hil : i < 4 := Nat.lt_of_lt_of_le (List.getElem?_eq_some_iff.mp hgr).1 g4
      refine ⟨rfl, ?_⟩
      unfold tYes
      dsimp only
      refine iteT ⟨_, rfl, _, rfl, _, rfl, _, rfl, gt, _, _, .ref ga, rfl, rfl, SqT.of (S2 _ _ f2), atI_nat (by rw [List.getElem?_map, hga]; rfl), ?_⟩
      refine ⟨sa, fa, ga, S, C', rows, _, gr, rfl, hS.same S2, .inl (S2 _ _ hC), Grd.ts eGr (TSame.of S2), hO.gr mk mg', fun p H3 S3 np ep => ?_⟩
      have lv := liveIx_le (ks := ks) (B := bearOf ks) (n := n)
      rw [eg] at lv
      refine ⟨_, .inl ⟨_, SqL.of ep, rfl⟩, _, S3 _ _ jD, small1000 (by rw [List.length_map, List.length_map, List.length_take]; omega), fun b u e => ?_, ?_⟩
      · rw [upd_ne (ne_of_none e hD)]
        exact S3 _ _ (S2 _ _ e)
      · rw [upd_same, List.take_add_one, hi, Option.toList_some, List.map_append, List.map_append]
        have e1 : grAt ks n i = gr := by
          unfold grAt
          rw [eg, List.getD_eq_getElem?_getD, hgr]
          rfl
        have e2 : (!!(ixV (forcedPl S C' gr)).isEmpty) = (forcedPl S C' (grAt ks n i)).isEmpty := by
          rw [e1, Bool.not_not]
          unfold ixV
          rw [List.isEmpty_map]
        rw [e2]
        rfl
    · rintro J ⟨S2, jD⟩
      have ll : (ixV (liveIx ks (bearOf ks) n)).length = (liveIx ks (bearOf ks) n).length := by unfold ixV; rw [List.length_map]
      rw [ll, List.take_length] at jD
      refine ⟨D, _, rfl, SqL.of jD, ?_⟩
      rw [List.any_map]
      exact k J S2
end
end KaG


set_option maxRecDepth 100000
set_option maxHeartbeats 4000000
namespace KaG
open PySem PySem.Spec PyProof.Rows L2 KaC LamX NdefX
noncomputable def cleanOf (ks : List Kd) (S : List Str) : List Str := lfp (nmsOf ks) (jC ks (bearOf ks) S)
theorem Ex.dk {T : List NTab} {H H' : Hp} (a : Ex T H H') {b : Addr} {xs : List (Key × V)} (e : H b = some (.dK xs)) : H' b = some (.dK xs) := a.ext b _ e fun _ z => nomatch z
theorem LiveH.ex {T : List NTab} {H H' : Hp} {d : Addr} {ks : List Kd} {ls : List Addr} (h : LiveH H d ks ls) (x : Ex T H H') : LiveH H' d ks ls := h.keep (fun _ _ e => x.dk e) fun _ _ e => x.lst e
section
variable {P : Program} {w : World} {K : PySem.W.Frag} {mg : Str → Option Value} {base : Heap}
theorem ndJC : ndefB (defScope sClean) (C8.fnScope stJC) frJC = true := by decide +kernel
theorem scClean : FnScope ["rulebook", "struck", "live", "joins"] ["rulebook", "struck"] (defScope sClean) := ⟨rfl, rfl, rfl, by decide +kernel, rfl, by decide +kernel, by decide +kernel⟩
def spClean (T : List NTab) : Sp := fun vs H Q _ => ∃ (b sa : Addr) (rows : List Str) (ks : List Kd) (S : List Str), vs = [.ref b, .ref sa] ∧ BookAt H b rows ks ∧ BookOk rows ks ∧ Sq2 H sa (S.map V.str) ∧ TabsN T H ∧
  ∀ (p : Addr) (H' : Hp), Ex T H H' → H' p = some (.tup ((cleanOf ks S).map V.str)) → IsL (nmsOf ks) (jB ks) (bearOf ks) → IsL (nmsOf ks) (jC ks (bearOf ks) S) (cleanOf ks S) → Q (.ref p) H'
theorem ok_clean {T : List NTab} {f fN fG fK fI fF c Pt : Addr} {fd fdN fdG fdK fdI fdF : FuncData} (F : Fun K "clean_kinds" "clean_kinds" sClean f fd) (hcode : fd.code = .ref c) (TT : TbOk base mg T c Pt qJC) (TC : TxtC mg) (hany : mg "any" = none)
    (C : Ct P w K mg base "kind_of" 1 ["rulebook", "name"] spKindN fK fdK) (CF : Ct P w K mg base "_forced_places" 2 ["struck", "clean", "ground"] spForcedPl fF fdF) (CN : Ct P w K mg base "kind_names" 1 ["rulebook"] spKindNames fN fdN)
    (CI : Ct P w K mg base "live_indexes" 6 ["rulebook"] (spLiveIx T) fI fdI)
    (CG : Ct P w K mg base "_grown" 4 ["names", "joins"] (spGrown P w K mg base 3) fG fdG) : FnOk P w K mg base CX0 7 f fd ["rulebook", "struck"] (spClean T) := by
  refine fun_okC F scClean hcode (fun vs H Q E h => ?_) (fun A outer s H vs Q E hr h => ?_)
  · obtain ⟨b, sa, rows, ks, S, rfl, _⟩ := h
    rfl
  · obtain ⟨b, sa, rows, ks, S, rfl, hA, hO, hS, hT, k⟩ := h
    refine ⟨_, (pss_cons (ps_set (i := 2) scClean.nd rfl (Or.inr rfl) (pe_call CI.G hr (by rfl) CI.m CI.kp CI.b .nil pass0 (pa_cons (pv 0) pa_nil)))
      (pss_cons (ps_ndefMS (i := 3) (T := T) (st := stJC) (name := "joins") rfl TT.TB rfl TT.m rfl TT.u (ndef_free ndJC) rfl rfl rfl scClean.nd rfl (Or.inl rfl) (Or.inr rfl))
      (pss_one (ps_ret (pe_callTy call_tuple_of (by rfl) TC.tup (by decide +kernel) (pa_cons (pe_callZ (mk := fun c' => NF.of stJC "joins" qJC _ c') (fr := frJC) (js := [0, 1, 2]) CG.G (fun _ => rfl) (by decide) (fun _ _ _ => rfl)
        (fun ok => Caps.made ok (ndef_free ndJC) (ndef_fr ndJC) rfl) (hr.mono (by decide)) (by rfl) CG.m CG.kp CG.b
        (pa_cons (pe_call CN.G (hr.mono (by decide)) (by rfl) CN.m CN.kp CN.b .nil pass0 (pa_cons (pv 0) pa_nil)) (pa_cons (pv 3) pa_nil))) pa_nil)))))), ?_⟩
    refine ⟨_, rfl, b, rows, ks, rfl, hA, hO, hT, fun d ls H0 X0 nd0 LD hLB => ?_⟩
    refine ⟨X0.tab, fun fj c' H1 x1 n1 T1 nf e1 ec => ?_⟩
    have X01 : Ex T H0 H1 := ⟨x1, T1, n1⟩
    have X1 := X0.tr X01
    have hA1 := hA.ts X1.ts
    have hk5 := hO.k5
    refine ⟨_, rfl, b, rows, ks, rfl, hA1, by omega, fun p H2 S2 np e2 => ?_⟩
    have X2 := X1.trs S2
    refine ⟨_, rfl, fj, c', S2 _ _ e1, S2 _ _ ec, fun Hf CH ke nin nout => ?_⟩
    have hA2 := hA1.ts (TSame.of S2)
    have L2' := (LD.h.ex X01).same S2
    have hS2 := X2.sq2 hS
    refine ⟨p, fj, _, _, spJC, _, nmsOf ks, jC ks (bearOf ks) S, rfl, ke _ _ e2, ke _ _ (S2 _ _ e1), ke _ _ (S2 _ _ ec), CH, ok_joinsC hany C CF, by rw [List.length_map]; exact hk5, jC_mono ks _ _, fun n fa B G1 Q1 mn S1 efa kk => ?_, fun q B H3 S3 eB hL => ?_⟩
    · have CG1 := CH.stay fun b o u e => S1 _ _ e
      have th : ∀ (d : Addr) (o : HO), H2 d = some o → (∀ ob v, o ≠ .frz ob (CelO d v)) → thaw (NF.of stJC "joins" qJC _ c').cl G1 d = some o := fun d o e n => by
        have e3 := S1 _ _ (ke _ _ e)
        exact (thaw_out (CG1.all.out e3 n)).trans e3
      refine ⟨b, sa, d, fa, rows, ks, ls, n, S, B, rfl, rfl, hA2.ts (fun d xs e => th _ _ e (fun _ _ y => nomatch y)), hO, hS2.imp (fun e => th _ _ e (fun _ _ y => nomatch y)) (fun e => th _ _ e (fun _ _ y => nomatch y)), L2'.keep (fun _ _ e => th _ _ e (fun _ _ y => nomatch y)) (fun _ _ e => th _ _ e (fun _ _ y => nomatch y)), mn, ?_, kk⟩
      exact (thaw_out (CG1.all.out efa fun _ _ y => nomatch y)).trans efa
    · have S4 : Same H2 (thaw _ H3) := fun d o e => by
        rw [thaw_out fun z => by rw [nin d z] at e; cases e]
        exact S3 _ _ (ke _ _ e)
      have X4 := X2.trs S4
      have CH3 := CH.stay fun b o u e => S3 _ _ e
      have eB2 : thaw _ H3 q = some (.lst (B.map V.str)) := (thaw_out (CH3.all.out eB fun _ _ y => nomatch y)).trans eB
      refine ⟨q, _, rfl, .inl ⟨SqL.of eB2, fun l nl => ?_⟩⟩
      have eq : B = cleanOf ks S := hL.eq
      rw [eq] at hL ⊢
      exact k l _ (X4.trs (same_upd nl)) upd_same hLB hL
/-! ### forced_needs -/
def spForcedN (T : List NTab) : Sp := fun vs H Q _ => ∃ (b sa : Addr) (rows : List Str) (ks : List Kd) (S : List Str) (k : Kd) (i : Nat) (g : Gr), vs = [.ref b, .ref sa, .str k.name, .int (i : Int)] ∧ BookAt H b rows ks ∧ BookOk rows ks ∧ Sq2 H sa (S.map V.str) ∧ TabsN T H ∧ k ∈ ks ∧ k.gs[i]? = some g ∧
  ∀ (p : Addr) (H' : Hp), Ex T H H' → H p = none → H' p = some (.lst (ixV (forcedPl S (cleanOf ks S) g))) → Q (.ref p) H'
end
end KaG


set_option maxRecDepth 100000
set_option maxHeartbeats 4000000
namespace KaG
open PySem PySem.Spec PyProof.Rows L2 KaC LamX NdefX
noncomputable def ableOf (ks : List Kd) (S : List Str) : List Str := lfp (nmsOf ks) (jA ks (bearOf ks) S (cleanOf ks S))
def rLen (K : PySem.W.Frag) : List V → Hp → VK → Prop := fun xs H Q => ∃ p ys, xs = [.ref p] ∧ (SqL K H p ys ∨ SqT K H p ys) ∧ Q (.int ys.length) H
theorem ixV_len {xs : List Nat} : (ixV xs).length = xs.length := by unfold ixV; rw [List.length_map]
theorem two_len {xs ys : List Nat} : decide ((0 : Int) < ((ixV xs ++ ixV ys).length : Int)) = (!xs.isEmpty || !ys.isEmpty) := by
  rw [List.length_append, ixV_len, ixV_len]
  cases xs with
  | nil =>
    cases ys with
    | nil => rfl
    | cons y r => exact decide_eq_true (by simp only [List.length_nil, List.length_cons]; omega)
  | cons x r => exact decide_eq_true (by simp only [List.length_cons]; omega)
theorem forcedPl_le {S C : List Str} {g : Gr} : (forcedPl S C g).length ≤ g.length := atsTo_le (t := ndForced S C) (xs := g) (n := g.length)
theorem placesOn_le {A : List Str} {g : Gr} : (placesOn g A).length ≤ g.length := atsTo_le (t := ndOn A) (xs := g) (n := g.length)
theorem grAt_eq {ks : List Kd} {n : Str} {gs : List Gr} {i : Nat} {gr : Gr} (eg : gsOf ks n = gs) (h : gs[i]? = some gr) : grAt ks n i = gr := by
  unfold grAt
  rw [eg, List.getD_eq_getElem?_getD, h]
  rfl
section
variable {P : Program} {w : World} {K : PySem.W.Frag} {mg : Str → Option Value} {base : Heap}
/-! ### able_kinds -/
abbrev sAble : Stmt := top 16
abbrev stJA : Stmt := (defBody sAble).getD 2 (.Pass ⟨0, 0, 0, 0⟩)
abbrev qJA : Str := Str.ofString "able_kinds.<locals>.joins"
abbrev frJA : List Str := ["rulebook", "struck", "live", "clean"]
abbrev nmJA : List Str := ["name", "found", "rulebook", "struck", "live", "clean", "grounds", "index", "ground"]
theorem scJA : NScopeC nmJA ["name", "found"] frJA (C8.fnScope stJA) := nscopeC_by (by decide +kernel)
def spJA : List (Option V) → Sp := fun ws vs H Q _ => ∃ (b sa d ca fa : Addr) (rows : List Str) (ks : List Kd) (ls : List Addr) (n : Str) (S C A : List Str), ws = [some (.ref b), some (.ref sa), some (.ref d), some (.ref ca)] ∧ vs = [.str n, .ref fa] ∧ BookAt H b rows ks ∧ BookOk rows ks ∧ Sq2 H sa (S.map V.str) ∧ LiveH H d ks ls ∧ Sq2 H ca (C.map V.str) ∧ n ∈ ks.map Kd.name ∧ H fa = some (.lst (A.map V.str)) ∧ ∀ H', Same H H' → Q (.bl (jA ks (bearOf ks) S C n A)) H'
theorem ok_joinsA {f fK fF fO : Addr} {fdK fdF fdO : FuncData} {cl : List (Str × Addr)} {c' : Addr} (hany : mg "any" = none) (hlen : mg "len" = none) (C : Ct P w K mg base "kind_of" 1 ["rulebook", "name"] spKindN fK fdK) (CF : Ct P w K mg base "_forced_places" 2 ["struck", "clean", "ground"] spForcedPl fF fdF) (CO : Ct P w K mg base "_places_on" 1 ["ground", "kinds"] spPlacesOn fO fdO) :
    NOk P w K mg base CX0 3 f (NF.of stJA "joins" qJA cl c') ["name", "found"] frJA spJA := by
  refine nok_ofC scJA (fun doc pm ctv us hl => match us, hl with | [_, _], _ => rfl) (fun ws vs H Q E h => ?_) (fun A outer s H vs ws Q E hr hf hc hw h => ?_)
  · obtain ⟨b, sa, d, ca, fa, rows, ks, ls, n, S, C, A, _, rfl, _⟩ := h
    rfl
  · obtain ⟨b, sa, d, ca, fa, rows, ks, ls, n, S, C', A', rfl, rfl, hA, hO, hS, hL, hC, hn, hF, k⟩ := h
    have u1 := hu_of hr
    have hr1 : Room 1 (A.deeper (envC (NF.of stJA "joins" qJA cl c') f s.heap.objs.size)) := hr.mono (by decide)
    refine ⟨_, PSs.nox (pss_cons (ps_setLc (i := 6) (own := [("index", 7)]) (g := gName 7) (te := tOp (rIxT K) (tOp (rIxT K) (tCall spKindN [] E0 (tCons (tVar 2) (tCons (tVar 0) tNil))) (tC (.int 3))) (tVar 7)) (by rfl) scJA.nd rfl rfl (sw_true rfl rfl rfl (by decide +kernel)) (pi_list (pe_dget u1 (pv 4) (pv 0) (fun _ _ => rfl)))
        (blkOk_by (own := [("index", 7)]) (N := nmJA) (sc := C8.fnScope stJA) (by decide +kernel)) (fun _ _ _ _ _ => pg_name (i := 7) scJA.nd rfl (Or.inl rfl)) (fun _ _ _ _ _ => pts_nil)
        (fun _ _ _ _ _ => pe_ix (r := rIxT K) ix_tup (pe_ix (r := rIxT K) ix_tup (pe_call C.G hr1 (by rfl) C.m C.kp C.b .nil pass0 (pa_cons (pv 2) (pa_cons (pv 0) pa_nil))) pe_int (fun _ _ => rfl)) (pv 7) (fun _ _ => rfl)))
      (pss_one (ps_ret (pe_callB (r := rAny K) (cr_any rfl) (by rfl) hany (by decide +kernel) (pa_cons (pe_lc (own := [("ground", 8)]) (g := gName 8) (te := tOp (rI0 fun i j => V.bl (decide (j < i))) (tCB (rLen K) (tCons (tOp rCat (tCall spForcedPl [] E0 (tCons (tVar 3) (tCons (tVar 5) (tCons (tVar 8) tNil)))) (tCall spPlacesOn [] E0 (tCons (tVar 8) (tCons (tVar 1) tNil)))) tNil)) (tC (.int 0))) (by rfl) scJA.nd (pi_list (pv 6))
        (blkOk_by (own := [("ground", 8)]) (N := nmJA) (sc := C8.fnScope stJA) (by decide +kernel)) (fun _ _ _ _ _ => pg_name (i := 8) scJA.nd rfl (Or.inl rfl)) (fun _ _ _ _ _ => pts_nil)
        (fun _ _ _ _ _ => pe_cmpR (r := rI0 fun i j => V.bl (decide (j < i))) op_gt (pe_callB (r := rLen K) call_len_seq (by rfl) hlen PySem.boot_len (pa_cons (pe_op op_cat (pe_call CF.G hr (by rfl) CF.m CF.kp CF.b .nil pass0 (pa_cons (pv 3) (pa_cons (pv 5) (pa_cons (pv 8) pa_nil)))) (pe_call CO.G hr1 (by rfl) CO.m CO.kp CO.b .nil pass0 (pa_cons (pv 8) (pa_cons (pv 1) pa_nil)))) pa_nil)) pe_int (nomark _))) pa_nil))))), ?_⟩
    have nd := hO.nm.nd
    obtain ⟨kd0, mk0, kn0⟩ := List.mem_map.mp hn
    obtain ⟨l, ev, el⟩ := kvs_get nd hL.l mk0
    rw [kn0] at ev el
    have eg : gsOf ks n = kd0.gs := by rw [← kn0, gsOf_eq nd mk0]
    have g4 := (hO.num kd0 mk0).2.2.2.2
    have lv := liveIx_le (ks := ks) (B := bearOf ks) (n := n)
    rw [eg] at lv
    have ll := ixV_len (xs := liveIx ks (bearOf ks) n)
    refine ⟨_, rfl, _, rfl, d, .ref l, rfl, by rw [← ev]; exact DGet.k (k := Sum.inr n) hL.d, l, rfl, ⟨_, SqL.of el⟩, fun D hD => lc_list (K := K) (a := l) (xs := ixV (liveIx ks (bearOf ks) n)) (fun i J => Same H J ∧ ∃ gas' : List Addr, J D = some (.lst (gas'.map V.ref)) ∧ Paired (fun a i => ∃ g, kd0.gs[i]? = some g ∧ Grd J a g) gas' ((liveIx ks (bearOf ks) n).take i)) ?_ ?_ ?_ ?_⟩
    · exact ⟨same_upd hD, [], upd_same, .nil⟩
    · rintro i J _ ⟨S2, _⟩
      exact SqL.of (S2 _ _ el)
    · rintro j x J hx ⟨S2, gas', jD, pg⟩
      obtain ⟨i, hi, rfl⟩ := ixV_at hx
      obtain ⟨gr, hgr, _⟩ := ats_mem.mp (List.mem_of_getElem? hi)
      rw [eg] at hgr
      refine ⟨rfl, ?_⟩
      unfold tYes
      dsimp only
      refine iteT ⟨_, rfl, _, rfl, b, rows, ks, n, rfl, hA.ts (TSame.of S2), nd, hn, fun ka kd mk kn hk => ?_⟩
      obtain rfl := kd_one nd mk mk0 (kn.trans kn0.symm)
      obtain ⟨gt, gas, f1, f2, f3⟩ := hk
      obtain ⟨ga, hga, eGr⟩ := paired_at2 f3 hgr
      have lp := paired_len pg
      rw [List.length_take] at lp
      refine ⟨ka, _, 3, .ref gt, rfl, rfl, SqT.of f1, rfl, _, rfl, gt, _, _, .ref ga, rfl, rfl, SqT.of f2, atI_nat (by rw [List.getElem?_map, hga]; rfl), _, jD, small1000 (by rw [List.length_map]; omega), fun b u e => ?_, gas' ++ [ga], ?_, ?_⟩
      · rw [upd_ne (ne_of_none e hD)]
        exact S2 _ _ e
      · rw [upd_same, List.map_append]
        rfl
      · rw [List.take_add_one, hi, Option.toList_some]
        have tw : TSame J (upd J D (.lst (gas'.map V.ref ++ [.ref ga]))) := ts_lst jD
        exact paired_snoc ⟨gr, hgr, Grd.ts eGr tw⟩ (Paired.mono' (fun _ _ ⟨g, q1, q2⟩ => ⟨g, q1, Grd.ts q2 tw⟩) pg)
    · rintro J ⟨S2, gas', jD, pg⟩
      rw [ll, List.take_length] at pg
      have lp := paired_len pg
      refine ⟨_, rfl, D, rfl, ⟨_, SqL.of jD⟩, fun D2 hD2 => lc_list (K := K) (a := D) (xs := gas'.map V.ref) (fun j J2 => Same J J2 ∧ J2 D2 = some (.lst ((((liveIx ks (bearOf ks) n).take j).map fun i => !(forcedPl S C' (grAt ks n i)).isEmpty || !(placesOn (grAt ks n i) A').isEmpty).map V.bl))) ?_ ?_ ?_ ?_⟩
      · exact ⟨same_upd hD2, upd_same⟩
      · rintro i J2 _ ⟨S3, _⟩
        exact SqL.of (S3 _ _ jD)
      · rintro j x J2 hx ⟨S3, j2D⟩
        rw [List.getElem?_map] at hx
        obtain ⟨ga, hga, rfl⟩ := Option.map_eq_some_iff.mp hx
        obtain ⟨i, hi, gr, hgr, eGr⟩ := paired_at pg hga
        have mg' := List.mem_of_getElem? hgr
        have gok := hO.gr mk0 mg'
        have S23 := KaG.Same.tr S2 S3
        refine ⟨rfl, ?_⟩
        unfold tYes
        dsimp only
        refine iteT ⟨_, rfl, _, rfl, _, rfl, sa, ca, ga, S, C', rows, _, gr, rfl, hS.same S23, hC.same S23, Grd.ts eGr (TSame.of S3), gok, fun p H3 S4 np ep => ?_⟩
        have S234 := KaG.Same.tr S23 S4
        refine ⟨_, rfl, _, rfl, ga, fa, A', rows, _, gr, rfl, Grd.ts eGr (TSame.of (KaG.Same.tr S3 S4)), gok, .inl (S234 _ _ hF), fun p2 H4 S5 np2 ep2 => ?_⟩
        have l1 := forcedPl_le (S := S) (C := C') (g := gr)
        have l2 := placesOn_le (A := A') (g := gr)
        have l3 := gok.len
        refine ⟨p, p2, _, _, rfl, rfl, S5 _ _ ep, ep2, ?_, fun q nq => ?_⟩
        · rw [ixV_len, ixV_len]
          exact Nat.le_of_lt (small1000 (by omega))
        · have S6 := KaG.Same.tr S4 (KaG.Same.tr S5 (same_upd (o := .lst (ixV (forcedPl S C' gr) ++ ixV (placesOn gr A'))) nq))
          refine ⟨q, _, rfl, .inl (SqL.of upd_same), _, _, rfl, rfl, _, S6 _ _ j2D, small1000 (by rw [List.length_map, List.length_map, List.length_take]; omega), fun b u e => ?_, ?_⟩
          · rw [upd_ne (ne_of_none e hD2)]
            exact S6 _ _ (S3 _ _ e)
          · rw [upd_same, List.take_add_one, hi, Option.toList_some, List.map_append, List.map_append]
            dsimp only
            rw [two_len, ← grAt_eq eg hgr]
            rfl
      · rintro J2 ⟨S3, j2D⟩
        rw [List.length_map, lp, List.take_length] at j2D
        refine ⟨D2, _, rfl, SqL.of j2D, ?_⟩
        rw [List.any_map]
        exact k J2 (KaG.Same.tr S2 S3)
end
end KaG


set_option maxRecDepth 100000
set_option maxHeartbeats 4000000
namespace KaG
open PySem PySem.Spec PyProof.Rows L2 KaC LamX NdefX
/-- what must be old for an old answer from a ground -/
def oldPl (S C A : List Str) (g : Gr) : Str × List Nat := if !(forcedPl S C g).isEmpty then ("all", forcedPl S C g) else if !(placesOn g A).isEmpty then ("one", placesOn g A) else ("none", [])
section
variable {P : Program} {w : World} {K : PySem.W.Frag} {mg : Str → Option Value} {base : Heap}
theorem ndJA : ndefB (defScope sAble) (C8.fnScope stJA) frJA = true := by decide +kernel
theorem scAble : FnScope ["rulebook", "struck", "live", "clean", "joins"] ["rulebook", "struck"] (defScope sAble) := ⟨rfl, rfl, rfl, by decide +kernel, rfl, by decide +kernel, by decide +kernel⟩
def spAble (T : List NTab) : Sp := fun vs H Q _ => ∃ (b sa : Addr) (rows : List Str) (ks : List Kd) (S : List Str), vs = [.ref b, .ref sa] ∧ BookAt H b rows ks ∧ BookOk rows ks ∧ Sq2 H sa (S.map V.str) ∧ TabsN T H ∧
  ∀ (p : Addr) (H' : Hp), Ex T H H' → H' p = some (.tup ((ableOf ks S).map V.str)) → IsL (nmsOf ks) (jA ks (bearOf ks) S (cleanOf ks S)) (ableOf ks S) → Q (.ref p) H'
theorem ok_able {T : List NTab} {f fN fG fK fI fF fO fC c Pt : Addr} {fd fdN fdG fdK fdI fdF fdO fdC : FuncData} (F : Fun K "able_kinds" "able_kinds" sAble f fd) (hcode : fd.code = .ref c) (TT : TbOk base mg T c Pt qJA) (TC : TxtC mg) (hany : mg "any" = none) (hlen : mg "len" = none)
    (C : Ct P w K mg base "kind_of" 1 ["rulebook", "name"] spKindN fK fdK) (CF : Ct P w K mg base "_forced_places" 2 ["struck", "clean", "ground"] spForcedPl fF fdF) (CO : Ct P w K mg base "_places_on" 1 ["ground", "kinds"] spPlacesOn fO fdO) (CN : Ct P w K mg base "kind_names" 1 ["rulebook"] spKindNames fN fdN)
    (CI : Ct P w K mg base "live_indexes" 6 ["rulebook"] (spLiveIx T) fI fdI) (CC : Ct P w K mg base "clean_kinds" 7 ["rulebook", "struck"] (spClean T) fC fdC)
    (CG : Ct P w K mg base "_grown" 4 ["names", "joins"] (spGrown P w K mg base 3) fG fdG) : FnOk P w K mg base CX0 8 f fd ["rulebook", "struck"] (spAble T) := by
  refine fun_okC F scAble hcode (fun vs H Q E h => ?_) (fun A outer s H vs Q E hr h => ?_)
  · obtain ⟨b, sa, rows, ks, S, rfl, _⟩ := h
    rfl
  · obtain ⟨b, sa, rows, ks, S, rfl, hA, hO, hS, hT, k⟩ := h
    refine ⟨_, (pss_cons (ps_set (i := 2) scAble.nd rfl (Or.inr rfl) (pe_call CI.G (hr.mono (by decide)) (by rfl) CI.m CI.kp CI.b .nil pass0 (pa_cons (pv 0) pa_nil)))
      (pss_cons (ps_set (i := 3) scAble.nd rfl (Or.inr rfl) (pe_call CC.G hr (by rfl) CC.m CC.kp CC.b .nil pass0 (pa_cons (pv 0) (pa_cons (pv 1) pa_nil))))
      (pss_cons (ps_ndefMS (i := 4) (T := T) (st := stJA) (name := "joins") rfl TT.TB rfl TT.m rfl TT.u (ndef_free ndJA) rfl rfl rfl scAble.nd rfl (Or.inl rfl) (Or.inr rfl))
      (pss_one (ps_ret (pe_callTy call_tuple_of (by rfl) TC.tup (by decide +kernel) (pa_cons (pe_callZ (mk := fun c' => NF.of stJA "joins" qJA _ c') (fr := frJA) (js := [0, 1, 2, 3]) CG.G (fun _ => rfl) (by decide) (fun _ _ _ => rfl)
        (fun ok => Caps.made ok (ndef_free ndJA) (ndef_fr ndJA) rfl) (hr.mono (by decide)) (by rfl) CG.m CG.kp CG.b
        (pa_cons (pe_call CN.G (hr.mono (by decide)) (by rfl) CN.m CN.kp CN.b .nil pass0 (pa_cons (pv 0) pa_nil)) (pa_cons (pv 4) pa_nil))) pa_nil))))))), ?_⟩
    refine ⟨_, rfl, b, rows, ks, rfl, hA, hO, hT, fun d ls H0 X0 nd0 LD hLB => ?_⟩
    refine ⟨_, rfl, _, rfl, b, sa, rows, ks, S, rfl, hA.ts X0.ts, hO, X0.sq2 hS, X0.tab, fun ca H9 X9 eca hLB2 hLC => ?_⟩
    have X09 := X0.tr X9
    refine ⟨X9.tab, fun fj c' H1 x1 n1 T1 nf e1 ec => ?_⟩
    have X91 : Ex T H9 H1 := ⟨x1, T1, n1⟩
    have X1 := X09.tr X91
    have hA1 := hA.ts X1.ts
    have hk5 := hO.k5
    refine ⟨_, rfl, b, rows, ks, rfl, hA1, by omega, fun p H2 S2 np e2 => ?_⟩
    have X2 := X1.trs S2
    refine ⟨_, rfl, fj, c', S2 _ _ e1, S2 _ _ ec, fun Hf CH ke nin nout => ?_⟩
    have hA2 := hA1.ts (TSame.of S2)
    have L2' := ((LD.h.ex X9).ex X91).same S2
    have hS2 := X2.sq2 hS
    have ca2 := S2 _ _ (X91.ts _ _ eca)
    refine ⟨p, fj, _, _, spJA, _, nmsOf ks, jA ks (bearOf ks) S (cleanOf ks S), rfl, ke _ _ e2, ke _ _ (S2 _ _ e1), ke _ _ (S2 _ _ ec), CH, ok_joinsA hany hlen C CF CO, by rw [List.length_map]; exact hk5, jA_mono ks _ _ _, fun n fa B G1 Q1 mn S1 efa kk => ?_, fun q B H3 S3 eB hL => ?_⟩
    · have CG1 := CH.stay fun b o u e => S1 _ _ e
      have th : ∀ (d : Addr) (o : HO), H2 d = some o → (∀ ob v, o ≠ .frz ob (CelO d v)) → thaw (NF.of stJA "joins" qJA _ c').cl G1 d = some o := fun d o e n => by
        have e3 := S1 _ _ (ke _ _ e)
        exact (thaw_out (CG1.all.out e3 n)).trans e3
      refine ⟨b, sa, d, ca, fa, rows, ks, ls, n, S, cleanOf ks S, B, rfl, rfl, hA2.ts (fun d xs e => th _ _ e (fun _ _ y => nomatch y)), hO, hS2.imp (fun e => th _ _ e (fun _ _ y => nomatch y)) (fun e => th _ _ e (fun _ _ y => nomatch y)), L2'.keep (fun _ _ e => th _ _ e (fun _ _ y => nomatch y)) (fun _ _ e => th _ _ e (fun _ _ y => nomatch y)), .inr (th _ _ ca2 (fun _ _ y => nomatch y)), mn, ?_, kk⟩
      exact (thaw_out (CG1.all.out efa fun _ _ y => nomatch y)).trans efa
    · have S4 : Same H2 (thaw _ H3) := fun d o e => by
        rw [thaw_out fun z => by rw [nin d z] at e; cases e]
        exact S3 _ _ (ke _ _ e)
      have X4 := X2.trs S4
      have CH3 := CH.stay fun b o u e => S3 _ _ e
      have eB2 : thaw _ H3 q = some (.lst (B.map V.str)) := (thaw_out (CH3.all.out eB fun _ _ y => nomatch y)).trans eB
      refine ⟨q, _, rfl, .inl ⟨SqL.of eB2, fun l nl => ?_⟩⟩
      have eq : B = ableOf ks S := hL.eq
      rw [eq] at hL ⊢
      exact k l _ (X4.trs (same_upd nl)) upd_same hL
/-! ### old_places, old_needs -/
def spOldP : Sp := fun vs H Q _ => ∃ (sa ca aa ga : Addr) (S C A rows names : List Str) (g : Gr), vs = [.ref sa, .ref ca, .ref aa, .ref ga] ∧ Sq2 H sa (S.map V.str) ∧ Sq2 H ca (C.map V.str) ∧ Sq2 H aa (A.map V.str) ∧ Grd H ga g ∧ GrOk rows names g ∧
  ∀ (p q : Addr) (H' : Hp), Same H H' → H' p = some (.tup [.str (oldPl S C A g).1, .ref q]) → H' q = some (.tup (ixV (oldPl S C A g).2)) → Q (.ref p) H'
theorem ixV_emp {xs : List Nat} : (ixV xs).isEmpty = xs.isEmpty := by unfold ixV; rw [List.isEmpty_map]
def spOldN (T : List NTab) : Sp := fun vs H Q _ => ∃ (b sa : Addr) (rows : List Str) (ks : List Kd) (S : List Str) (k : Kd) (i : Nat) (g : Gr), vs = [.ref b, .ref sa, .str k.name, .int (i : Int)] ∧ BookAt H b rows ks ∧ BookOk rows ks ∧ Sq2 H sa (S.map V.str) ∧ TabsN T H ∧ k ∈ ks ∧ k.gs[i]? = some g ∧
  ∀ (p q : Addr) (H' : Hp), Ex T H H' → H' p = some (.tup [.str (oldPl S (cleanOf ks S) (ableOf ks S) g).1, .ref q]) → H' q = some (.tup (ixV (oldPl S (cleanOf ks S) (ableOf ks S) g).2)) → Q (.ref p) H'
end
end KaG


set_option maxRecDepth 100000
set_option maxHeartbeats 1000000
/-! the numbers over a rulebook's live grounds -/
namespace KaG
open PySem PySem.Spec PyProof.Rows L2 KaC KaU
def ndK : List V → Nd Str
  | [.str _, .str p, .int a, .int _, .int _] => some (p, a)
  | _ => none
noncomputable def lvG (ks : List Kd) (n : Str) : List Gr := (liveIx ks (bearOf ks) n).map (grAt ks n)
noncomputable def lvN (ks : List Kd) (n : Str) : List (List (Nd Str)) := (lvG ks n).map fun g => g.map ndK
theorem grAt_at {ks : List Kd} {n : Str} {i : Nat} {g : Gr} (h : (gsOf ks n)[i]? = some g) : grAt ks n i = g := by
  unfold grAt
  rw [List.getD_eq_getElem?_getD, h]
  rfl
theorem lvG_mem {ks : List Kd} {n : Str} {g : Gr} : g ∈ lvG ks n ↔ g ∈ gsOf ks n ∧ grLive ks (bearOf ks) g = true := by
  unfold lvG liveIx
  rw [List.mem_map]
  constructor
  · rintro ⟨i, mi, rfl⟩
    obtain ⟨x, h1, h2⟩ := ats_mem.mp mi
    rw [grAt_at h1]
    exact ⟨List.mem_of_getElem? h1, h2⟩
  · rintro ⟨m, h⟩
    obtain ⟨i, hi⟩ := List.mem_iff_getElem?.mp m
    exact ⟨i, ats_mem.mpr ⟨g, hi, h⟩, grAt_at hi⟩
theorem gsOf_none {ks : List Kd} {n : Str} (h : n ∉ nmsOf ks) : gsOf ks n = [] := by
  unfold gsOf
  cases e : ks.find? (fun q => decide (q.name = n)) with
  | none => rfl
  | some q =>
    have h1 := List.find?_some e
    have h2 := List.mem_of_find?_eq_some e
    exact absurd (List.mem_map.mpr ⟨q, h2, by simpa using h1⟩) h
theorem lvG_gr {rows : List Str} {ks : List Kd} (hO : BookOk rows ks) {n : Str} {g : Gr} (m : g ∈ lvG ks n) : n ∈ nmsOf ks ∧ 0 < g.length ∧ GrOk rows (nmsOf ks) g := by
  have h := (lvG_mem.mp m).1
  have hn : n ∈ nmsOf ks := Classical.byContradiction fun z => by rw [gsOf_none z] at h; cases h
  obtain ⟨k, mk, rfl⟩ := List.mem_map.mp hn
  rw [gsOf_eq hO.nm.nd mk] at h
  exact ⟨hn, (hO.grd k mk g h).1, hO.gr mk h⟩
theorem gk_of {rows : List Str} {ks : List Kd} (hO : BookOk rows ks) : Gk (nmsOf ks) (lvN ks) := ⟨fun n g mg m b mb => by
  obtain ⟨g0, m0, rfl⟩ := List.mem_map.mp mg
  obtain ⟨d, md, e⟩ := List.mem_map.mp mb
  have nv := (lvG_gr hO m0).2.2.nv d md
  cases nv with
  | row nm t u h => cases e
  | kind nm a t u h a1 a9 =>
    injection e with e
    injection e with e1 e2
    subst e1
    subst e2
    exact ⟨h, a1, a9⟩⟩
/-- every clean kind is bearing -/
theorem cln_bear {ks : List Kd} {S : List Str} (hB : IsL (nmsOf ks) (jB ks) (bearOf ks)) (hC : IsL (nmsOf ks) (jC ks (bearOf ks) S) (cleanOf ks S)) : ∀ n ∈ cleanOf ks S, n ∈ bearOf ks := by
  intro n mn
  have := hC.lst ((cleanOf ks S).filter fun m => decide (m ∈ bearOf ks)) (fun m mm j => by
    have j2 := jC_mono ks (bearOf ks) S m _ (cleanOf ks S) (fun x mx => (List.mem_filter.mp mx).1) j
    refine List.mem_filter.mpr ⟨hC.clo m mm j2, decide_eq_true ?_⟩
    unfold jC at j
    obtain ⟨i, mi, _⟩ := List.any_eq_true.mp j
    obtain ⟨g, h1, h2⟩ := ats_mem.mp mi
    exact hB.clo m mm (List.any_eq_true.mpr ⟨g, List.mem_of_getElem? h1, h2⟩)) n mn
  have h := (List.mem_filter.mp this).2
  simpa using h
section
variable {rows : List Str} {ks : List Kd} {S : List Str} {x : Str → Int}
/-- a kind that is not clean is bearing just if it has a day -/
theorem bear_iff (hO : BookOk rows ks) (hB : IsL (nmsOf ks) (jB ks) (bearOf ks)) (hC : IsL (nmsOf ks) (jC ks (bearOf ks) S) (cleanOf ks S)) (h : PI (lvN ks) (fun n => decide (n ∈ cleanOf ks S)) x) (f : PF (nmsOf ks) (lvN ks) x) (l5 : (nmsOf ks).length ≤ 5) : ∀ n, n ∈ bearOf ks ↔ n ∈ nmsOf ks ∧ (n ∈ cleanOf ks S ∨ x n < NEV) := by
  have back : ∀ n ∈ nmsOf ks, (n ∈ cleanOf ks S ∨ x n < NEV) → n ∈ bearOf ks := fun n mn hn => by
    by_cases c : n ∈ cleanOf ks S
    · exact cln_bear hB hC n c
    · obtain ⟨g, mg, _⟩ := h.w n (decide_eq_false c) (hn.resolve_left c)
      obtain ⟨g0, m0, _⟩ := List.mem_map.mp mg
      have m1 := lvG_mem.mp m0
      exact hB.clo n mn (List.any_eq_true.mpr ⟨g0, m1.1, m1.2⟩)
  intro n
  refine ⟨fun m => ?_, fun ⟨m, z⟩ => back n m z⟩
  have fw := hB.lst ((nmsOf ks).filter fun n => decide (n ∈ cleanOf ks S) || decide (x n < NEV)) (fun n mn j => by
    refine List.mem_filter.mpr ⟨mn, ?_⟩
    by_cases c : n ∈ cleanOf ks S
    · rw [decide_eq_true c]
      rfl
    · rw [Bool.or_eq_true]
      right
      unfold jB at j
      obtain ⟨g, mg, hg⟩ := List.any_eq_true.mp j
      have sub : ∀ q ∈ ((nmsOf ks).filter fun n => decide (n ∈ cleanOf ks S) || decide (x n < NEV)), q ∈ bearOf ks := fun q mq => by
        have h1 := List.mem_filter.mp mq
        refine back q h1.1 ?_
        rcases Bool.or_eq_true _ _ ▸ h1.2 with z | z
        · exact .inl (of_decide_eq_true z)
        · exact .inr (of_decide_eq_true z)
      have hg2 : grLive ks (bearOf ks) g = true := List.all_eq_true.mpr fun d md => nd_mono sub d (List.all_eq_true.mp hg d md)
      have mL : g ∈ lvG ks n := lvG_mem.mpr ⟨mg, hg2⟩
      obtain ⟨d, md, hd⟩ := f n mn _ (List.mem_map.mpr ⟨g, mL, rfl⟩)
      obtain ⟨d0, md0, rfl⟩ := List.mem_map.mp md
      have nv := (lvG_gr hO mL).2.2.nv d0 md0
      have N2 : NEV = (2000000 : Int) := rfl
      refine decide_eq_true ?_
      cases nv with
      | row nm t u hh =>
        have hd : x n ≤ 0 := hd
        omega
      | kind nm a t u hh a1 a9 =>
        have hl := List.all_eq_true.mp hg _ md0
        have hl : (decide (nm ∈ ((nmsOf ks).filter fun n => decide (n ∈ cleanOf ks S) || decide (x n < NEV))) && keepLt ks nm a) = true := hl
        rw [Bool.and_eq_true, decide_eq_true_eq] at hl
        have h1 := List.mem_filter.mp hl.1
        have hd : x n ≤ if x nm + a > 0 then x nm + a else 0 := hd
        split at hd
        · by_cases c2 : nm ∈ cleanOf ks S
          · have := h.c nm (decide_eq_true c2)
            have A2 : ALW = (-1000000 : Int) := rfl
            omega
          · rcases Bool.or_eq_true _ _ ▸ h1.2 with z | z
            · exact absurd (of_decide_eq_true z) c2
            · have := small36 (gk_of hO) h f l5 h1.1 (decide_eq_false c2) (of_decide_eq_true z)
              omega
        · omega) n m
  have h1 := List.mem_filter.mp fw
  refine ⟨h1.1, ?_⟩
  rcases Bool.or_eq_true _ _ ▸ h1.2 with z | z
  · exact .inl (of_decide_eq_true z)
  · exact .inr (of_decide_eq_true z)
end
end KaG


set_option maxRecDepth 100000
set_option maxHeartbeats 4000000
namespace KaG
open PySem PySem.Spec PyProof.Rows L2 KaC
def rLenOf (K : PySem.W.Frag) : List V → Hp → VK → Prop := fun xs H Q => ∃ p ys, xs = [.ref p] ∧ (SqL K H p ys ∨ SqT K H p ys) ∧ Q (.int ys.length) H
theorem call_lenOf {X : Cx} : CallR X (.builtin "len") (rLenOf X.K) := call_len_seq
theorem same_back {H G : Hp} {p : Addr} (S : Same H G) (n : G p = none) : H p = none := by
  cases e : H p with
  | none => rfl
  | some u => rw [S _ _ e] at n; cases n
section
variable {P : Program} {w : World} {K : PySem.W.Frag} {mg : Str → Option Value} {base : Heap}
abbrev nmPO : List Str := ["rulebook", "kind", "at", "ground", "place"]
end
end KaG


set_option maxRecDepth 100000
set_option maxHeartbeats 4000000
namespace KaG
open PySem PySem.Spec PyProof.Rows L2 KaC
/-! ### which grounds are dead -/
def keepBad (ks : List Kd) (p : Str) (a : Int) : Bool := ks.any fun k => decide (k.name = p) && decide (k.keep ≤ a)
def needBad (ks : List Kd) : List V → Bool
  | [.str _, .str p, .int a, .int _, .int _] => keepBad ks p a
  | _ => false
def grdBad (ks : List Kd) (g : List (List V)) : Bool := g.any (needBad ks)
def isK (its : List V) : Bool := decide (its.length = 5)
theorem keepBad_eq {ks : List Kd} {k : Kd} {a : Int} (nd : (ks.map Kd.name).Nodup) (h : k ∈ ks) : keepBad ks k.name a = decide (k.keep ≤ a) := by
  unfold keepBad
  cases e : decide (k.keep ≤ a) with
  | true => exact List.any_eq_true.mpr ⟨k, h, by simp [e]⟩
  | false =>
    rw [List.any_eq_false]
    intro k2 h2 z
    rw [Bool.and_eq_true, decide_eq_true_eq] at z
    have : k2 = k := by
      obtain ⟨i, hi⟩ := List.mem_iff_getElem?.mp h
      obtain ⟨j, hj⟩ := List.mem_iff_getElem?.mp h2
      obtain ⟨li, ei⟩ := List.getElem?_eq_some_iff.mp hi
      obtain ⟨lj, ej⟩ := List.getElem?_eq_some_iff.mp hj
      have hij : j = i := (List.getElem_inj (h₀ := by rw [List.length_map]; exact lj) (h₁ := by rw [List.length_map]; exact li) nd).mp (by rw [List.getElem_map, List.getElem_map, ei, ej, z.1])
      subst hij
      rw [hi] at hj
      exact (Option.some.inj hj).symm
    rw [this, e] at z
    exact absurd z.2 (by decide)
theorem row_notBad {rows names : List Str} {ks : List Kd} {its : List V} (h : NeedV rows names its) (e : isK its = false) : needBad ks its = false := by
  cases h with
  | row => rfl
  | kind => cases e
theorem bad_filter {rows names : List Str} {ks : List Kd} : ∀ {g : List (List V)}, (∀ n ∈ g, NeedV rows names n) → (g.filter isK).any (needBad ks) = grdBad ks g
  | [], _ => rfl
  | n :: g, h => by
    have ih := bad_filter (ks := ks) (g := g) fun m hm => h m (List.mem_cons_of_mem _ hm)
    unfold grdBad at ih ⊢
    rw [List.any_cons, ← ih]
    cases e : isK n with
    | true => rw [List.filter_cons_of_pos e, List.any_cons]
    | false => rw [List.filter_cons_of_neg (by rw [e]; decide), row_notBad (h n (List.mem_cons_self ..)) e, Bool.false_or]
section
variable {P : Program} {w : World} {K : PySem.W.Frag} {mg : Str → Option Value} {base : Heap}
abbrev nmID : List Str := ["rulebook", "ground", "kinds_needed", "need"]
def spIsDead : Sp := fun vs H Q _ => ∃ (b ga : Addr) (rows : List Str) (ks : List Kd) (g : List (List V)), vs = [.ref b, .ref ga] ∧ BookAt H b rows ks ∧ BookOk rows ks ∧ Grd H ga g ∧ (∀ n ∈ g, NeedV rows (ks.map Kd.name) n) ∧ g.length ≤ 3 ∧ ∀ H', Same H H' → Q (.bl (grdBad ks g)) H'
def rAnyOf (K : PySem.W.Frag) : List V → Hp → VK → Prop := fun vs H Q => ∃ (a : Addr) (bs : List Bool), vs = [V.ref a] ∧ SqL K H a (bs.map V.bl) ∧ Q (.bl (bs.any id)) H
end
end KaG


set_option maxRecDepth 100000
set_option maxHeartbeats 4000000
namespace KaG
open PySem PySem.Spec PyProof.Rows L2 KaC
def deadG (ks : List Kd) (k : Kd) (g : Nat) : List (Str × Nat) := if grdBad ks (k.gs.getD g []) = true then [(k.name, g)] else []
def deadK (ks : List Kd) (k : Kd) : List (Str × Nat) := (List.range k.gs.length).flatMap (deadG ks k)
def deadOf (ks : List Kd) : List (Str × Nat) := ks.flatMap (deadK ks)
def DdAt (H : Hp) (as : List Addr) (ds : List (Str × Nat)) : Prop := Paired (fun a (d : Str × Nat) => H a = some (.tup [.str d.1, .int (d.2 : Int)])) as ds
theorem DdAt.ts {H H' : Hp} {as : List Addr} {ds : List (Str × Nat)} (h : DdAt H as ds) (s : TSame H H') : DdAt H' as ds := Paired.mono' (fun a d q => s _ _ q) h
theorem range_next {α : Type} (f : Nat → List α) (n : Nat) : (List.range (n + 1)).flatMap f = (List.range n).flatMap f ++ f n := by
  rw [List.range_succ, List.flatMap_append]
  simp
def spDeadG : Sp := fun vs H Q _ => ∃ (b : Addr) (rows : List Str) (ks : List Kd), vs = [.ref b] ∧ BookAt H b rows ks ∧ BookOk rows ks ∧ ∀ (p : Addr) (as : List Addr) (H' : Hp), Same H H' → H p = none → H' p = some (.lst (as.map V.ref)) → DdAt H' as (deadOf ks) → as.length ≤ 20 → Q (.ref p) H'
section
variable {P : Program} {w : World} {K : PySem.W.Frag} {mg : Str → Option Value} {base : Heap}
abbrev nmDG : List Str := ["rulebook", "kind", "at", "ground"]
end
end KaG


set_option maxRecDepth 100000
set_option maxHeartbeats 4000000
namespace KaG
open PySem PySem.Spec PyProof.Rows L2 KaC
theorem kvs_at {ks : List Kd} {kas : List Addr} {i : Nat} {k : Kd} {ka : Addr} (nd : (ks.map Kd.name).Nodup) (hl : ks.length ≤ kas.length) (h1 : ks[i]? = some k) (h2 : kas[i]? = some ka) : valV (kvsOf ks kas) (Sum.inr k.name) = some (.ref ka) := by
  have mz : (Sum.inr k.name, V.ref ka) ∈ kvsOf ks kas := by
    unfold kvsOf
    exact List.mem_map.mpr ⟨(k, ka), List.mem_of_getElem? ((List.getElem?_zip_eq_some (z := (k, ka))).mpr ⟨h1, h2⟩), rfl⟩
  have nk : ((kvsOf ks kas).map (·.1)).Nodup := by
    rw [kvs_keys hl]
    exact List.pairwise_map.mpr (nd.imp fun h z => h (Sum.inr.inj z))
  exact valV_in nk mz
theorem nm_lay : ∀ n ∈ nmAll, (PyData.str n).canLay0 = true := by decide +kernel
theorem tup_lay : ∀ ds : List PyData, (∀ d ∈ ds, d.canLay0 = true) → (PyData.tuple ds).canLay0 = true ∧ (PyData.list ds).canLay0 = true
  | [], _ => ⟨by simp [PyData.canLay0, PyData.canLayAll0], by simp [PyData.canLay0, PyData.canLayAll0]⟩
  | d :: ds, h => by
    have h1 := h d (List.mem_cons_self ..)
    have h2 := (tup_lay ds fun x m => h x (List.mem_cons_of_mem _ m)).1
    rw [PyData.canLay0] at h2
    exact ⟨by rw [PyData.canLay0, PyData.canLayAll0, h1, h2]; rfl, by rw [PyData.canLay0, PyData.canLayAll0, h1, h2]; rfl⟩
theorem int_lay (i : Int) : (PyData.int i).canLay0 = true := by simp [PyData.canLay0]
theorem need_dp {K : PySem.W.Frag} {H : Hp} {rows names : List Str} {its : List V} {a : Addr} (hr : ∀ n ∈ rows, n ∈ nmAll) (hn : ∀ n ∈ names, n ∈ nmAll) (h : NeedV rows names its) (e : H a = some (.tup its)) : ∃ d, Dp K H (.ref a) d ∧ d.canLay0 = true ∧ d.depth ≤ 1 := by
  cases h with
  | row n t m h =>
    refine ⟨.tuple [.str "row", .str n, .int t, .int m], .tup (SqT.of e) (.cons (.str _) (.cons (.str _) (.cons (.int _) (.cons (.int _) .nil)))), (tup_lay _ fun d md => ?_).1, by simp [PyData.depth, PyData.depthAll]⟩
    simp only [List.mem_cons, List.not_mem_nil, or_false] at md
    rcases md with rfl | rfl | rfl | rfl
    · exact nm_lay _ (by decide +kernel)
    · exact nm_lay _ (hr n h)
    · exact int_lay _
    · exact int_lay _
  | kind n a t m h =>
    refine ⟨.tuple [.str "kind", .str n, .int a, .int t, .int m], .tup (SqT.of e) (.cons (.str _) (.cons (.str _) (.cons (.int _) (.cons (.int _) (.cons (.int _) .nil))))), (tup_lay _ fun d md => ?_).1, by simp [PyData.depth, PyData.depthAll]⟩
    simp only [List.mem_cons, List.not_mem_nil, or_false] at md
    rcases md with rfl | rfl | rfl | rfl | rfl
    · exact nm_lay _ (by decide +kernel)
    · exact nm_lay _ (hn n h)
    · exact int_lay _
    · exact int_lay _
    · exact int_lay _
theorem needs_dp {K : PySem.W.Frag} {H : Hp} {rows names : List Str} (hr : ∀ n ∈ rows, n ∈ nmAll) (hn : ∀ n ∈ names, n ∈ nmAll) : ∀ {qs : List Addr} {its : List (List V)}, Paired (fun q it => H q = some (.tup it)) qs its → (∀ it ∈ its, NeedV rows names it) → ∃ ds, DpAll K H (qs.map V.ref) ds ∧ (∀ d ∈ ds, d.canLay0 = true) ∧ PyData.depthAll ds ≤ 1 ∧ ds.length = its.length
  | _, _, .nil, _ => ⟨[], .nil, fun _ z => (by cases z), by simp [PyData.depthAll], rfl⟩
  | _, _, .cons h r, n => by
    obtain ⟨d, h1, h2, h3⟩ := need_dp (K := K) hr hn (n _ (List.mem_cons_self ..)) h
    obtain ⟨ds, g1, g2, g3, g4⟩ := needs_dp (K := K) hr hn r fun it m => n it (List.mem_cons_of_mem _ m)
    exact ⟨d :: ds, .cons h1 g1, fun x m => by
      rcases List.mem_cons.mp m with c | c
      · rw [c]; exact h2
      · exact g2 x c, by rw [PyData.depthAll]; omega, by rw [List.length_cons, List.length_cons, g4]⟩
theorem shaped_list {ds : List PyData} (h : ∀ d ∈ ds, d.canLay0 = true) (d1 : PyData.depthAll ds ≤ 60) : SeqAt.shaped (.list ds) = true := by
  unfold SeqAt.shaped
  rw [(tup_lay ds h).2, Bool.true_and, decide_eq_true_eq, PyData.depth]
  omega
theorem eqv_empty : ∀ ds : List PyData, PyData.eqv (.list ds) (.list []) = decide (ds.length = 0)
  | [] => rfl
  | _ :: _ => rfl
section
variable {P : Program} {w : World} {K : PySem.W.Frag} {mg : Str → Option Value} {base : Heap}
abbrev nmLD : List Str := ["rulebook", "kinds", "found", "name", "keep", "bar", "grounds", "g", "ground", "bad", "need"]
end
end KaG


set_option maxRecDepth 100000
set_option maxHeartbeats 4000000
/-! the law's own: kinds by their names, whether a ground is met -/
namespace KaG
open PySem PySem.Spec PyProof.Rows L2 KaC
abbrev KdT (H : Hp) (t : Addr) (k : Kd) : Prop := ∃ (gt : Addr) (gas : List Addr), H t = some (.tup [.int k.keep, .int k.bar, .ref gt]) ∧ H gt = some (.tup (gas.map V.ref)) ∧ Paired (fun ga g => Grd H ga g) gas k.gs
theorem KdT.ts {H H' : Hp} {t : Addr} {k : Kd} (h : KdT H t k) (s : TSame H H') : KdT H' t k := by
  obtain ⟨gt, gas, e1, e2, p⟩ := h
  exact ⟨gt, gas, s _ _ e1, s _ _ e2, Paired.mono' (fun a b q => Grd.ts q s) p⟩
/-- the dict of the kinds by their names -/
structure KdsD (H : Hp) (d : Addr) (ks : List Kd) (ts : List Addr) : Prop where
  d : H d = some (.dK (kvsOf ks ts))
  t : Paired (KdT H) ts ks
theorem KdsD.same {H H' : Hp} {d : Addr} {ks : List Kd} {ts : List Addr} (h : KdsD H d ks ts) (s : Same H H') : KdsD H' d ks ts := ⟨s _ _ h.d, Paired.mono' (fun _ _ q => KdT.ts q (TSame.of s)) h.t⟩
def ndIsK : List V → Bool
  | [.str _, .str _, .int _, .int _, .int _] => true
  | _ => false
theorem met_eq {rows names : List Str} {ks : List Kd} {F : List Str} {g : Gr} (h : ∀ it ∈ g, NeedV rows names it) : decide (((g.filter ndIsK).filter fun it => !ndLive ks F it).length = 0) = grLive ks F g := by
  unfold grLive
  cases e : g.all (ndLive ks F) with
  | true =>
    have : (g.filter ndIsK).filter (fun it => !ndLive ks F it) = [] := List.filter_eq_nil_iff.mpr fun a m z => by
      have := List.all_eq_true.mp e a (List.mem_filter.mp m).1
      rw [this] at z
      cases z
    rw [this]
    rfl
  | false =>
    refine decide_eq_false fun z => ?_
    have nil := List.eq_nil_of_length_eq_zero z
    have : g.all (ndLive ks F) = true := List.all_eq_true.mpr fun it m => by
      cases q : ndLive ks F it with
      | true => rfl
      | false =>
        have nv := h it m
        have kk : ndIsK it = true := by
          cases nv with
          | row n t u h => exact absurd q (by intro z; cases z)
          | kind n a t u h => rfl
        have : it ∈ (g.filter ndIsK).filter fun it => !ndLive ks F it := List.mem_filter.mpr ⟨List.mem_filter.mpr ⟨m, kk⟩, by simp [q]⟩
        rw [nil] at this
        cases this
    rw [this] at e
    cases e
theorem kvs_keysN {ks : List Kd} {ts : List Addr} {R : Addr → Kd → Prop} (h : Paired R ts ks) : (kvsOf ks ts).map (·.1) = (ks.map Kd.name).map Sum.inr := kvs_keys (by rw [paired_len h]; exact Nat.le_refl _)
theorem inr_nodup {ns : List Str} (h : ns.Nodup) : (ns.map (Sum.inr : Str → Key)).Nodup := by
  rw [List.Nodup, List.pairwise_map]
  exact List.Pairwise.imp (fun ne z => ne (Sum.inr.inj z)) h
section
variable {P : Program} {w : World} {K : PySem.W.Frag} {mg : Str → Option Value} {base : Heap}
abbrev sKindsO : Stmt := top 40
theorem scKO : FnScope ["rulebook", "kind"] ["rulebook"] (defScope sKindsO) := ⟨rfl, rfl, rfl, by decide +kernel, rfl, by decide +kernel, by decide +kernel⟩
def spKindsO : Sp := fun vs H Q _ => ∃ (b : Addr) (rows : List Str) (ks : List Kd), vs = [.ref b] ∧ BookAt H b rows ks ∧ BookOk rows ks ∧ ∀ (d : Addr) (ts : List Addr) (H' : Hp), Same H H' → H d = none → KdsD H' d ks ts → Q (.ref d) H'
theorem ok_kindsO {f : Addr} {fd : FuncData} (F : Fun K "_law_kinds_of" "_law_kinds_of" sKindsO f fd) (T : TxtC mg) : FnOk P w K mg base CX0 1 f fd ["rulebook"] spKindsO := by
  refine F.ok scKO (fun vs H Q E h => ?_) (fun cdv A outer s H vs Q E hr h => ?_)
  · obtain ⟨b, rows, ks, rfl, _⟩ := h
    rfl
  · obtain ⟨b, rows, ks, rfl, hA, hO, k⟩ := h
    refine ⟨_, (pss_one (ps_ret (pe_callTy (call_dictP rfl) (by rfl) T.dct (by decide +kernel) (pa_cons (pe_lc (own := [("kind", 1)]) (g := gName 1) (by rfl) scKO.nd (pi_tup (pe_ix ix_tup (pv 0) pe_int (fun _ _ => rfl)))
          (blkOk_by (own := [("kind", 1)]) (N := ["rulebook", "kind"]) (sc := defScope sKindsO) (by decide +kernel)) (fun _ _ _ _ _ => pg_name (i := 1) scKO.nd rfl (Or.inl rfl)) (fun _ _ _ _ _ => pts_nil)
          (fun _ _ _ _ _ => pe_tup (pa_cons (pe_ix (r := rIxT K) ix_tup (pv 1) pe_int (fun _ _ => rfl)) (pa_cons (pe_slice (r := rSlT K) sl_tup (pv 1) (po_some pe_int) po_none) pa_nil)))) pa_nil)))), ?_⟩
    have hk5 := hO.k5
    obtain ⟨r, kt, kas, e1, e2, e3, pk⟩ := id hA
    have hlen := paired_len pk
    refine ⟨_, rfl, b, _, 1, .ref kt, rfl, rfl, SqT.of e1, rfl, kt, rfl, ⟨_, SqT.of e3⟩, fun D hD => lc_tup (K := K) (a := kt) (xs := kas.map V.ref) (fun i G => Same H G ∧ ∃ (ps ts : List Addr), G D = some (.lst (ps.map V.ref)) ∧ Paired (fun p (kv : Key × V) => G p = some (.tup [kV kv.1, kv.2])) ps (kvsOf (ks.take i) ts) ∧ Paired (KdT G) ts (ks.take i)) ?_ ?_ ?_ ?_⟩
    · exact ⟨same_upd hD, [], [], upd_same, .nil, .nil⟩
    · rintro i G _ ⟨S, _⟩
      exact SqT.of (S _ _ e3)
    · rintro i x G hx ⟨S, ps, ts, gD, pp, pt⟩
      rw [List.getElem?_map] at hx
      obtain ⟨ka, ha, rfl⟩ := Option.map_eq_some_iff.mp hx
      obtain ⟨kd, hkd, gt, gas, f1, f2, f3⟩ := paired_at pk ha
      have tk : ks.take (i + 1) = ks.take i ++ [kd] := by rw [List.take_add_one, hkd]; rfl
      have lt := paired_len pt
      have lp := paired_len pp
      rw [kvs_len lt] at lp
      have hi : i < ks.length := (List.getElem?_eq_some_iff.mp hkd).1
      rw [List.length_take] at lp
      refine ⟨rfl, ?_⟩
      unfold tYes
      dsimp only
      refine iteT ⟨_, rfl, ka, _, 0, .str kd.name, rfl, rfl, SqT.of (S _ _ f1), rfl, ?_⟩
      refine ⟨_, rfl, 1, rfl, ka, _, rfl, SqT.of (S _ _ f1), (fun z => absurd z.1 (by show HT.sIx 4 0 (some 1) ≠ 0; decide)), fun t nt => ⟨by show 2 ≤ sizeLine; decide, fun p np => ?_⟩⟩
      have ec : cutV [.str kd.name, .int kd.keep, .int kd.bar, .ref gt] (some 1) none = [.int kd.keep, .int kd.bar, .ref gt] := rfl
      rw [ec] at np ⊢
      have s1 := same_upd (o := .tup [.int kd.keep, .int kd.bar, .ref gt]) nt
      have s2 := same_upd (o := .tup [.str kd.name, .ref t]) np
      have s12 := KaG.Same.tr s1 s2
      have et : (upd (upd G t (.tup [.int kd.keep, .int kd.bar, .ref gt])) p (.tup [.str kd.name, .ref t])) t = some (.tup [.int kd.keep, .int kd.bar, .ref gt]) := s2 _ _ upd_same
      have ep : (upd (upd G t (.tup [.int kd.keep, .int kd.bar, .ref gt])) p (.tup [.str kd.name, .ref t])) p = some (.tup [.str kd.name, .ref t]) := upd_same
      have S3 := KaG.Same.tr S s12
      have gD3 := s12 _ _ gD
      have pp3 := Paired.mono' (fun p (kv : Key × V) (q : G p = some (.tup [kV kv.1, kv.2])) => s12 _ _ q) pp
      have pt3 := Paired.mono' (fun _ _ q => KdT.ts q (TSame.of s12)) pt
      generalize upd (upd G t (.tup [.int kd.keep, .int kd.bar, .ref gt])) p (.tup [.str kd.name, .ref t]) = G3 at et ep S3 gD3 pp3 pt3 ⊢
      have tsl : TSame G3 (upd G3 D (.lst (ps.map V.ref ++ [.ref p]))) := ts_lst gD3
      refine ⟨_, gD3, small1000 (by rw [List.length_map]; omega), fun b u e => by rw [upd_ne (ne_of_none e hD)]; exact S3 b u e, ps ++ [p], ts ++ [t], by rw [upd_same, List.map_append]; rfl, ?_, ?_⟩
      · rw [tk, kvs_snoc lt.symm]
        exact paired_snoc (R := fun p2 (kv : Key × V) => (upd G3 D (.lst (ps.map V.ref ++ [.ref p]))) p2 = some (.tup [kV kv.1, kv.2])) (x := p) (y := (Sum.inr kd.name, V.ref t)) (tsl _ _ ep) (Paired.mono' (fun p (kv : Key × V) (q : G3 p = some (.tup [kV kv.1, kv.2])) => tsl _ _ q) pp3)
      · rw [tk]
        exact paired_snoc (KdT.ts ⟨gt, gas, et, S3 _ _ f2, Paired.mono' (fun a b q => Grd.ts q (TSame.of S3)) f3⟩ tsl) (Paired.mono' (fun _ _ q => KdT.ts q tsl) pt3)
    · rintro G ⟨S, ps, ts, gD, pp, pt⟩
      rw [List.length_map, hlen, List.take_length] at pp pt
      refine ⟨D, ps, _, rfl, SqL.of gD, Paired.mono' (fun p kv q => SqT.of q) pp, fun d nd => ?_⟩
      have nk : ((([] : List (Key × V)) ++ kvsOf ks ts).map (·.1)).Nodup := by
        rw [List.nil_append, kvs_keysN pt]
        exact inr_nodup hO.nm.nd
      have s2 := same_upd (o := .dK (mergeK [] (kvsOf ks ts))) nd
      refine k d ts _ (KaG.Same.tr S s2) (same_non S d nd) ⟨?_, Paired.mono' (fun _ _ q => KdT.ts q (TSame.of s2)) pt⟩
      rw [upd_same, merge_new _ _ nk, List.nil_append]
end
end KaG


set_option maxRecDepth 100000
set_option maxHeartbeats 4000000
namespace KaG
open PySem PySem.Spec PyProof.Rows L2 KaC
section
variable {P : Program} {w : World} {K : PySem.W.Frag} {mg : Str → Option Value} {base : Heap}
abbrev nmMt : List Str := ["kinds", "found", "ground", "some", "need"]
def spIsMet : Sp := fun vs H Q _ => ∃ (d fa ga : Addr) (rows : List Str) (ks : List Kd) (ts : List Addr) (F : List Str) (g : Gr), vs = [.ref d, .ref fa, .ref ga] ∧ KdsD H d ks ts ∧ BookOk rows ks ∧ Sq2 H fa (F.map V.str) ∧ Grd H ga g ∧ GrOk rows (nmsOf ks) g ∧ ∀ H', Same H H' → Q (.bl (grLive ks F g)) H'
end
end KaG


set_option maxRecDepth 100000
set_option maxHeartbeats 2000000
namespace KaG
open PySem PySem.Spec PyProof.Rows L2
theorem ifF {c : Bool} {a b : Prop} (h : c = false) (q : b) : if c = true then a else b := by rw [if_neg (by rw [h]; decide)]; exact q
theorem ifT {c : Bool} {a b : Prop} (h : c = true) (q : a) : if c = true then a else b := by rw [if_pos h]; exact q
section
variable {P : Program} {w : World} {K : PySem.W.Frag} {mg : Str → Option Value} {base : Heap}
structure WdT (K : PySem.W.Frag) (mg : Str → Option Value) (R W : Addr) : Prop where
  r : mg "ROW_WORDS" = some (.ref R)
  k : mg "KIND_WORDS" = some (.ref W)
  tr : ∃ o, K.lookup R = some o ∧ o.cls = .type "tuple" ∧ o.dict = none
  tk : ∃ o, K.lookup W = some o ∧ o.cls = .type "tuple" ∧ o.dict = none
  hr : ∀ H, SqT K H R (([Str.ofString "tell", Str.ofString "most"]).map V.str)
  hk : ∀ H, SqT K H W (([Str.ofString "after", Str.ofString "tell", Str.ofString "most"]).map V.str)
def spWordsOf (R W : Addr) : Sp := fun vs H Q _ => ∃ (na : Addr) (rows names : List Str) (its : List V), vs = [.ref na] ∧ H na = some (.tup its) ∧ NeedV rows names its ∧ (its.head? = some (.str "row") → Q (.ref R) H) ∧ (its.head? = some (.str "kind") → Q (.ref W) H)
/-- the number of a dial -/
def wix (L : Nat) (w : Str) : Nat := if w = "after" then 2 else if w = "tell" then L - 2 else L - 1
def numOf (ks : List Kd) : Dial → Int → Prop
  | .nm n w, z => ∃ k ∈ ks, k.name = n ∧ z = if w = "keep" then k.keep else k.bar
  | .pl p w, z => ∃ its, needAt ks p its ∧ its[wix its.length w]? = some (.int z)
def spNumAt : Sp := fun vs H Q _ => ∃ (b a : Addr) (rows : List Str) (ks : List Kd) (d : Dial), vs = [.ref b, .ref a] ∧ BookAt H b rows ks ∧ BookOk rows ks ∧ DlAt H a d ∧ DialOk ks d ∧ ∀ z : Int, numOf ks d z → Q (.int z) H
end
end KaG


set_option maxRecDepth 100000
set_option maxHeartbeats 2000000
namespace KaG
open PySem PySem.Spec PyProof.Rows L2
theorem one_of {ks : List Kd} (nd : (ks.map Kd.name).Nodup) {k1 k2 : Kd} (h1 : k1 ∈ ks) (h2 : k2 ∈ ks) (e : k1.name = k2.name) : k1 = k2 := by
  obtain ⟨i, hi⟩ := List.getElem?_of_mem h1
  obtain ⟨j, hj⟩ := List.getElem?_of_mem h2
  have a1 : (ks.map Kd.name)[i]? = some k1.name := by rw [List.getElem?_map, hi]; rfl
  have a2 : (ks.map Kd.name)[j]? = some k1.name := by rw [List.getElem?_map, hj, e]; rfl
  have ij : i = j := (List.getElem?_inj (List.getElem?_eq_some_iff.mp a1).1 nd).mp (a1.trans a2.symm)
  subst ij
  rw [hi] at hj
  exact Option.some.inj hj
theorem needAt_one {ks : List Kd} (nd : (ks.map Kd.name).Nodup) {p : Plc} {x y : List V} (h1 : needAt ks p x) (h2 : needAt ks p y) : x = y := by
  obtain ⟨k1, m1, n1, g1, a1, b1⟩ := h1
  obtain ⟨k2, m2, n2, g2, a2, b2⟩ := h2
  have := one_of nd m1 m2 (n1.trans n2.symm)
  subst this
  rw [a1] at a2
  cases a2
  rw [b1] at b2
  exact Option.some.inj b2
/-- a dial has one number -/
theorem numOf_one {ks : List Kd} (nd : (ks.map Kd.name).Nodup) {d : Dial} {x y : Int} (h1 : numOf ks d x) (h2 : numOf ks d y) : x = y := by
  cases d with
  | nm n w =>
    obtain ⟨k1, m1, n1, e1⟩ := h1
    obtain ⟨k2, m2, n2, e2⟩ := h2
    have := one_of nd m1 m2 (n1.trans n2.symm)
    subst this
    rw [e1, e2]
  | pl p w =>
    obtain ⟨i1, a1, b1⟩ := h1
    obtain ⟨i2, a2, b2⟩ := h2
    have := needAt_one nd a1 a2
    subst this
    rw [b1] at b2
    exact V.int.inj (Option.some.inj b2)
section
variable {P : Program} {w : World} {K : PySem.W.Frag} {mg : Str → Option Value} {base : Heap}
def spNumsAt : Sp := fun vs H Q _ => ∃ (b t : Addr) (rows : List Str) (ks : List Kd) (as : List Addr), vs = [.ref b, .ref t] ∧ BookAt H b rows ks ∧ BookOk rows ks ∧ H t = some (.tup (as.map V.ref)) ∧ DlsAt H ks as ∧ as.length ≤ 900 ∧
  ∀ (p : Addr) (zs : List Int) (H' : Hp), Same H H' → H p = none → H' p = some (.tup (zs.map V.int)) → Paired (fun a z => ∃ d, DlAt H a d ∧ numOf ks d z) as zs → Q (.ref p) H'
end
end KaG


set_option maxRecDepth 100000
set_option maxHeartbeats 4000000
namespace KaG
open PySem PySem.Spec PyProof.Rows L2 KaC
section
variable {P : Program} {w : World} {K : PySem.W.Frag} {mg : Str → Option Value} {base : Heap}
abbrev nmNB : List Str := ["rulebook", "dial", "kinds", "where", "word", "need"]
def spNumberAt : Sp := fun vs H Q _ => ∃ (b a : Addr) (rows : List Str) (ks : List Kd) (d : Dial), vs = [.ref b, .ref a] ∧ BookAt H b rows ks ∧ BookOk rows ks ∧ DlAt H a d ∧ DialOk ks d ∧ ∀ (z : Int) (H' : Hp), Same H H' → numOf ks d z → Q (.int z) H'
end
end KaG


set_option maxRecDepth 100000
set_option maxHeartbeats 4000000
namespace KaG
open PySem PySem.Spec PyProof.Rows L2 KaC
/-- what a first clause `except x as n` that takes all that comes wishes of it -/
def wA (K : PySem.W.Frag) (c : Value) (i : Nat) (ts : Addr → Value → Option Addr → TS) (D : Ends) : WX := fun cls d σ H =>
  PySem.W.exmOne K cls c = some true ∧ ∀ a, H a = none → ts a cls d ⟨fun τ G => D.nx (τ.set i none) G, D.rt, fun τ G => D.bk (τ.set i none) G, fun τ G => D.ct (τ.set i none) G⟩ (σ.set i (some (.ref a))) H
section
variable {X : Cx} {x n : Str} {c : Value} {i : Nat}
/-- the first of several clauses takes all that comes: the others are never asked -/
theorem ps_try_first {more : List ExceptHandler} {body suite : List Stmt} {b0 : Stmt} {p1 p2 p3 : Pos} {tb : WX → TS} {ts : Addr → Value → Option Addr → TS} (hs : X.stack = X.env :: X.outer) (hf : X.env.frame = some X.env.locals)
    (hN : X.N.Nodup) (hi : X.N[i]? = some n) (hl : X.env.kindOf n = some .local) (hc : Names X x c)
    (hb : ∀ (W : WX) (q : List (Addr × Obj)) (xe : Value → Shared → Prop), Takes (X.tr q xe) W → PassesOwn (model X.prog X.w) X.A X.env xe → PSs (X.tr q xe) body (tb W))
    (hq : ∀ (a : Addr) (o : Obj) (cls : Value) (d : Option Addr) (q : List (Addr × Obj)), Zc cls d o → (∃ vs, o.data = .fields vs) → PSs (X.suite a ((a, o) :: q)) (b0 :: suite) (ts a cls d)) :
    PS X (.Try body (.ExceptHandler (some (.Name x p1)) (some n) (b0 :: suite) p2 :: more) [] [] p3) (fun D σ H => tb (wA X.K c i ts D) D σ H) := by
  constructor
  intro pins s σ H D I hw
  have ok := I.ok
  have fr : X.A.frames = some (X.env :: X.outer) := ok.frames.trans (congrArg some hs)
  apply wpAny_Try_except
  refine wpAny_mono (PSs.run (hb (wA X.K c i ts D) (X.pn ++ pins) _ ?land PassesOwn.looking) [] s σ H D (I.toTry _) hw) (fun f s1 q => ?ends) (fun _ _ q => q)
  case ends =>
    cases f with
    | next => exact let ⟨σ1, H1, J, q1⟩ := q; wpAny_execs_nil ⟨σ1, H1, J.ofTry ok, q1⟩
    | brk => exact let ⟨σ1, H1, J, q1⟩ := q; ⟨σ1, H1, J.ofTry ok, q1⟩
    | cont => exact let ⟨σ1, H1, J, q1⟩ := q; ⟨σ1, H1, J.ofTry ok, q1⟩
    | ret u => exact let ⟨v, σ1, H1, J, r, q1⟩ := q; ⟨v, σ1, H1, J.ofTry ok, r, q1⟩
  case land =>
    rintro u s1 ⟨a, B, s0, ps, σ1, H1, cls, d, rfl, J0, nb, up, sk, na, os, ag, yes, go⟩
    have J : Inv X pins σ1 H1 s0 := J0.ofTry ok
    rw [show (X.tr _ _).stack = X.env :: X.outer from hs] at sk
    change wpAny _ X.A (noteFrame (.ref a) X.env) _ _ _
    refine Sky.land Zc.steady fr hf sk fun h3 fl u3 => ?_
    have J3 : Inv X pins σ1 H1 { s1 with heap := h3 } := J.landed nb fl.1 (up.trans u3) os ag
    obtain ⟨oe, vs, g3, z3, d3⟩ := fl.there
    have out : a ∉ frs (X.env :: X.outer) := by
      intro m
      obtain ⟨_, o, g, hn⟩ := fl.2.2.1.mem m
      cases g3.symm.trans g
      exact hn _ d3
    have o1 : a ≠ X.env.locals := by
      rintro rfl
      exact out (List.mem_filterMap.mpr ⟨X.env, List.mem_cons_self, hf⟩)
    have o2 : a ∉ X.fs := by
      intro m
      obtain ⟨e, me, q⟩ := List.mem_filterMap.mp m
      exact out (List.mem_filterMap.mpr ⟨e, List.mem_cons_of_mem _ me, q⟩)
    have S3 := J3.suite g3 d3 na o1 o2
    have LM := PySem.W.exm_one (M := model X.prog X.w) J3.kIn (fun A Q E s k q => wpAny_typeOf_ref (k _ _ g3) (by rw [z3.1]; exact q)) yes
    have look : ∀ {Q E : Value → Shared → Prop}, Q c { s1 with heap := h3 } → wpAny (model X.prog X.w) (X.A.mark (some (.ref a))) (eval (.Name x p1) X.env) Q E { s1 with heap := h3 } := by
      intro Q E q
      rcases hc with ⟨hg, hd, hm | ⟨hm, hv, hn⟩⟩
      · exact ld_glob (X := X.suite a ((a, oe) :: (X.pn ++ pins))) S3 hg hm q hd
      · exact ld_blt (X := X.suite a ((a, oe) :: (X.pn ++ pins))) S3 hg hm hv q hn hd
    refine wpAny_handleBy_cons (codeAny_handlers_test (look (LM.here ?_))) (by intro z; cases z)
    refine codeAny_handlers_suite_as (HandSPX.lands_againZ fl fun h4 fl4 u4 => ?_)
    have J4 : Inv X pins σ1 H1 { s1 with heap := h4 } := J.landed nb fl4.1 ((up.trans u3).trans u4) os ag
    obtain ⟨o4, vs4, g4, z4, d4⟩ := fl4.there
    refine store_ok (X := X.suite a ((a, o4) :: (X.pn ++ pins))) (v := .ref a) (J4.suite g4 d4 na o1 o2) hN hi (.inl hl) rfl (fun s5 S5 => ?_) (.inr hl)
    refine wpAny_mono (PSs.run (hq a o4 cls d (X.pn ++ pins) z4 ⟨_, d4⟩) [] s5 _ H1 _ S5 (go a na)) (fun f s6 q => ?_) (fun _ _ z => z.elim)
    cases f with
    | next => exact let ⟨τ, G, S6, q6⟩ := q; gone_ok (S6.unsuite ok) hN hi hl fun s7 J7 => ⟨_, _, J7, q6⟩
    | brk => exact let ⟨τ, G, S6, q6⟩ := q; gone_ok (S6.unsuite ok) hN hi hl fun s7 J7 => ⟨_, _, J7, q6⟩
    | cont => exact let ⟨τ, G, S6, q6⟩ := q; gone_ok (S6.unsuite ok) hN hi hl fun s7 J7 => ⟨_, _, J7, q6⟩
    | ret u => exact let ⟨v, τ, G, S6, r6, q6⟩ := q; gone_ok (S6.unsuite ok) hN hi hl fun s7 J7 => ⟨_, _, _, J7, r6, q6⟩
end
end KaG


set_option maxRecDepth 100000
set_option maxHeartbeats 4000000
namespace KaG
open PySem PySem.Spec PyProof.Rows L2 KaC
section
variable {H : Hp} {CW CW' : Addr} {NW NW' : Str}
theorem in_listText {ts : List Str} {t : Str} (m : t ∈ ts) : t.length ≤ (listText ts).length := by
  have h := (textFrom_len ts 0 "[").2.1 t m
  show t.length ≤ (textFrom 0 "[" ts ++ "]").length
  rw [strLen_append]
  omega
theorem in_piled : ∀ {ts : List Str} {t : Str}, t ∈ ts → t.length ≤ piled ts
  | x :: r, t, m => by
    rw [piled_cons]
    rcases List.mem_cons.mp m with z | z
    · rw [z]; omega
    · have := in_piled z; omega
theorem in_dictText {ts : List Str} {t : Str} (m : t ∈ ts) : t.length ≤ (dictText ts).length := Nat.le_trans (in_piled m) (piled_le_dictText ts)
theorem in_tupleText {ts : List Str} {t : Str} (m : t ∈ ts) : t.length ≤ (tupleText ts).length := by
  have h1 := join_length_add ts (List.ne_nil_of_mem m)
  have h2 : t.length + 2 ≤ piled ts := by
    clear h1
    induction ts with
    | nil => cases m
    | cons x r ih =>
      rw [piled_cons]
      rcases List.mem_cons.mp m with z | z
      · rw [z]; omega
      · have := ih z; omega
  unfold tupleText
  rw [strLen_append, strLen_append]
  omega
mutual
theorem Sh.safe (hN : 200 < NW.length) {as : List Addr} {d : Nat} {v : V} {t : Str} : Sh H CW NW as d v t → t.length ≤ 200 → Sh H CW' NW' as d v t
  | .non, _ => .non
  | .bl b, _ => .bl b
  | .int i h, _ => .int i h
  | .str x, _ => .str x
  | .lst e a b c i, l => .lst e a b c (ShA.safe hN i fun t m => Nat.le_trans (in_listText m) l)
  | .tup e a b c i, l => .tup e a b c (ShA.safe hN i fun t m => Nat.le_trans (in_tupleText m) l)
  | .dct e a b c i, l => .dct e a b c (ShD.safe hN i fun t m => Nat.le_trans (in_dictText m) l)
  | .exc _ _ _ _ _ _ _, l => by
    simp only [strLen_append] at l
    omega
theorem ShA.safe (hN : 200 < NW.length) {as : List Addr} {d : Nat} {vs : List V} {ts : List Str} : ShA H CW NW as d vs ts → (∀ t ∈ ts, t.length ≤ 200) → ShA H CW' NW' as d vs ts
  | .nil, _ => .nil
  | .cons h r, l => .cons (Sh.safe hN h (l _ (List.mem_cons_self ..))) (ShA.safe hN r fun t m => l t (List.mem_cons_of_mem _ m))
theorem ShD.safe (hN : 200 < NW.length) {as : List Addr} {d : Nat} {kvs : List (Key × V)} {ps : List Str} : ShD H CW NW as d kvs ps → (∀ t ∈ ps, t.length ≤ 200) → ShD H CW' NW' as d kvs ps
  | .nil, _ => .nil
  | .cons h r, l => .cons (Sh.safe hN h (by
      have z := l _ (List.mem_cons_self ..)
      rw [strLen_append] at z
      omega)) (ShD.safe hN r fun t m => l t (List.mem_cons_of_mem _ m))
end
/-- what stands behind a value: one of the plain kinds -/
inductive Pln (H : Hp) : V → Prop
  | non : Pln H .non
  | bl (b : Bool) : Pln H (.bl b)
  | int (i : Int) : Pln H (.int i)
  | str (x : Str) : Pln H (.str x)
  | lst {a : Addr} {xs : List V} (e : H a = some (.lst xs)) : Pln H (.ref a)
  | tup {a : Addr} {xs : List V} (e : H a = some (.tup xs)) : Pln H (.ref a)
  | dct {a : Addr} {kvs : List (Key × V)} (e : H a = some (.dK kvs)) : Pln H (.ref a)
theorem Sh.pln (hN : 200 < NW.length) {as : List Addr} {d : Nat} {v : V} {t : Str} (h : Sh H CW NW as d v t) (l : t.length ≤ 200) : Pln H v := by
  cases h with
  | non => exact .non
  | bl b => exact .bl b
  | int i h => exact .int i
  | str x => exact .str x
  | lst e => exact .lst e
  | tup e => exact .tup e
  | dct e => exact .dct e
  | exc =>
    simp only [strLen_append] at l
    omega
end
section
variable {A : Around} {s : Shared}
theorem str_dict_decl (b : Str) (u : Tok) (l : Addr) (es : _) (n : _) (dd : Option Addr) (sl : Array (Option Value)) :
    Meets (Builtin.«str.__eq__» ⟨[.str b u, .ref l], []⟩) (fun _ R s => s.heap.get? l = some { cls := .type "dict", dict := dd, data := .dict es n, slots := sl } ∧ R (.ok (.ret .notImplemented)) s) := by
  refine .of_wp fun prog w A R s h => ?_
  obtain ⟨hp, g, d, tk, os⟩ := s
  obtain ⟨hl, h⟩ := h
  wp_walk using wpAny_loadPart' hl, wpAny_load hl
  exact ⟨_, rfl, h⟩
theorem dict_str_decl (b : Str) (u : Tok) (l : Addr) (es : _) (n : _) (dd : Option Addr) (sl : Array (Option Value)) :
    Meets (Builtin.«dict.__eq__» ⟨[.ref l, .str b u], []⟩) (fun _ R s => s.heap.get? l = some { cls := .type "dict", dict := dd, data := .dict es n, slots := sl } ∧ R (.ok (.ret .notImplemented)) s) := by
  refine .of_wp fun prog w A R s h => ?_
  obtain ⟨hp, g, d, tk, os⟩ := s
  obtain ⟨hl, h⟩ := h
  wp_walk using wpAny_loadPart' hl, wpAny_load hl
  refine wpAny_of_eq PySem.F.sub_str_dict ?_
  wp_walk
  exact ⟨_, rfl, h⟩
theorem rc_str_dict {l : Addr} {o : Obj} {es : _} {n : _} (b : Str) (u : Tok) (ho : s.heap.get? l = some o) (hc : o.cls = .type "dict") (hd : o.data = .dict es n) (hu : A.units < cLine) : SeqAt.RcAt A s (.str b u) (.ref l) false := fun prog w E Q h => by
  obtain ⟨cls, dd, data, sl⟩ := o
  cases hc
  cases hd
  refine SeqAt.rc_eq_decline_or (k := false) (typeIs_str s b u) ⟨_, ho, rfl⟩ (by decide) PySem.F.sub_dict_str PySem.F.slot_str_eq PySem.F.slot_dict_eq_refl
    (fun _ hq => call_meets PySem.F.slot_str_eq (typeIs_str s b u) PySem.F.entry_str_eq (PySem.F.args_str_eq_2 _ _) (str_dict_decl b u l es n dd sl) ⟨ho, hq⟩)
    (fun _ hq => ?_) (fun _ hq => wpAny_of_eq (rfl : isSame (.str b u) (.ref l) = pure false) hq) (.inr hu) h
  exact call_meets PySem.F.slot_dict_eq_refl ⟨_, ho, rfl⟩ PySem.F.entry_dict_eq (PySem.F.args_dict_eq_2 _ _) (dict_str_decl b u l es n dd sl) ⟨ho, hq⟩
end
end KaG


set_option maxRecDepth 100000
set_option maxHeartbeats 4000000
namespace KaG
open PySem PySem.Spec PyProof.Rows L2 KaC
section
variable {X : Cx}
/-- a text == any plain value -/
def rEqS : R2 := fun x y H Q => ∃ n, x = .str n ∧ Pln H y ∧ Q (.bl (decide (y = .str n))) H
theorem op_eqS (hu : X.A.units + 64 < cLine) : OpR X (compareOp .Eq) rEqS := by
  intro pins s σ H x y v u Q I rx ry h
  obtain ⟨n, rfl, hp, q⟩ := h
  have off : (∀ w : V, y ≠ .str n → (decide (y = .str n)) = false) := fun w z => decide_eq_false z
  have flat : scal (.str n) y = true → wpAny (model X.prog X.w) X.A (compareOp .Eq v u) (EP X pins σ Q) X.xe s := fun hk => by
    refine op_eq pins s σ H _ _ v u Q I rx ry ⟨hk, ?_⟩
    rw [show decide ((V.str n) = y) = decide (y = .str n) from decide_eq_decide.mpr ⟨fun z => z.symm, fun z => z.symm⟩]
    exact q
  obtain ⟨tk, e⟩ := (show ∃ t, v = Value.str n t from rx)
  subst e
  cases hp with
  | non => exact flat rfl
  | bl b => exact flat rfl
  | int i => exact flat rfl
  | str z => exact flat rfl
  | @lst a xs e =>
    cases (show u = Value.ref a from ry)
    obtain ⟨us, r1, p1, _⟩ := I.list (SqL.of e)
    exact SeqAt.RcAt.str_list n tk p1.isList (by omega) _ _ _ _ ⟨.bl false, H, I, rfl, q⟩
  | @tup a xs e =>
    cases (show u = Value.ref a from ry)
    obtain ⟨_, its, rv, o, ho, hc, m, hd'⟩ := (show ObjOk X.prog X.w H s.heap a (.tup xs) from I.hok a _ e)
    have it : s.heap.IsTuple a its.toArray := ⟨o, ho, hc, m, hd'⟩
    exact SeqAt.RcAt.str_tuple n tk it (by omega) _ _ _ _ ⟨.bl false, H, I, rfl, q⟩
  | @dct a kvs e =>
    cases (show u = Value.ref a from ry)
    obtain ⟨_, hsys, vs, kv, o, es, ep, ho, hx, hd', _, hp, _⟩ := (show ObjOk X.prog X.w H s.heap a (.dK kvs) from I.hok a _ e)
    exact rc_str_dict n tk ho hx.1 hd' (by omega) _ _ _ _ ⟨.bl false, H, I, rfl, q⟩
end
end KaG


set_option maxRecDepth 100000
set_option maxHeartbeats 4000000
namespace KaG
open PySem PySem.Spec PyProof.Rows L2 KaC
section
variable {X : Cx}
theorem ps_nox {st : Stmt} {t : TS} (h : PS X.nox st t) : PS X st t := ⟨fun pins s σ H D I w => wpAny_mono (h.run pins s σ H D (I.wish _) w) (fun _ _ q => q.unwish) (fun _ _ z => z.elim)⟩
end
/-- the one store of an own exception's __init__ -/
def spRz1 (K : PySem.W.Frag) (f : Str) (C : Addr) : Sp := fun vs H Q _ => ∃ (a : Addr) (v : V), vs = [.ref a, v] ∧ H a = some (exo a C none) ∧ OexC K C ∧ PySem.W.findIn K (.ref C) f = some none ∧
  ∀ dx, H dx = none → dx ≠ a → Q .non (upd (upd H dx (exd dx [(f, v)])) a (exo a C (some dx)))
theorem mk_same {H : Hp} {a C dx : Addr} {fs : List (Str × V)} (n1 : H a = none) (n2 : upd H a (exo a C none) dx = none) (ne : dx ≠ a) (o : HO) : Same H (upd (del (upd (upd (upd H a (exo a C none)) dx o) a (exo a C (some dx))) a) dx (.xd fs)) := fun b u e => by
  rw [upd_ne ne] at n2
  rw [upd_ne (ne_of_none e n2), del_ne (ne_of_none e n1), upd_ne (ne_of_none e n1), upd_ne (ne_of_none e n2), upd_ne (ne_of_none e n1)]
  exact e
section
variable {P : Program} {w : World} {K : PySem.W.Frag} {mg : Str → Option Value} {base : Heap}
theorem ok_rz1 {f : Str} {C : Addr} {qual : Str} {st : Stmt} {fI : Addr} {fd : FuncData} {p1 p2 p3 p4 : Pos} (F : Fun K "__init__" qual st fI fd) (sc : FnScope ["self", f] ["self", f] (defScope st)) (hb : defBody st = [.Assign [.Attribute (.Name "self" p1) f p2] (.Name f p3) p4])
    (h1 : (f == ("__debug__" : Str)) = false) (h2 : (f == ("__classdict__" : Str)) = false) : FnOk P w K mg base CX0 1 fI fd ["self", f] (spRz1 K f C) := by
  refine F.ok sc (fun vs H Q E h => ?_) (fun cdv A outer s H vs Q E hr h => ?_)
  · obtain ⟨a, v, rfl, _⟩ := h
    rfl
  · obtain ⟨a, v, rfl, ea, T, nf, k⟩ := h
    rw [hb]
    have vis : ∀ x, x ∈ (["self", f] : List Str) → Vis (defScope st) x := fun x m => (sc.par x m).elim .inl fun z => .inr (.inl z)
    refine ⟨_, pss_one (ps_ost (pe_var (i := 0) rfl (vis _ (by simp))) (pe_var (i := 1) rfl (vis _ (by simp)) h1 h2)), ?_⟩
    exact ⟨_, rfl, _, rfl, a, C, rfl, T, nf, .inl ⟨ea, fun dx n ne => k dx n ne⟩⟩
/-- what is told of the class NoKind -/
structure NkT (P : Program) (w : World) (K : PySem.W.Frag) (mg : Str → Option Value) (base : Heap) (C fI : Addr) (fd : FuncData) : Prop where
  m : mg "NoKind" = some (.ref C)
  o : OexC K C
  xf : XfC K C
  nf : PySem.W.findIn K (.ref C) "name" = some none
  iC : PySem.W.findIn K (.ref C) "__init__" = some (some (.ref fI))
  tI : PySem.W.typeIn K (.ref fI) = some (.type "function")
  G : FnOk P w K mg base CX0 1 fI fd ["self", "name"] (spRz1 K "name" C)
  b : Binds K fd ["self", "name"] []
  te : PySem.W.exmOne K (.ref C) (.ref C) = some true
/-- kind_of, of any plain value -/
def spKindX (C : Addr) : Sp := fun vs H Q E => ∃ (b : Addr) (rows : List Str) (ks : List Kd) (kas : List Addr) (v : V), vs = [.ref b, v] ∧ BookAt H b rows ks ∧ KasOf H b kas ∧ (ks.map Kd.name).Nodup ∧ Pln H v ∧
  (∀ (i : Nat) (k : Kd) (ka : Addr), ks[i]? = some k → kas[i]? = some ka → v = .str k.name → Q (.ref ka) H) ∧
  ((∀ k ∈ ks, v ≠ .str k.name) → ∀ (dx : Addr) (H' : Hp), Same H H' → H dx = none → H' dx = some (.xd [("name", v)]) → E (.ref C) (some dx) H')
theorem ok_kindX {C fI : Addr} {f : Addr} {fdI fd : FuncData} (F : Fun K "kind_of" "kind_of" sKindOf f fd) (N : NkT P w K mg base C fI fdI) : FnOk P w K mg base (L2.CX P w) 3 f fd ["rulebook", "name"] (spKindX C) := by
  refine F.okX scKindOf (fun vs H Q E h => ?_) (fun cdv A outer s H vs Q E hr h => ?_)
  · obtain ⟨b, rows, ks, kas, v, rfl, _⟩ := h
    rfl
  · obtain ⟨b, rows, ks, kas, v, rfl, hA, hK, nd, hp, q, qe⟩ := h
    have hu : (A.deeper (envOfC "kind_of" (defScope sKindOf) s.heap.objs.size f cdv)).units + 64 < cLine := by have := hr.3; omega
    refine ⟨_, (pss_cons (ps_nox (ps_for PassesOwn.never rfl (pi_tup (pe_ix ix_tup (pv 0) pe_int (fun _ _ => rfl))) (pg_name (i := 2) scKindOf.nd rfl (Or.inl rfl)) (pss_one (ps_if (pt_cmpR (op_eqS hu) (pe_ix ix_tup (pv 2) pe_int (fun _ _ => rfl)) (pv 1) (nomark _)) (pss_one (ps_ret (pv 2))) pss_nil))))
      (pss_one (ps_raise rfl (takes_of rfl rfl rfl rfl) (pmk_oex N.o N.iC N.tI N.G hr N.b .nil pass0 (by rfl) N.m (pa_cons (pv 1) pa_nil))))), ?_⟩
    obtain ⟨r, kt, kas', e1, e2, e3, pk⟩ := id hA
    obtain ⟨r', kt', g1, g2⟩ := hK
    rw [e1] at g1
    cases g1
    rw [e3] at g2
    obtain rfl : kas' = kas := refs_inj (HO.tup.inj (Option.some.inj g2))
    have hlen := paired_len pk
    refine ⟨_, rfl, b, _, 1, .ref kt, rfl, rfl, SqT.of e1, rfl, kt, rfl, ⟨_, SqT.of e3⟩, for_tup (K := K) (a := kt) (xs := kas'.map V.ref) (fun j σ' G => G = H ∧ (∀ k ∈ (ks.take j : List Kd), v ≠ .str k.name) ∧ ∃ x2 : Option V, σ' = [some (.ref b), some v, x2]) ?_ ?_ ?_ ?_⟩
    · exact ⟨rfl, (fun _ z => nomatch z), _, rfl⟩
    · rintro j σ' G _ ⟨rfl, _⟩
      exact SqT.of e3
    · rintro j x σ' G hx ⟨rfl, hj, x2, rfl⟩
      rw [List.getElem?_map] at hx
      obtain ⟨a, ha, rfl⟩ := Option.map_eq_some_iff.mp hx
      obtain ⟨kd, hkd, gt, gas, f1, _⟩ := paired_at pk ha
      refine ⟨_, rfl, a, _, 0, .str kd.name, rfl, rfl, SqT.of f1, rfl, _, rfl, kd.name, rfl, hp, _, rfl, ite2 (fun hc => ?_) fun hc => ?_⟩
      · exact ⟨_, rfl, q j kd a hkd ha (of_decide_eq_true hc)⟩
      · refine ⟨rfl, fun k m => ?_, _, rfl⟩
        rw [List.take_add_one, hkd] at m
        rcases List.mem_append.mp m with z | z
        · exact hj k z
        · rw [List.mem_singleton.mp z]
          exact fun y => hc (decide_eq_true y)
    · rintro σ' G ⟨rfl, hj, x2, rfl⟩
      rw [List.length_map, hlen, List.take_length] at hj
      refine ⟨_, rfl, by show 1 ≤ 1000; decide, fun a na => ⟨a, v, rfl, upd_same, N.o, N.nf, fun dx nd' ne => ⟨rfl, dx, [("name", v)], upd_same, by rw [upd_ne ne, upd_same], by rw [upd_ne ne] at nd'; exact nd', ?_⟩⟩⟩
      exact qe hj dx _ (mk_same (fs := [("name", v)]) na nd' ne (exd dx [("name", v)])) (by rw [upd_ne ne] at nd'; exact nd') upd_same
end
end KaG


set_option maxRecDepth 100000
set_option maxHeartbeats 4000000
namespace KaG
open PySem PySem.Spec PyProof.Rows L2 KaC
section
variable {P : Program} {w : World} {K : PySem.W.Frag} {mg : Str → Option Value} {base : Heap}
abbrev nmHd : List Str := ["rulebook", "name", "error"]
def tsH (C : Addr) : Addr → Value → Option Addr → TS := fun a cls d => tRet (tTup (tCons (tC (.str "no kind")) (tCons (tXf a cls d C "name" (tVar 2)) tNil)))
def spHeard : Sp := fun vs H Q _ => ∃ (b : Addr) (rows : List Str) (ks : List Kd) (kas : List Addr) (v : V), vs = [.ref b, v] ∧ BookAt H b rows ks ∧ KasOf H b kas ∧ (ks.map Kd.name).Nodup ∧ Pln H v ∧
  (∀ (i : Nat) (k : Kd) (ka : Addr), ks[i]? = some k → kas[i]? = some ka → v = .str k.name → ∀ (p : Addr) (H' : Hp), Same H H' → H p = none → H' p = some (.tup [.str "told", .ref ka]) → Q (.ref p) H') ∧
  ((∀ k ∈ ks, v ≠ .str k.name) → ∀ (p : Addr) (H' : Hp), Same H H' → H p = none → H' p = some (.tup [.str "no kind", v]) → Q (.ref p) H')
end
end KaG


set_option maxRecDepth 100000
set_option maxHeartbeats 4000000
namespace KaG
open PySem PySem.Spec PyProof.Rows L2 KaC
section
variable {X : Cx} {CW : Addr} {NW : Str}
theorem shp_flat {H : Hp} {as : List Addr} {d : Nat} {v : V} {t : Str} (h : Sh H CW NW as d v t) : flatB v = true ∨ ∃ c, v = .ref c := by
  cases h with
  | non => exact .inl rfl
  | bl b => exact .inl rfl
  | int i hi => exact .inl rfl
  | str x => exact .inl rfl
  | lst => exact .inr ⟨_, rfl⟩
  | tup => exact .inr ⟨_, rfl⟩
  | dct => exact .inr ⟨_, rfl⟩
  | exc => exact .inr ⟨_, rfl⟩
/-- two pairs of the very same text and the very same thing -/
def rEqP : R2 := fun x y H Q => ∃ (p q : Addr) (w : Str) (v : V), x = .ref p ∧ y = .ref q ∧ H p = some (.tup [.str w, v]) ∧ H q = some (.tup [.str w, v]) ∧ (flatB v = true ∨ ∃ c, v = .ref c) ∧ Q (.bl true) H
theorem op_eqP (hu : X.A.units + 64 < cLine) : OpR X (compareOp .Eq) rEqP := by
  intro pins s σ H x y v u Q I rx ry h
  obtain ⟨p, q, w, z, rfl, rfl, ep, eq, hz, k⟩ := h
  cases (show v = Value.ref p from rx)
  cases (show u = Value.ref q from ry)
  obtain ⟨_, us, ru, o, ho, hc, n, hd⟩ := (show ObjOk X.prog X.w H s.heap p (.tup [.str w, z]) from I.hok p _ ep)
  obtain ⟨_, ws, rw', o', ho', hc', n', hd'⟩ := (show ObjOk X.prog X.w H s.heap q (.tup [.str w, z]) from I.hok q _ eq)
  cases ru with
  | cons r1 r2 =>
  cases r2 with
  | cons r3 r4 =>
  cases r4
  cases rw' with
  | cons t1 t2 =>
  cases t2 with
  | cons t3 t4 =>
  cases t4
  rename_i a1 a2 b1 b2
  have i1 : s.heap.IsTuple p [a1, a2].toArray := ⟨o, ho, hc, n, hd⟩
  have i2 : s.heap.IsTuple q [b1, b2].toArray := ⟨o', ho', hc', n', hd'⟩
  refine SeqAt.eq_tupleAt (e := fun _ => true) i1 i2 (by omega) (fun j h1 h2 => ?_) ?_
  · match j, h1, h2 with
    | 0, _, _ => exact eqAt_same r1 t1 rfl
    | 1, _, _ =>
      show SeqAt.EqAt _ s a2 b2 true
      rcases hz with f | ⟨c, rfl⟩
      · exact eqAt_same r3 t3 f
      · cases (show a2 = Value.ref c from r3)
        cases (show b2 = Value.ref c from t3)
        exact SeqAt.EqAt.same _
    | j + 2, h1, _ => exact absurd h1 (by simp)
  · exact ⟨.bl true, H, I, rfl, k⟩
end
section
variable {P : Program} {w : World} {K : PySem.W.Frag} {mg : Str → Option Value} {base : Heap} {CW : Addr} {NW : Str}
def spAlikeP (CW : Addr) (NW : Str) : Sp := fun vs H Q _ => ∃ (p q : Addr) (w : Str) (v : V) (as : List Addr) (d : Nat) (t : Str), vs = [.ref p, .ref q] ∧ H p = some (.tup [.str w, v]) ∧ H q = some (.tup [.str w, v]) ∧ Sh H CW NW as d v t ∧ p ∉ as ∧ q ∉ as ∧ d ≤ 19 ∧ (tupleText [reprText w, t]).length ≤ sizeLine ∧ Q (.bl true) H
theorem ok_alikeP {f : Addr} {fd : FuncData} (F : Fun K "_law_alike" "_law_alike" sAlike f fd) (T : TxtB mg) (W : WrK K CW NW) : FnG false P w K mg base CX0 1 f fd ["found", "due"] (spAlikeP CW NW) := by
  refine fnG_of F scAlike (fun vs H Q E h => ?_) (fun cdv A outer s H vs Q E hr hc h => ?_)
  · obtain ⟨p, q, w, v, as, d, t, rfl, _⟩ := h
    rfl
  · obtain ⟨p, q, w, v, as, d, t, rfl, ep, eq, hS, np, nq, hd, hl, k⟩ := h
    have u64 : (A.deeper (envOfC "_law_alike" (defScope sAlike) s.heap.objs.size f cdv)).units + 64 < cLine := by have := hr.un; omega
    have u60 : (A.deeper (envOfC "_law_alike" (defScope sAlike) s.heap.objs.size f cdv)).units + 60 < cLine := by have := hr.un; omega
    refine ⟨_, pss_one (ps_ret (pe_and (pe_cmpR (op_eqP u64) (pv 0) (pv 1) (nomark _))
      (pe_one (pe_cmpR op_eq (pe_callB (call_reprS (CW := CW) (NW := NW) (by exact W) hr.gd u60) (by rfl) T.repr (by decide +kernel) (pa_cons (pv 0) pa_nil))
        (pe_callB (call_reprS (CW := CW) (NW := NW) (by exact W) hr.gd u60) (by rfl) T.repr (by decide +kernel) (pa_cons (pv 1) pa_nil)) (nomark _))))), ?_⟩
    have hA : ShA H CW NW as d [.str w, v] [reprText w, t] := .cons (.str w) (.cons hS .nil)
    have s1 : Sh H CW NW (p :: as) (d + 1) (.ref p) (tupleText [reprText w, t]) := .tup ep (List.mem_cons_self ..) (fun b z => List.mem_cons_of_mem _ z) np hA
    have s2 : Sh H CW NW (q :: as) (d + 1) (.ref q) (tupleText [reprText w, t]) := .tup eq (List.mem_cons_self ..) (fun b z => List.mem_cons_of_mem _ z) nq hA
    refine ⟨_, rfl, _, rfl, p, q, w, v, rfl, rfl, ep, eq, shp_flat hS, _, rfl, ?_⟩
    refine iteT ⟨_, rfl, _, _, _, _, rfl, s1, by omega, hl, _, rfl, _, _, _, _, rfl, s2, by omega, hl, rfl, ?_⟩
    rw [decide_eq_true rfl]
    exact k
end
end KaG


set_option maxRecDepth 100000
set_option maxHeartbeats 4000000
namespace KaG
open PySem PySem.Spec PyProof.Rows L2 KaC
section
variable {H H' : Hp} {m n m' n' : Nat}
structure Gd (H : Hp) (v : V) (d : PyData) (m n : Nat) : Prop where
  rep : Rep H v d
  lay : d.canLay0 = true
  dep : d.depth ≤ m
  len : (txt d).length ≤ n
structure GdA (H : Hp) (vs : List V) (ds : List PyData) (m n : Nat) : Prop where
  rep : RepA H vs ds
  all : ∀ d ∈ ds, d.canLay0 = true ∧ d.depth ≤ m ∧ (txt d).length ≤ n
theorem GdA.nil : GdA H [] [] m n := ⟨.nil, fun _ z => nomatch z⟩
theorem GdA.cons {v : V} {d : PyData} {vs : List V} {ds : List PyData} (h : Gd H v d m n) (r : GdA H vs ds m n) : GdA H (v :: vs) (d :: ds) m n := ⟨.cons h.rep r.rep, fun x z => by
  rcases List.mem_cons.mp z with rfl | z
  · exact ⟨h.lay, h.dep, h.len⟩
  · exact r.all x z⟩
theorem Gd.wk {v : V} {d : PyData} (h : Gd H v d m n) (a : m ≤ m' := by decide) (b : n ≤ n' := by decide) : Gd H v d m' n' := ⟨h.rep, h.lay, Nat.le_trans h.dep a, Nat.le_trans h.len b⟩
theorem layA : ∀ {ds : List PyData}, (∀ d ∈ ds, d.canLay0 = true) → PyData.canLayAll0 ds = true
  | [], _ => by simp [PyData.canLayAll0]
  | d :: r, h => by
    rw [PyData.canLayAll0, h d (List.mem_cons_self ..), layA fun x z => h x (List.mem_cons_of_mem _ z)]
    rfl
theorem depA : ∀ {ds : List PyData}, (∀ d ∈ ds, d.depth ≤ m) → PyData.depthAll ds ≤ m
  | [], _ => by simp [PyData.depthAll]
  | d :: r, h => by
    rw [PyData.depthAll]
    exact Nat.max_le.mpr ⟨h d (List.mem_cons_self ..), depA fun x z => h x (List.mem_cons_of_mem _ z)⟩
theorem txA : ∀ {ds : List PyData}, (∀ d ∈ ds, (txt d).length ≤ n) → ∀ t ∈ txtA ds, t.length ≤ n
  | [], _, _, z => nomatch z
  | d :: r, h, t, z => by
    rcases List.mem_cons.mp z with rfl | z
    · exact h d (List.mem_cons_self ..)
    · exact txA (fun x y => h x (List.mem_cons_of_mem _ y)) t z
theorem txL : ∀ {ds : List PyData}, (txtA ds).length = ds.length
  | [] => rfl
  | _ :: r => congrArg (· + 1) (txL (ds := r))
theorem repL : ∀ {vs : List V} {ds : List PyData}, RepA H vs ds → vs.length = ds.length
  | _, _, .nil => rfl
  | _, _, .cons _ r => congrArg (· + 1) (repL r)
theorem Gd.tup {a : Addr} {vs : List V} {ds : List PyData} (e : H a = some (.tup vs)) (h : GdA H vs ds m n) {c : Nat} (hc : vs.length ≤ c) : Gd H (.ref a) (.tuple ds) (m + 1) (c * (n + 2) + 3) := by
  refine ⟨.tup e h.rep, ?_, ?_, ?_⟩
  · rw [PyData.canLay0]; exact layA fun d z => (h.all d z).1
  · rw [PyData.depth]; exact Nat.succ_le_succ (depA fun d z => (h.all d z).2.1)
  · rw [txt]
    have h1 := tupleText_le (txtA ds)
    have h2 := piled_le (txA fun d z => (h.all d z).2.2)
    rw [txL, ← repL h.rep] at h2
    have h3 := Nat.mul_le_mul_right (n + 2) hc
    omega
theorem Gd.lst {a : Addr} {vs : List V} {ds : List PyData} (e : H a = some (.lst vs)) (h : GdA H vs ds m n) {c : Nat} (hc : vs.length ≤ c) : Gd H (.ref a) (.list ds) (m + 1) (c * (n + 2) + 3) := by
  refine ⟨.lst e h.rep, ?_, ?_, ?_⟩
  · rw [PyData.canLay0]; exact layA fun d z => (h.all d z).1
  · rw [PyData.depth]; exact Nat.succ_le_succ (depA fun d z => (h.all d z).2.1)
  · rw [txt]
    have h1 := listText_le (txtA ds)
    have h2 := piled_le (txA fun d z => (h.all d z).2.2)
    rw [txL, ← repL h.rep] at h2
    have h3 := Nat.mul_le_mul_right (n + 2) hc
    omega
theorem paired_in {α β : Type} {R S : α → β → Prop} : ∀ {xs : List α} {ys : List β}, (∀ a b, b ∈ ys → R a b → S a b) → Paired R xs ys → Paired S xs ys
  | _, _, _, .nil => .nil
  | _, _, h, .cons a r => .cons (h _ _ (List.mem_cons_self ..) a) (paired_in (fun a b m => h a b (List.mem_cons_of_mem _ m)) r)
theorem GdA.of {α : Type} {f : α → PyData} : ∀ {as : List Addr} {xs : List α}, Paired (fun a x => Gd H (.ref a) (f x) m n) as xs → GdA H (as.map V.ref) (xs.map f) m n
  | _, _, .nil => .nil
  | _, _, .cons h r => .cons h (GdA.of r)
theorem nm_txt : ∀ x ∈ nmAll, (txt (.str x)).length ≤ 20 := by decide +kernel
theorem int_txt : ∀ x : Fin 61, (txt (.int (x.val : Int))).length ≤ 20 := by decide +kernel
theorem Gd.nm {x : Str} (h : x ∈ nmAll) : Gd H (.str x) (.str x) 0 20 := ⟨.str x, nm_lay x h, by simp [PyData.depth], nm_txt x h⟩
theorem Gd.int {i : Int} (h0 : 0 ≤ i) (h1 : i ≤ 60) : Gd H (.int i) (.int i) 0 20 := by
  obtain ⟨k, rfl⟩ := Int.eq_ofNat_of_zero_le h0
  have hk : k < 61 := by omega
  refine ⟨.int _ ?_, by simp [PyData.canLay0], by simp [PyData.depth], int_txt ⟨k, hk⟩⟩
  have h2 : (k : Int).natAbs = k := rfl
  rw [h2]
  exact Nat.lt_of_le_of_lt (Nat.log2_le_self k) (by omega)
theorem GdA.strs : ∀ {ns : List Str}, (∀ x ∈ ns, x ∈ nmAll) → GdA H (ns.map V.str) (ns.map PyData.str) 0 20
  | [], _ => .nil
  | x :: r, h => .cons (.nm (h x (List.mem_cons_self ..))) (GdA.strs fun y z => h y (List.mem_cons_of_mem _ z))
def vD : V → PyData
  | .bl b => .bool b
  | .int i => .int i
  | .str x => .str x
  | _ => .none
def ndD (its : List V) : PyData := .tuple (its.map vD)
def grD (g : List (List V)) : PyData := .tuple (g.map ndD)
def kdD (k : Kd) : PyData := .tuple [.str k.name, .int k.keep, .int k.bar, .tuple (k.gs.map grD)]
def bkD (rows : List Str) (ks : List Kd) : PyData := .tuple [.tuple (rows.map PyData.str), .tuple (ks.map kdD)]
theorem Gd.need {rows names its : List _} {a : Addr} (hr : ∀ x ∈ rows, x ∈ nmAll) (hn : ∀ x ∈ names, x ∈ nmAll) (e : H a = some (.tup its)) (h : NeedV rows names its) : Gd H (.ref a) (ndD its) 1 113 := by
  have key : GdA H its (its.map vD) 0 20 ∧ its.length ≤ 5 := by
    cases h with
    | row n t m h t0 t4 m0 m9 => exact ⟨.cons (.nm (by decide +kernel)) (.cons (.nm (hr _ h)) (.cons (.int t0 (by omega)) (.cons (.int m0 (by omega)) .nil))), Nat.le_succ 4⟩
    | kind n b t m h a1 a9 t0 t4 m0 m9 => exact ⟨.cons (.nm (by decide +kernel)) (.cons (.nm (hn _ h)) (.cons (.int (by omega) (by omega)) (.cons (.int t0 (by omega)) (.cons (.int m0 (by omega)) .nil)))), Nat.le_refl 5⟩
  exact Gd.tup e key.1 key.2
theorem Gd.ground {rows names : List Str} {g : List (List V)} {a : Addr} (hr : ∀ x ∈ rows, x ∈ nmAll) (hn : ∀ x ∈ names, x ∈ nmAll) (e : KaG.Grd H a g) (hl : g.length ≤ 3) (h : ∀ n ∈ g, NeedV rows names n) : Gd H (.ref a) (grD g) 2 348 := by
  obtain ⟨ns, e1, p⟩ := e
  have q : Paired (fun n its => Gd H (.ref n) (ndD its) 1 113) ns g := paired_in (fun n its m e => Gd.need hr hn e (h its m)) p
  exact Gd.tup e1 (GdA.of q) (by rw [List.length_map, paired_len p]; exact hl)
theorem Gd.kind {rows : List Str} {ks : List Kd} {k : Kd} {a : Addr} (hO : BookOk rows ks) (mk : k ∈ ks) (e : KdAt H a k) : Gd H (.ref a) (kdD k) 4 5631 := by
  obtain ⟨gt, gas, e1, e2, p⟩ := e
  obtain ⟨a1, a2, b1, b2, hg⟩ := hO.num k mk
  have q : Paired (fun ga g => Gd H (.ref ga) (grD g) 2 348) gas k.gs := paired_in (fun ga g m e => Gd.ground hO.rw.of hO.nm.of e (hO.grd k mk g m).2.1 (hO.grd k mk g m).2.2) p
  have t := Gd.tup e2 (GdA.of q) (c := 4) (by rw [List.length_map, paired_len p]; exact hg)
  have y := Gd.tup e1 (.cons ((Gd.nm (hO.nm.of _ (List.mem_map_of_mem mk))).wk (m' := 3) (n' := 1403)) (.cons ((Gd.int (by omega) (by omega)).wk (m' := 3) (n' := 1403)) (.cons ((Gd.int b1 (by omega)).wk (m' := 3) (n' := 1403)) (.cons t .nil)))) (c := 4) (Nat.le_refl 4)
  exact y.wk
theorem Gd.book {rows : List Str} {ks : List Kd} {b : Addr} (hA : BookAt H b rows ks) (hO : BookOk rows ks) : Gd H (.ref b) (bkD rows ks) 6 60000 := by
  obtain ⟨r, kt, kas, e1, e2, e3, p⟩ := hA
  have q : Paired (fun ka k => Gd H (.ref ka) (kdD k) 4 5631) kas ks := paired_in (fun ka k m e => Gd.kind hO m e) p
  have t := Gd.tup e3 (GdA.of q) (c := 5) (by rw [List.length_map, paired_len p]; exact hO.k5)
  have hr : rows.length ≤ 15 := by
    have h := List.Nodup.length_le_of_subset hO.rw.nd (l₂ := nmAll) fun x m => hO.rw.of x m
    exact h
  have y := Gd.tup e2 (GdA.strs hO.rw.of) (c := 15) (by rw [List.length_map]; exact hr)
  have z := Gd.tup e1 (.cons (y.wk (m' := 5) (n' := 28168)) (.cons (t.wk (m' := 5) (n' := 28168)) .nil)) (c := 2) (Nat.le_refl 2)
  exact z.wk
def plD (p : Plc) : PyData := .tuple [.str p.1, .int (p.2.1 : Int), .int (p.2.2 : Int)]
def ddD (d : Str × Nat) : PyData := .tuple [.str d.1, .int (d.2 : Int)]
theorem Gd.pl {a : Addr} {p : Plc} (e : H a = some (.tup [.str p.1, .int (p.2.1 : Int), .int (p.2.2 : Int)])) (hn : p.1 ∈ nmAll) (h1 : p.2.1 ≤ 60) (h2 : p.2.2 ≤ 60) : Gd H (.ref a) (plD p) 1 69 :=
  Gd.tup e (.cons (.nm hn) (.cons (.int (by omega) (by omega)) (.cons (.int (by omega) (by omega)) .nil))) (c := 3) (Nat.le_refl 3)
theorem Gd.dd {a : Addr} {d : Str × Nat} (e : H a = some (.tup [.str d.1, .int (d.2 : Int)])) (hn : d.1 ∈ nmAll) (h1 : d.2 ≤ 60) : Gd H (.ref a) (ddD d) 1 47 :=
  Gd.tup e (.cons (.nm hn) (.cons (.int (by omega) (by omega)) .nil)) (c := 2) (Nat.le_refl 2)
end
end KaG


set_option maxRecDepth 100000
set_option maxHeartbeats 4000000
namespace KaG
open PySem PySem.Spec PyProof.Rows L2 KaC
open Classical in
noncomputable def itsOf (ks : List Kd) (p : Plc) : List V := if h : ∃ its, needAt ks p its then h.choose else []
theorem itsOf_eq {ks : List Kd} {p : Plc} {its : List V} (nd : (ks.map Kd.name).Nodup) (h : needAt ks p its) : itsOf ks p = its := by
  unfold itsOf
  rw [dif_pos ⟨its, h⟩]
  exact needAt_one nd (Exists.choose_spec (p := fun i => needAt ks p i) ⟨its, h⟩) h
theorem Rep.there {H : Hp} {b : Addr} {d : PyData} (h : Rep H (.ref b) d) : H b ≠ none := by
  cases h with
  | lst e => rw [e]; exact fun z => nomatch z
  | tup e => rw [e]; exact fun z => nomatch z
/-- what stands around the loops of `_law_is_book_told` -/
structure Tw (K : PySem.W.Frag) (H0 G : Hp) (bg b : Addr) (rows : List Str) (ks : List Kd) (kas : List Addr) (kd pl nl : Addr) (ps ns : List Addr) : Prop where
  ext : Ext bg H0 G
  bk : BookAt G b rows ks
  ka : KasOf G b kas
  ekd : G kd = some (.dK (kvsOf ks kas))
  nkd : H0 kd = none
  epl : G pl = some (.lst (ps.map V.ref))
  npl : H0 pl = none
  pa : PlAt G ps (placesOf ks)
  lp : ps.length ≤ 60
  enl : G nl = some (.lst (ns.map V.ref))
  nnl : H0 nl = none
  na : Paired (fun q p => needAt ks p (itsOf ks p) ∧ G q = some (.tup (itsOf ks p))) ns (placesOf ks)
theorem keep_in {bg : Addr} {H0 G G' : Hp} {a : Addr} {o : HO} (hB : Bag H0 bg) (E : Ext bg G G') (n : H0 a = none) (e : G a = some o) : G' a = some o := E.keep a o (fun z => hB.there (z ▸ n)) e
theorem Tw.go {K : PySem.W.Frag} {H0 G G' : Hp} {bg b : Addr} {rows : List Str} {ks : List Kd} {kas : List Addr} {kd pl nl : Addr} {ps ns : List Addr} (hB : Bag H0 bg) (h : Tw K H0 G bg b rows ks kas kd pl nl ps ns) (E : Ext bg G G') : Tw K H0 G' bg b rows ks kas kd pl nl ps ns := by
  have s := TSame.ext h.ext.bag E
  obtain ⟨r, kt, e1, e2⟩ := h.ka
  exact ⟨h.ext.trans E, h.bk.ts s, ⟨r, kt, s _ _ e1, s _ _ e2⟩, keep_in hB E h.nkd h.ekd, h.nkd, keep_in hB E h.npl h.epl, h.npl, h.pa.ts s, h.lp, keep_in hB E h.nnl h.enl, h.nnl, Paired.mono' (fun q p z => ⟨z.1, s _ _ z.2⟩) h.na⟩
end KaG


set_option maxRecDepth 100000
set_option maxHeartbeats 4000000
namespace KaG
open PySem PySem.Spec PyProof.Rows L2 KaC
def leN (a b : Str) : Prop := ltCps b.cps.toList a.cps.toList = false
theorem leN_tr : ∀ a ∈ nmAll, ∀ b ∈ nmAll, ∀ c ∈ nmAll, ltCps b.cps.toList a.cps.toList = false → ltCps c.cps.toList b.cps.toList = false → ltCps c.cps.toList a.cps.toList = false := by decide +kernel
theorem leN_anti : ∀ a ∈ nmAll, ∀ b ∈ nmAll, ltCps b.cps.toList a.cps.toList = false → ltCps a.cps.toList b.cps.toList = false → a = b := by decide +kernel
theorem rising_pw : ∀ {r : List Str} {p : Str}, p ∈ nmAll → (∀ x ∈ r, x ∈ nmAll) → risingS p r = true → (∀ x ∈ r, leN p x) ∧ r.Pairwise leN
  | [], _, _, _, _ => ⟨(fun _ z => nomatch z), List.Pairwise.nil⟩
  | x :: r, p, hp, hr, h => by
    unfold risingS at h
    rw [Bool.and_eq_true, Bool.not_eq_true'] at h
    have hx := hr x (List.mem_cons_self ..)
    have hr' : ∀ y ∈ r, y ∈ nmAll := fun y m => hr y (List.mem_cons_of_mem _ m)
    obtain ⟨i1, i2⟩ := rising_pw hx hr' h.2
    refine ⟨fun y m => ?_, .cons i1 i2⟩
    rcases List.mem_cons.mp m with rfl | m
    · exact h.1
    · exact leN_tr p hp x hx y (hr' y m) h.1 (i1 y m)
theorem sortedS_pw {ns : List Str} (hn : ∀ x ∈ ns, x ∈ nmAll) (h : sortedS ns = true) : ns.Pairwise leN := by
  cases ns with
  | nil => exact .nil
  | cons x r =>
    obtain ⟨i1, i2⟩ := rising_pw (hn x (List.mem_cons_self ..)) (fun y m => hn y (List.mem_cons_of_mem _ m)) h
    exact .cons i1 i2
theorem sorted_one {xs ys : List Str} (hx : ∀ x ∈ xs, x ∈ nmAll) (h1 : sortedS xs = true) (h2 : sortedS ys = true) (p : ys.Perm xs) : ys = xs := by
  have hy : ∀ y ∈ ys, y ∈ nmAll := fun y m => hx y (p.mem_iff.mp m)
  exact List.Perm.eq_of_pairwise (fun a b ma mb p q => leN_anti a (hy a ma) b (hx b mb) p q) (sortedS_pw hy h2) (sortedS_pw hx h1) p
theorem Gd.names {H : Hp} {l : Addr} {ns : List Str} (e : H l = some (.lst (ns.map V.str))) (hn : ∀ x ∈ ns, x ∈ nmAll) (hl : ns.length ≤ 5) : Gd H (.ref l) (.list (ns.map PyData.str)) 1 113 := Gd.lst e (GdA.strs hn) (c := 5) (by rw [List.length_map]; exact hl)
theorem pl_small {rows : List Str} {ks : List Kd} (hO : BookOk rows ks) {p : Plc} (m : p ∈ placesOf ks) : p.1 ∈ nmAll ∧ p.2.1 ≤ 60 ∧ p.2.2 ≤ 60 := by
  obtain ⟨its, k, mk, kn, g, hg, hn⟩ := place_need m
  have h1 := (List.getElem?_eq_some_iff.mp hg).1
  have h2 := (List.getElem?_eq_some_iff.mp hn).1
  have h3 := (hO.num k mk).2.2.2.2
  have h4 := (hO.grd k mk g (List.mem_of_getElem? hg)).2.1
  exact ⟨by rw [← kn]; exact hO.nm.of _ (List.mem_map_of_mem mk), by omega, by omega⟩
theorem dd_small {rows : List Str} {ks : List Kd} (hO : BookOk rows ks) {d : Str × Nat} (m : d ∈ deadOf ks) : d.1 ∈ nmAll ∧ d.2 ≤ 60 := by
  unfold deadOf at m
  obtain ⟨k, mk, m⟩ := List.mem_flatMap.mp m
  unfold deadK at m
  obtain ⟨g, mg, m⟩ := List.mem_flatMap.mp m
  unfold deadG at m
  split at m
  · rw [List.mem_singleton.mp m]
    have h1 := List.mem_range.mp mg
    have h3 := (hO.num k mk).2.2.2.2
    exact ⟨hO.nm.of _ (List.mem_map_of_mem mk), by show g ≤ 60; omega⟩
  · cases m
theorem Gd.places {H : Hp} {l : Addr} {as : List Addr} {rows : List Str} {ks : List Kd} (hO : BookOk rows ks) (e : H l = some (.lst (as.map V.ref))) (h : PlAt H as (placesOf ks)) (hl : as.length ≤ 60) : Gd H (.ref l) (.list ((placesOf ks).map plD)) 2 4263 :=
  Gd.lst e (GdA.of (paired_in (fun a p m z => Gd.pl z (pl_small hO m).1 (pl_small hO m).2.1 (pl_small hO m).2.2) h)) (c := 60) (by rw [List.length_map]; exact hl)
theorem Gd.deads {H : Hp} {l : Addr} {as : List Addr} {rows : List Str} {ks : List Kd} (hO : BookOk rows ks) (e : H l = some (.lst (as.map V.ref))) (h : DdAt H as (deadOf ks)) (hl : as.length ≤ 20) : Gd H (.ref l) (.list ((deadOf ks).map ddD)) 2 983 :=
  Gd.lst e (GdA.of (paired_in (fun a p m z => Gd.dd z (dd_small hO m).1 (dd_small hO m).2) h)) (c := 20) (by rw [List.length_map]; exact hl)
theorem Gd.three {H : Hp} {l a b c : Addr} {x y z : PyData} (e : H l = some (.lst [.ref a, .ref b, .ref c])) (h1 : Gd H (.ref a) x 1 113) (h2 : Gd H (.ref b) y 2 4263) (h3 : Gd H (.ref c) z 2 983) : Gd H (.ref l) (.list [x, y, z]) 3 12798 :=
  Gd.lst e (.cons (h1.wk (m' := 2) (n' := 4263)) (.cons h2 (.cons (h3.wk (m' := 2) (n' := 4263)) .nil))) (c := 3) (Nat.le_refl 3)
theorem Gd.needs {H : Hp} {l : Addr} {qs : List Addr} {rows : List Str} {ks : List Kd} (hO : BookOk rows ks) (e : H l = some (.lst (qs.map V.ref))) (h : Paired (fun q p => needAt ks p (itsOf ks p) ∧ H q = some (.tup (itsOf ks p))) qs (placesOf ks)) (hl : qs.length ≤ 60) : Gd H (.ref l) (.list ((placesOf ks).map fun p => ndD (itsOf ks p))) 2 6903 :=
  Gd.lst e (GdA.of (f := fun p => ndD (itsOf ks p)) (paired_in (fun q p m z => by
    obtain ⟨k0, mk0, _, g0, hg0, hn0⟩ := z.1
    exact Gd.need hO.rw.of hO.nm.of z.2 ((hO.grd k0 mk0 g0 (List.mem_of_getElem? hg0)).2.2 _ (List.mem_of_getElem? hn0))) h)) (c := 60) (by rw [List.length_map]; exact hl)
end KaG


set_option maxRecDepth 100000
set_option maxHeartbeats 4000000
namespace KaG
open PySem PySem.Spec PyProof.Rows L2 KaC
/-! ### growing one name after another, turn by turn -/
structure Pg (names : List Str) (J : Jn) (t j : Nat) (F : List Str) : Prop where
  ch : Chs names J F
  or : Clo names J F ∨ (t ≤ F.length ∧ ((∀ n ∈ names.take j, J n F = true → n ∈ F) ∨ t + 1 ≤ F.length))
theorem Pg.start {names : List Str} {J : Jn} {t : Nat} {F : List Str} (h : Chs names J F) (o : Clo names J F ∨ t ≤ F.length) : Pg names J t 0 F := ⟨h, o.imp id fun z => ⟨z, .inl (fun n m => by simp at m)⟩⟩
theorem Pg.add {names : List Str} {J : Jn} {t j : Nat} {F : List Str} {n : Str} (mo : Mono J) (h : Pg names J t j F) (mn : n ∈ names) (nF : n ∉ F) (e : J n F = true) : Pg names J t (j + 1) (F ++ [n]) := by
  refine ⟨h.ch.add mo mn nF e, ?_⟩
  rcases h.or with c | ⟨c, _⟩
  · exact absurd (c n mn e) nF
  · exact .inr ⟨by rw [List.length_append]; omega, .inr (by rw [List.length_append]; show t + 1 ≤ F.length + 1; omega)⟩
theorem Pg.skip {names : List Str} {J : Jn} {t j : Nat} {F : List Str} {n : Str} (h : Pg names J t j F) (hn : names[j]? = some n) (e : J n F = true → n ∈ F) : Pg names J t (j + 1) F := by
  refine ⟨h.ch, h.or.imp id fun ⟨c, d⟩ => ⟨c, d.imp (fun y x m => ?_) id⟩⟩
  rw [List.take_add_one, hn] at m
  rcases List.mem_append.mp m with z | z
  · exact y x z
  · rw [List.mem_singleton.mp (show x ∈ [n] from z)]
    exact e
theorem Pg.done {names : List Str} {J : Jn} {t : Nat} {F : List Str} (h : Pg names J t names.length F) : Clo names J F ∨ t + 1 ≤ F.length := by
  rcases h.or with c | ⟨_, c | c⟩
  · exact .inl c
  · rw [List.take_length] at c
    exact .inl c
  · exact .inr c
theorem Chs.clo {names : List Str} {J : Jn} {F : List Str} (nd : names.Nodup) (h : Chs names J F) (o : Clo names J F ∨ names.length ≤ F.length) : Clo names J F := o.elim id fun e n mn _ => h.full nd e n mn
/-! ### -/
theorem KdsD.wr {G : Hp} {d p : Addr} {ks : List Kd} {ts : List Addr} {xs ys : List V} (h : KdsD G d ks ts) (e : G p = some (.lst xs)) : KdsD (upd G p (.lst ys)) d ks ts :=
  ⟨by rw [upd_ne (fun z => by have := h.d; rw [z, e] at this; cases this)]; exact h.d, Paired.mono' (fun _ _ q => KdT.ts q (ts_lst e)) h.t⟩
theorem ones_dp {α : Type} {K : PySem.W.Frag} {H : Hp} : ∀ (xs : List α), ∃ ds, DpAll K H (xs.map fun _ => V.int 1) ds ∧ (∀ d ∈ ds, d.canLay0 = true) ∧ PyData.depthAll ds ≤ 1 ∧ ds.length = xs.length
  | [] => ⟨[], .nil, (fun _ z => nomatch z), by simp [PyData.depthAll], rfl⟩
  | x :: r => by
    obtain ⟨ds, h1, h2, h3, h4⟩ := ones_dp (K := K) (H := H) r
    exact ⟨.int 1 :: ds, .cons (.int 1) h1, fun d m => by
      rcases List.mem_cons.mp m with z | z
      · rw [z]; simp [PyData.canLay0]
      · exact h2 d z, by rw [PyData.depthAll]; simp only [PyData.depth]; omega, by rw [List.length_cons, List.length_cons, h4]⟩
theorem any_len {α : Type} {t : α → Bool} {xs : List α} : (!decide ((xs.filter t).length = 0)) = xs.any t := by
  cases e : xs.any t with
  | false =>
    have : xs.filter t = [] := List.filter_eq_nil_iff.mpr fun a m z => by
      rw [List.any_eq_false] at e
      exact e a m z
    rw [this]
    rfl
  | true =>
    obtain ⟨a, m, z⟩ := List.any_eq_true.mp e
    have : 0 < (xs.filter t).length := List.length_pos_of_mem (List.mem_filter.mpr ⟨m, z⟩)
    rw [decide_eq_false (by omega)]
    rfl
section
variable {P : Program} {w : World} {K : PySem.W.Frag} {mg : Str → Option Value} {base : Heap}
abbrev sLBear : Stmt := top 41
abbrev nmLB : List Str := ["rulebook", "kinds", "found", "turn", "name", "ground"]
theorem scLB : FnScope nmLB ["rulebook"] (defScope sLBear) := ⟨rfl, rfl, rfl, by decide +kernel, rfl, by decide +kernel, by decide +kernel⟩
def spLBear : Sp := fun vs H Q _ => ∃ (b : Addr) (rows : List Str) (ks : List Kd), vs = [.ref b] ∧ BookAt H b rows ks ∧ BookOk rows ks ∧ ∀ (p : Addr) (F : List Str) (H' : Hp), Same H H' → H p = none → H' p = some (.lst (F.map V.str)) → Chs (nmsOf ks) (jB ks) F → Clo (nmsOf ks) (jB ks) F → Q (.ref p) H'
theorem ok_lBear {f fK fM : Addr} {fd fdK fdM : FuncData} (F : Fun K "_law_bearing" "_law_bearing" sLBear f fd) (T : TxtC mg) (CK : Ct P w K mg base "_law_kinds_of" 1 ["rulebook"] spKindsO fK fdK) (CM : Ct P w K mg base "_law_is_met" 1 ["kinds", "found", "ground"] spIsMet fM fdM) : FnOk P w K mg base CX0 2 f fd ["rulebook"] spLBear := by
  refine F.ok scLB (fun vs H Q E h => ?_) (fun cdv A outer s H vs Q E hr h => ?_)
  · obtain ⟨b, rows, ks, rfl, _⟩ := h
    rfl
  · obtain ⟨b, rows, ks, rfl, hA, hO, k⟩ := h
    have u1 := hu_of hr
    have hu : (A.deeper (envOfC "_law_bearing" (defScope sLBear) s.heap.objs.size f cdv)).units + 64 < cLine := by have := hr.3; omega
    refine ⟨_, (pss_cons (ps_asg (pe_tup (pa_cons (pe_call CK.G hr (by rfl) CK.m CK.kp CK.b .nil pass0 (pa_cons (pv 0) pa_nil)) (pa_cons (pe_lst pa_nil) pa_nil))) (pg_tup (by rfl) (pgs_cons (pg_name (i := 1) scLB.nd rfl (Or.inr rfl)) (pgs_cons (pg_name (i := 2) scLB.nd rfl (Or.inr rfl)) pgs_nil))))
      (pss_cons (ps_for PassesOwn.never rfl (pi_range1 rfl T.b.range (pa_cons (pe_callB call_lenD (by rfl) T.b.len PySem.boot_len (pa_cons (pv 1) pa_nil)) pa_nil)) (pg_name (i := 3) scLB.nd rfl (Or.inl rfl))
        (pss_one (ps_for PassesOwn.never rfl (pi_list (pe_callB (call_sortedD (by rfl)) (by rfl) T.sor (by decide +kernel) (pa_cons (pv 1) pa_nil))) (pg_name (i := 4) scLB.nd rfl (Or.inl rfl))
          (pss_one (ps_if (PW.pt (pw_and (pt_cmpR (r := rIn K true) op_notIn_seq (pv 4) (pv 2) rfl) (pw_and1 (pt_cmpR (op_neD hu) (pe_lc (own := [("ground", 5)]) (g := gName 5) (tt := tB (tCall spIsMet [] E0 (tCons (tVar 1) (tCons (tVar 2) (tCons (tVar 5) tNil))))) (te := tC (.int 1)) (by rfl) scLB.nd
              (pi_tup (pe_ix (r := rIxT K) ix_tup (pe_dget u1 (pv 1) (pv 4) (fun _ _ => rfl)) pe_int (fun _ _ => rfl))) (blkOk_by (own := [("ground", 5)]) (N := nmLB) (sc := defScope sLBear) (by decide +kernel)) (fun _ _ _ _ _ => pg_name (i := 5) scLB.nd rfl (Or.inl rfl))
              (fun _ _ _ _ _ => pts_one (pt_val (pe_call CM.G hr (by rfl) CM.m CM.kp CM.b .nil pass0 (pa_cons (pv 1) (pa_cons (pv 2) (pa_cons (pv 5) pa_nil))))))
              (fun _ _ _ _ _ => pe_int)) (pe_lst pa_nil) (nomark _)))))
            (pss_one (ps_expr (pe_bm PySem.F.plainAttrs_list PySem.F.slot_list_append PySem.F.type_list_append mt_append (pv 2) (pa_cons (pv 4) pa_nil)))) pss_nil)))))
      (pss_one (ps_ret (pv 2))))), ?_⟩
    have hk5 := hO.k5
    have nd := hO.nm.nd
    refine ⟨_, rfl, b, rows, ks, rfl, hA, hO, fun d ts H1 S1 nd0 KD => ?_⟩
    refine ⟨Nat.zero_le _, fun p np => ⟨by show 2 ≤ sizeLine; decide, fun t0 nt0 => ?_⟩⟩
    refine ⟨t0, _, rfl, SqT.of upd_same, by rfl, _, _, rfl, _, _, rfl, rfl, ?_⟩
    have s1 := same_upd (o := .lst []) np
    have s2 := same_upd (o := .tup [.ref d, .ref p]) nt0
    have S2 := KaG.Same.tr S1 (KaG.Same.tr s1 s2)
    have KD2 := KD.same (KaG.Same.tr s1 s2)
    have ep : (upd (upd H1 p (.lst [])) t0 (.tup [.ref d, .ref p])) p = some (.lst (([] : List Str).map V.str)) := s2 _ _ upd_same
    have pH : H p = none := same_non S1 p np
    generalize upd (upd H1 p (.lst [])) t0 (.tup [.ref d, .ref p]) = H2 at S2 KD2 ep ⊢
    have lkv : (kvsOf ks ts).length = ks.length := kvs_len (paired_len KD.t)
    have wr : ∀ {G : Hp} {o : HO}, Same H G → Same H (upd G p o) := fun S b u e => by rw [upd_ne (ne_of_none e pH)]; exact S b u e
    refine ⟨_, rfl, d, _, rfl, KD2.d, _, rfl, by rw [lkv]; omega, by rw [lkv]; omega, for_range (n := ((kvsOf ks ts).length : Int).toNat) (fun t σ' G => (∃ x3 x4 x5 : Option V, σ' = [some (.ref b), some (.ref d), some (.ref p), x3, x4, x5]) ∧ Same H G ∧ KdsD G d ks ts ∧ ∃ F : List Str, G p = some (.lst (F.map V.str)) ∧ Chs (nmsOf ks) (jB ks) F ∧ (Clo (nmsOf ks) (jB ks) F ∨ t ≤ F.length)) ?_ ?_ ?_⟩
    · exact ⟨⟨_, _, _, rfl⟩, S2, KD2, [], ep, Chs.nil, .inr (Nat.zero_le _)⟩
    · rintro t σ' G ht ⟨⟨x3, x4, x5, rfl⟩, S, KG, F, gp, hC, ho⟩
      refine ⟨_, rfl, d, kvsOf ks ts, ks.map Kd.name, rfl, .inl KG.d, kvs_keysN KG.t, by rw [List.length_map]; omega, fun ys c pm srt nc => ?_⟩
      obtain rfl : ys = ks.map Kd.name := sorted_one hO.nm.of hO.nm.up srt pm
      have sc := same_upd (o := .lst ((ks.map Kd.name).map V.str)) nc
      have cp : c ≠ p := fun z => by rw [z, gp] at nc; cases nc
      have gp2 := sc _ _ gp
      have KG2 := KG.same sc
      have S3 := KaG.Same.tr S sc
      have ec : upd G c (.lst ((ks.map Kd.name).map V.str)) c = some (.lst ((ks.map Kd.name).map V.str)) := upd_same
      generalize upd G c (.lst ((ks.map Kd.name).map V.str)) = G2 at gp2 KG2 S3 ec ⊢
      refine ⟨c, rfl, ⟨_, SqL.of ec⟩, for_list (K := K) (a := c) (xs := (ks.map Kd.name).map V.str) (fun j σ' J => (∃ x4 x5 : Option V, σ' = [some (.ref b), some (.ref d), some (.ref p), some (.int (0 + (t : Int))), x4, x5]) ∧ Same H J ∧ KdsD J d ks ts ∧ J c = some (.lst ((ks.map Kd.name).map V.str)) ∧ ∃ F : List Str, J p = some (.lst (F.map V.str)) ∧ Pg (nmsOf ks) (jB ks) t j F) ?_ ?_ ?_ ?_⟩
      · exact ⟨⟨_, _, rfl⟩, S3, KG2, ec, F, gp2, Pg.start hC ho⟩
      · rintro j σ' J _ ⟨_, _, _, e, _⟩
        exact SqL.of e
      · rintro j x σ' J hx ⟨⟨x4, x5, rfl⟩, SJ, KJ, jc, F', jp, hP⟩
        rw [List.getElem?_map] at hx
        obtain ⟨n, hn, rfl⟩ := Option.map_eq_some_iff.mp hx
        have mn : n ∈ nmsOf ks := List.mem_of_getElem? hn
        have l5 : F'.length ≤ 5 := Nat.le_trans hP.ch.len (by rw [List.length_map]; exact hk5)
        refine ⟨_, rfl, _, rfl, p, F'.map V.str, rfl, .inl (SqL.of jp), rfl, flat_strs, _, rfl, ?_⟩
        rw [show (if true = true then !inV (V.str n) (List.map V.str F') else inV (V.str n) (List.map V.str F')) = !decide (n ∈ F') by rw [if_pos rfl, inV_str]]
        by_cases hm : n ∈ F'
        · exact iteDF (by rw [decide_eq_true hm]; rfl) ⟨⟨_, _, rfl⟩, SJ, KJ, jc, F', jp, hP.skip hn fun _ => hm⟩
        · refine iteD (by rw [decide_eq_false hm]; rfl) ?_
          obtain ⟨kd, mk, kn⟩ := List.mem_map.mp mn
          obtain ⟨tl, ev, gt, gas, y1, y2, y3⟩ := kvs_get nd KJ.t mk
          rw [kn] at ev
          have lg := paired_len y3
          have g4 := (hO.num kd mk).2.2.2.2
          refine ⟨_, rfl, _, rfl, d, .ref tl, rfl, by rw [← ev]; exact DGet.k (k := Sum.inr n) KJ.d, tl, _, 2, .ref gt, rfl, rfl, SqT.of y1, rfl, gt, rfl, ⟨_, SqT.of y2⟩, fun D hD => lc_tup (K := K) (a := gt) (xs := gas.map V.ref) (fun i J2 => Same J J2 ∧ J2 D = some (.lst (((kd.gs.take i).filter (grLive ks F')).map fun _ => V.int 1))) ?_ ?_ ?_ ?_⟩
          · exact ⟨same_upd hD, upd_same⟩
          · rintro i J2 _ ⟨S4, _⟩
            exact SqT.of (S4 _ _ y2)
          · rintro i x J2 hx ⟨S4, jD⟩
            rw [List.getElem?_map] at hx
            obtain ⟨ga, hga, rfl⟩ := Option.map_eq_some_iff.mp hx
            obtain ⟨gr, hgr, eGr⟩ := paired_at y3 hga
            have mg' := List.mem_of_getElem? hgr
            have tk : kd.gs.take (i + 1) = kd.gs.take i ++ [gr] := by rw [List.take_add_one, hgr]; rfl
            have lf := List.length_filter_le (grLive ks F') (kd.gs.take i)
            rw [List.length_take] at lf
            refine ⟨rfl, _, rfl, _, rfl, _, rfl, d, p, ga, rows, ks, ts, F', gr, rfl, KJ.same S4, hO, .inl (S4 _ _ jp), Grd.ts eGr (TSame.of S4), hO.gr mk mg', fun J3 S5 => ⟨_, rfl, ite2 (fun hc => ?_) fun hc => ?_⟩⟩
            · refine ⟨_, S5 _ _ jD, small1000 (by rw [List.length_map]; omega), fun b u e => by rw [upd_ne (ne_of_none e hD)]; exact S5 _ _ (S4 b u e), ?_⟩
              rw [upd_same, tk, List.filter_append, List.filter_cons_of_pos hc, List.map_append]
              rfl
            · refine ⟨KaG.Same.tr S4 S5, ?_⟩
              rw [S5 _ _ jD, tk, List.filter_append, List.filter_cons_of_neg hc, List.filter_nil, List.append_nil]
          · rintro J2 ⟨S4, jD⟩
            rw [List.length_map, lg, List.take_length] at jD
            refine ⟨Nat.zero_le _, fun z nz => ?_⟩
            have Sz := same_upd (o := .lst []) nz
            have S45 := KaG.Same.tr S4 Sz
            obtain ⟨ds, d1, d2, d3, d4⟩ := ones_dp (K := K) (H := upd J2 z (.lst [])) (kd.gs.filter (grLive ks F'))
            refine ⟨.list ds, .list [], .lst (SqL.of (Sz _ _ jD)) d1, .lst (SqL.of upd_same) .nil, shaped_list d2 (by omega), shaped_list (fun _ z => (by cases z)) (by simp [PyData.depthAll]), _, rfl, ?_⟩
            rw [eqv_empty, d4, any_len]
            have ej : kd.gs.any (grLive ks F') = jB ks n F' := by
              unfold jB
              rw [← kn, gsOf_eq nd mk]
            rw [ej]
            refine ite2 (fun hc => ?_) fun hc => ?_
            · refine ⟨_, rfl, .inl ⟨rfl, _, SqL.of (S45 _ _ jp)⟩, _, rfl, p, _, _, rfl, rfl, S45 _ _ jp, small1000 (by rw [List.length_map]; omega), ?_⟩
              refine ⟨⟨_, _, rfl⟩, wr (KaG.Same.tr SJ S45), (KJ.same S45).wr (S45 _ _ jp), ?_, F' ++ [n], by rw [upd_same, List.map_append]; rfl, hP.add (jB_mono ks) mn hm hc⟩
              rw [upd_ne cp]
              exact S45 _ _ jc
            · exact ⟨⟨_, _, rfl⟩, KaG.Same.tr SJ S45, KJ.same S45, S45 _ _ jc, F', S45 _ _ jp, hP.skip hn fun q => absurd q hc⟩
      · rintro σ' J ⟨⟨x4, x5, rfl⟩, SJ, KJ, jc, F', jp, hP⟩
        rw [List.length_map] at hP
        exact ⟨⟨_, _, _, rfl⟩, SJ, KJ, F', jp, hP.ch, hP.done⟩
    · rintro σ' G ⟨⟨x3, x4, x5, rfl⟩, S, KG, F, gp, hC, ho⟩
      refine ⟨_, rfl, k p F G S pH gp hC (hC.clo nd (ho.imp id fun z => ?_))⟩
      rw [lkv] at z
      rw [List.length_map]
      exact z
end
end KaG


set_option maxRecDepth 100000
set_option maxHeartbeats 4000000
namespace KaG
open PySem PySem.Spec PyProof.Rows L2 KaC
theorem Chs.isL {names : List Str} {J : Jn} {F : List Str} (mo : Mono J) (h : Chs names J F) (c : Clo names J F) : IsL names J (names.filter fun n => decide (n ∈ F)) := by
  have mem : ∀ n, n ∈ names.filter (fun n => decide (n ∈ F)) ↔ n ∈ F := fun n => by
    rw [List.mem_filter, decide_eq_true_eq]
    exact ⟨fun z => z.2, fun z => ⟨h.sub n z, z⟩⟩
  refine ⟨?_, fun n mn j => (mem n).mpr (c n mn (mo n _ F (fun x z => (mem x).mp z) j)), fun S hS n m => h.lst S hS n ((mem n).mp m)⟩
  refine List.filter_congr fun n _ => decide_eq_decide.mpr (mem n).symm
theorem Chs.meml {names : List Str} {J : Jn} {F : List Str} (mo : Mono J) (h : Chs names J F) (c : Clo names J F) : IsL names J (lfp names J) ∧ ∀ n, n ∈ F ↔ n ∈ lfp names J := by
  have i := h.isL mo c
  have e := i.eq
  rw [← e]
  exact ⟨i, h.mem c i⟩
theorem ts_dk {H : Hp} {p : Addr} {xs ys : List (Key × V)} (e : H p = some (.dK xs)) : TSame H (upd H p (.dK ys)) := fun b zs q => by
  rw [upd_ne (fun z => by rw [z, e] at q; cases q)]
  exact q
theorem KdsD.dwr {G : Hp} {d p : Addr} {ks : List Kd} {ts : List Addr} {xs ys : List (Key × V)} (h : KdsD G d ks ts) (ne : d ≠ p) (e : G p = some (.dK xs)) : KdsD (upd G p (.dK ys)) d ks ts :=
  ⟨by rw [upd_ne ne]; exact h.d, Paired.mono' (fun _ _ q => KdT.ts q (ts_dk e)) h.t⟩
section
variable {P : Program} {w : World} {K : PySem.W.Frag} {mg : Str → Option Value} {base : Heap}
abbrev sLLive : Stmt := top 43
abbrev nmLL : List Str := ["rulebook", "kinds", "bearing", "found", "name", "grounds", "k"]
theorem scLL : FnScope nmLL ["rulebook"] (defScope sLLive) := ⟨rfl, rfl, rfl, by decide +kernel, rfl, by decide +kernel, by decide +kernel⟩
def spLLive : Sp := fun vs H Q _ => ∃ (b : Addr) (rows : List Str) (ks : List Kd), vs = [.ref b] ∧ BookAt H b rows ks ∧ BookOk rows ks ∧ ∀ (d : Addr) (ls : List Addr) (H' : Hp), Same H H' → H d = none → LiveD H H' d ks ls → Q (.ref d) H'
theorem ok_lLive {f fK fM fB : Addr} {fd fdK fdM fdB : FuncData} (F : Fun K "_law_live" "_law_live" sLLive f fd) (T : TxtC mg) (CK : Ct P w K mg base "_law_kinds_of" 1 ["rulebook"] spKindsO fK fdK) (CM : Ct P w K mg base "_law_is_met" 1 ["kinds", "found", "ground"] spIsMet fM fdM)
    (CB : Ct P w K mg base "_law_bearing" 2 ["rulebook"] spLBear fB fdB) : FnOk P w K mg base CX0 3 f fd ["rulebook"] spLLive := by
  refine F.ok scLL (fun vs H Q E h => ?_) (fun cdv A outer s H vs Q E hr h => ?_)
  · obtain ⟨b, rows, ks, rfl, _⟩ := h
    rfl
  · obtain ⟨b, rows, ks, rfl, hA, hO, k⟩ := h
    have u1 := hu_of hr
    have hr1 : Room 1 (A.deeper (envOfC "_law_live" (defScope sLLive) s.heap.objs.size f cdv)) := hr.mono (by decide)
    refine ⟨_, (pss_cons (ps_asg (pe_tup (pa_cons (pe_call CK.G hr1 (by rfl) CK.m CK.kp CK.b .nil pass0 (pa_cons (pv 0) pa_nil)) (pa_cons (pe_call CB.G hr (by rfl) CB.m CB.kp CB.b .nil pass0 (pa_cons (pv 0) pa_nil)) pa_nil))) (pg_tup (by rfl) (pgs_cons (pg_name (i := 1) scLL.nd rfl (Or.inr rfl)) (pgs_cons (pg_name (i := 2) scLL.nd rfl (Or.inr rfl)) pgs_nil))))
      (pss_cons (ps_set (i := 3) scLL.nd rfl (Or.inl rfl) pe_dnewK)
      (pss_cons (ps_for PassesOwn.never rfl (pi_list (pe_callB (call_sortedD (by rfl)) (by rfl) T.sor (by decide +kernel) (pa_cons (pv 1) pa_nil))) (pg_name (i := 4) scLL.nd rfl (Or.inl rfl))
          (pss_cons (ps_set (i := 5) scLL.nd rfl (Or.inr rfl) (pe_ix (r := rIxT K) ix_tup (pe_dget u1 (pv 1) (pv 4) (fun _ _ => rfl)) pe_int (fun _ _ => rfl)))
          (pss_one (ps_dput u1 (pv 3) (pv 4) (pe_lc (own := [("k", 6)]) (g := gName 6) (wi := iRng1 (tCons (tCB (rLen K) (tCons (tVar 5) tNil)) tNil)) (tt := tB (tCall spIsMet [] E0 (tCons (tVar 1) (tCons (tVar 2) (tCons (tOp (rIxT K) (tVar 5) (tVar 6)) tNil))))) (te := tVar 6) (by rfl) scLL.nd
              (pi_range1 rfl T.b.range (pa_cons (pe_callB (r := rLen K) call_len_seq (by rfl) T.b.len PySem.boot_len (pa_cons (pv 5) pa_nil)) pa_nil)) (blkOk_by (own := [("k", 6)]) (N := nmLL) (sc := defScope sLLive) (by decide +kernel)) (fun _ _ _ _ _ => pg_name (i := 6) scLL.nd rfl (Or.inl rfl))
              (fun _ _ _ _ _ => pts_one (pt_val (pe_call CM.G hr1 (by rfl) CM.m CM.kp CM.b .nil pass0 (pa_cons (pv 1) (pa_cons (pv 2) (pa_cons (pe_ix (r := rIxT K) ix_tup (pv 5) (pv 6) (fun _ _ => rfl)) pa_nil))))))
              (fun _ _ _ _ _ => pv 6)) rfl))))
      (pss_one (ps_ret (pv 3)))))), ?_⟩
    have hk5 := hO.k5
    have nd := hO.nm.nd
    refine ⟨_, rfl, b, rows, ks, rfl, hA, hO, fun d ts H1 S1 nd0 KD => ?_⟩
    refine ⟨_, rfl, b, rows, ks, rfl, hA.ts (TSame.of S1), hO, fun fb Fb H2 S2 nfb efb hC hcl => ⟨by show 2 ≤ sizeLine; decide, fun t0 nt0 => ?_⟩⟩
    refine ⟨t0, _, rfl, SqT.of upd_same, by rfl, _, _, rfl, _, _, rfl, rfl, ?_⟩
    have s3 := same_upd (o := .tup [.ref d, .ref fb]) nt0
    have S3 := KaG.Same.tr S1 (KaG.Same.tr S2 s3)
    have KD3 := KD.same (KaG.Same.tr S2 s3)
    have efb3 := s3 _ _ efb
    generalize upd H2 t0 (.tup [.ref d, .ref fb]) = H3 at S3 KD3 efb3 ⊢
    obtain ⟨hLB, mem⟩ := hC.meml (jB_mono ks) hcl
    have gcg : grLive ks Fb = grLive ks (bearOf ks) := grLive_cg mem
    intro d2 nd2
    have s4 := same_upd (o := .dK []) nd2
    have S4 := KaG.Same.tr S3 s4
    have KD4 := KD3.same s4
    have efb4 := s4 _ _ efb3
    have dd : d ≠ d2 := fun z => by have := KD3.d; rw [z, nd2] at this; cases this
    have d2H : H d2 = none := same_non S3 d2 nd2
    have ed2 : upd H3 d2 (.dK []) d2 = some (.dK []) := upd_same
    generalize upd H3 d2 (.dK []) = H4 at S4 KD4 efb4 ed2 ⊢
    refine ⟨_, rfl, d, kvsOf ks ts, ks.map Kd.name, rfl, .inl KD4.d, kvs_keysN KD4.t, by rw [List.length_map]; omega, fun ys c pm srt nc => ?_⟩
    obtain rfl : ys = ks.map Kd.name := sorted_one hO.nm.of hO.nm.up srt pm
    have sc := same_upd (o := .lst ((ks.map Kd.name).map V.str)) nc
    have cd2 : c ≠ d2 := fun z => by rw [z, ed2] at nc; cases nc
    have ed5 := sc _ _ ed2
    have KD5 := KD4.same sc
    have S5 := KaG.Same.tr S4 sc
    have efb5 := sc _ _ efb4
    have ec : upd H4 c (.lst ((ks.map Kd.name).map V.str)) c = some (.lst ((ks.map Kd.name).map V.str)) := upd_same
    generalize upd H4 c (.lst ((ks.map Kd.name).map V.str)) = H5 at ed5 KD5 S5 efb5 ec ⊢
    refine ⟨c, rfl, ⟨_, SqL.of ec⟩, for_list (K := K) (a := c) (xs := (ks.map Kd.name).map V.str) (fun j σ' J => (∃ x4 x5 x6 : Option V, σ' = [some (.ref b), some (.ref d), some (.ref fb), some (.ref d2), x4, x5, x6]) ∧ Same H J ∧ KdsD J d ks ts ∧ J c = some (.lst ((ks.map Kd.name).map V.str)) ∧ J fb = some (.lst (Fb.map V.str)) ∧ ∃ ls : List Addr, J d2 = some (.dK (kvsOf (ks.take j) ls)) ∧ Paired (fun (l : Addr) (k : Kd) => H l = none ∧ J l = some (.lst (ixV (liveIx ks (bearOf ks) k.name)))) ls (ks.take j)) ?_ ?_ ?_ ?_⟩
    · exact ⟨⟨_, _, _, rfl⟩, S5, KD5, ec, efb5, [], ed5, .nil⟩
    · rintro j σ' J _ ⟨_, _, _, e, _⟩
      exact SqL.of e
    · rintro j x σ' J hx ⟨⟨x4, x5, x6, rfl⟩, SJ, KJ, jc, jfb, ls, jd2, pl⟩
      rw [List.getElem?_map] at hx
      obtain ⟨n, hn, rfl⟩ := Option.map_eq_some_iff.mp hx
      rw [List.getElem?_map] at hn
      obtain ⟨kd, hkd, rfl⟩ := Option.map_eq_some_iff.mp hn
      have mk : kd ∈ ks := List.mem_of_getElem? hkd
      have hj : j < ks.length := (List.getElem?_eq_some_iff.mp hkd).1
      obtain ⟨tl, ev, gt, gas, y1, y2, y3⟩ := kvs_get nd KJ.t mk
      have lg := paired_len y3
      have g4 := (hO.num kd mk).2.2.2.2
      have ll := paired_len pl
      rw [List.length_take] at ll
      have tk : ks.take (j + 1) = ks.take j ++ [kd] := by rw [List.take_add_one, hkd]; rfl
      refine ⟨_, rfl, _, rfl, d, .ref tl, rfl, by rw [← ev]; exact DGet.k (k := Sum.inr kd.name) KJ.d, tl, _, 2, .ref gt, rfl, rfl, SqT.of y1, rfl, ?_⟩
      refine ⟨_, rfl, gt, _, rfl, .inr (SqT.of y2), _, rfl, by omega, by rw [List.length_map]; omega, fun D hD => lc_range (fun i J2 => Same J J2 ∧ J2 D = some (.lst (ixV (atsTo (grLive ks (bearOf ks)) kd.gs i)))) ?_ ?_ ?_⟩
      · exact ⟨same_upd hD, upd_same⟩
      · rintro i J2 hi ⟨S6, jD⟩
        rw [List.length_map, Int.toNat_natCast] at hi
        rw [Int.zero_add]
        obtain ⟨ga, hga⟩ : ∃ ga, gas[i]? = some ga := ⟨_, List.getElem?_eq_getElem hi⟩
        obtain ⟨gr, hgr, eGr⟩ := paired_at y3 hga
        have mg' := List.mem_of_getElem? hgr
        have le := atsTo_le (t := grLive ks (bearOf ks)) (xs := kd.gs) (n := i)
        refine ⟨rfl, _, rfl, _, rfl, _, rfl, _, rfl, gt, _, _, .ref ga, rfl, rfl, SqT.of (S6 _ _ y2), atI_nat (by rw [List.getElem?_map, hga]; rfl), ?_⟩
        refine ⟨d, fb, ga, rows, ks, ts, Fb, gr, rfl, KJ.same S6, hO, .inl (S6 _ _ jfb), Grd.ts eGr (TSame.of S6), hO.gr mk mg', fun J3 S7 => ⟨_, rfl, ?_⟩⟩
        rw [gcg]
        refine ite2 (fun hc => ?_) fun hc => ?_
        · refine ⟨_, rfl, _, S7 _ _ jD, small1000 (by rw [ixV_len]; omega), fun b u e => by rw [upd_ne (ne_of_none e hD)]; exact S7 _ _ (S6 b u e), ?_⟩
          rw [upd_same, atsTo_succ hgr, if_pos hc]
          unfold ixV
          rw [List.map_append]
          rfl
        · refine ⟨KaG.Same.tr S6 S7, ?_⟩
          rw [S7 _ _ jD, atsTo_succ hgr, if_neg hc, List.append_nil]
      · rintro J2 ⟨S6, jD⟩
        rw [List.length_map, Int.toNat_natCast, lg, atsTo_all] at jD
        have jd22 := S6 _ _ jd2
        have nDd : D ≠ d2 := fun z => by rw [z, jd2] at hD; cases hD
        refine ⟨_, rfl, _, rfl, d2, _, rfl, DPut.k (k := Sum.inr kd.name) jd22 (small1000 (by rw [kvs_len (by rw [List.length_take]; exact ll), List.length_take]; omega)), ?_⟩
        refine ⟨⟨_, _, _, rfl⟩, fun b u e => by rw [upd_ne (ne_of_none e d2H)]; exact S6 _ _ (SJ b u e), (KJ.same S6).dwr dd jd22, by rw [upd_ne cd2]; exact S6 _ _ jc, by rw [upd_ne (fun z => by rw [z, jd2] at jfb; cases jfb)]; exact S6 _ _ jfb, ls ++ [D], ?_, ?_⟩
        · rw [upd_same, putK_new, tk, kvs_snoc (by rw [List.length_take]; exact ll.symm)]
          refine kvs_no fun k hk e => ?_
          obtain ⟨i, hi⟩ := List.mem_iff_getElem?.mp hk
          have hij : i < j := by
            have := (List.getElem?_eq_some_iff.mp hi).1
            rw [List.length_take] at this
            omega
          rw [List.getElem?_take_of_lt hij] at hi
          have h1 : (ks.map Kd.name)[i]? = some k.name := by rw [List.getElem?_map, hi]; rfl
          have h2 : (ks.map Kd.name)[j]? = some k.name := by rw [List.getElem?_map, hkd, e]; rfl
          have := (List.getElem?_inj (List.getElem?_eq_some_iff.mp h1).1 nd).mp (h1.trans h2.symm)
          omega
        · rw [tk]
          refine paired_snoc ⟨same_non SJ D hD, ?_⟩ (Paired.mono' (fun l k h => ⟨h.1, by rw [upd_ne (fun z => by have := h.2; rw [z, jd2] at this; cases this)]; exact S6 _ _ h.2⟩) pl)
          rw [upd_ne nDd, jD]
          unfold liveIx
          rw [gsOf_eq nd mk]
    · rintro σ' J ⟨⟨x4, x5, x6, rfl⟩, SJ, KJ, jc, jfb, ls, jd2, pl⟩
      rw [List.length_map, List.length_map, List.take_length] at jd2 pl
      exact ⟨_, rfl, k d2 ls J SJ d2H ⟨jd2, pl⟩⟩
end
end KaG


set_option maxRecDepth 100000
set_option maxHeartbeats 4000000
namespace KaG
open PySem PySem.Spec PyProof.Rows L2 KaC
structure Pk (names : List Str) (J : Jn) (t j : Nat) (F : List Str) (n : Str) (xs : List Nat) (jk : Nat → List Str → Bool) (i : Nat) : Prop where
  ch : Chs names J F
  or : Clo names J F ∨ (t ≤ F.length ∧ (((∀ m ∈ names.take j, J m F = true → m ∈ F) ∧ ∀ k ∈ xs.take i, jk k F = true → n ∈ F) ∨ t + 1 ≤ F.length))
section
variable {names : List Str} {J : Jn} {t j i : Nat} {F : List Str} {n : Str} {xs : List Nat} {jk : Nat → List Str → Bool}
theorem Pk.start (h : Pg names J t j F) : Pk names J t j F n xs jk 0 := ⟨h.ch, h.or.imp id fun ⟨a, b⟩ => ⟨a, b.imp (fun y => ⟨y, fun k m => by simp at m⟩) id⟩⟩
theorem Pk.add (mo : Mono J) (h : Pk names J t j F n xs jk i) (mn : n ∈ names) (nF : n ∉ F) (e : J n F = true) : Pk names J t j (F ++ [n]) n xs jk (i + 1) := by
  refine ⟨h.ch.add mo mn nF e, ?_⟩
  rcases h.or with c | ⟨c, _⟩
  · exact absurd (c n mn e) nF
  · exact .inr ⟨by rw [List.length_append]; omega, .inr (by rw [List.length_append]; show t + 1 ≤ F.length + 1; omega)⟩
theorem Pk.skip {k : Nat} (h : Pk names J t j F n xs jk i) (hx : xs[i]? = some k) (e : jk k F = true → n ∈ F) : Pk names J t j F n xs jk (i + 1) := by
  refine ⟨h.ch, h.or.imp id fun ⟨c, d⟩ => ⟨c, d.imp (fun y => ⟨y.1, fun x m => ?_⟩) id⟩⟩
  rw [List.take_add_one, hx] at m
  rcases List.mem_append.mp m with z | z
  · exact y.2 x z
  · rw [List.mem_singleton.mp (show x ∈ [k] from z)]
    exact e
theorem Pk.done (h : Pk names J t j F n xs jk xs.length) (hJ : J n F = true → ∃ k ∈ xs, jk k F = true) (hn : names[j]? = some n) : Pg names J t (j + 1) F := by
  refine ⟨h.ch, h.or.imp id fun ⟨c, d⟩ => ⟨c, d.imp (fun y m mm => ?_) id⟩⟩
  rw [List.take_add_one, hn] at mm
  rcases List.mem_append.mp mm with z | z
  · exact y.1 m z
  · rw [List.mem_singleton.mp (show m ∈ [n] from z)]
    intro e
    obtain ⟨k, mk, ek⟩ := hJ e
    exact y.2 k (by rw [List.take_length]; exact mk) ek
end
def ndBk (F : List Str) : List V → Bool
  | [.str _, .str p, .int _, .int _, .int _] => !decide (p ∈ F)
  | _ => false
def ndBr (S : List Str) : List V → Bool
  | [.str _, .str n, .int _, .int _] => decide (n ∈ S)
  | _ => false
theorem isEmpty_ats {α : Type} {t : α → Bool} {xs : List α} : (ats t xs).isEmpty = !xs.any t := by
  cases e : xs.any t with
  | false =>
    cases q : ats t xs with
    | nil => rfl
    | cons i r =>
      obtain ⟨x, h1, h2⟩ := ats_mem.mp (show i ∈ ats t xs by rw [q]; exact List.mem_cons_self)
      rw [List.any_eq_false] at e
      exact absurd h2 (e x (List.mem_of_getElem? h1))
  | true =>
    obtain ⟨x, m, hx⟩ := List.any_eq_true.mp e
    obtain ⟨i, hi⟩ := List.mem_iff_getElem?.mp m
    have := ats_mem.mpr ⟨x, hi, hx⟩
    cases q : ats t xs with
    | nil => rw [q] at this; cases this
    | cons => rfl
theorem bad_eq {rows names : List Str} {S F : List Str} {g : Gr} (h : ∀ it ∈ g, NeedV rows names it) : decide ((g.filter (ndBk F) ++ g.filter (ndBr S)).length = 0) = (forcedPl S F g).isEmpty := by
  unfold forcedPl
  rw [isEmpty_ats]
  have e : ∀ it ∈ g, ndForced S F it = (ndBk F it || ndBr S it) := fun it m => by
    have nv := h it m
    cases nv with
    | row n t u h => rfl
    | kind n a t u h => show _ = (_ || false); rw [Bool.or_false]; rfl
  cases q : g.any (ndForced S F) with
  | false =>
    rw [List.any_eq_false] at q
    have f1 : g.filter (ndBk F) = [] := List.filter_eq_nil_iff.mpr fun a m z => q a m (by rw [e a m, z]; rfl)
    have f2 : g.filter (ndBr S) = [] := List.filter_eq_nil_iff.mpr fun a m z => q a m (by rw [e a m, z, Bool.or_true])
    rw [f1, f2]
    rfl
  | true =>
    obtain ⟨a, m, z⟩ := List.any_eq_true.mp q
    rw [e a m] at z
    refine decide_eq_false fun y => ?_
    have nil := List.eq_nil_of_length_eq_zero y
    rcases Bool.or_eq_true _ _ ▸ z with z | z
    · have : a ∈ g.filter (ndBk F) ++ g.filter (ndBr S) := List.mem_append_left _ (List.mem_filter.mpr ⟨m, z⟩)
      rw [nil] at this
      cases this
    · have : a ∈ g.filter (ndBk F) ++ g.filter (ndBr S) := List.mem_append_right _ (List.mem_filter.mpr ⟨m, z⟩)
      rw [nil] at this
      cases this
section
variable {P : Program} {w : World} {K : PySem.W.Frag} {mg : Str → Option Value} {base : Heap}
theorem and_in {σ : L2.St} {c1 : Bool} {H : Hp} {Q' : VK} {n : Str} {p : Addr} {F : List Str} (i j : Nat) (hi : σ[i]? = some (some (.str n))) (hj : σ[j]? = some (some (.ref p))) (hin : SqL K H p (F.map V.str) ∨ SqT K H p (F.map V.str)) (h : ∀ c, c = (c1 && !decide (n ∈ F)) → Q' (.bl c) H) :
    if c1 = true then tOp (rIn K true) (tVar i) (tVar j) σ H Q' else Q' (.bl false) H := by
  cases c1 with
  | false => exact iteF (h false rfl)
  | true =>
    refine iteT ⟨_, hi, _, hj, p, F.map V.str, rfl, hin, rfl, flat_strs, ?_⟩
    rw [show (if true = true then !inV (V.str n) (List.map V.str F) else inV (V.str n) (List.map V.str F)) = !decide (n ∈ F) by rw [if_pos rfl, inV_str]]
    exact h _ (by rw [Bool.true_and])
abbrev nmLC : List Str := ["rulebook", "struck", "kinds", "live", "found", "turn", "name", "k", "ground", "bad", "need"]
def spLClean : Sp := fun vs H Q _ => ∃ (b sa : Addr) (rows : List Str) (ks : List Kd) (S : List Str), vs = [.ref b, .ref sa] ∧ BookAt H b rows ks ∧ BookOk rows ks ∧ Sq2 H sa (S.map V.str) ∧ ∀ (p : Addr) (F : List Str) (H' : Hp), Same H H' → H p = none → H' p = some (.lst (F.map V.str)) → Chs (nmsOf ks) (jC ks (bearOf ks) S) F → Clo (nmsOf ks) (jC ks (bearOf ks) S) F → Q (.ref p) H'
end
end KaG


set_option maxRecDepth 100000
set_option maxHeartbeats 4000000
namespace KaG
open PySem PySem.Spec PyProof.Rows L2 KaC
theorem ints_dp {K : PySem.W.Frag} {H : Hp} : ∀ (xs : List Nat), ∃ ds, DpAll K H (ixV xs) ds ∧ (∀ d ∈ ds, d.canLay0 = true) ∧ PyData.depthAll ds ≤ 1 ∧ ds.length = xs.length
  | [] => ⟨[], .nil, (fun _ z => nomatch z), by simp [PyData.depthAll], rfl⟩
  | x :: r => by
    obtain ⟨ds, h1, h2, h3, h4⟩ := ints_dp (K := K) (H := H) r
    exact ⟨.int (x : Int) :: ds, .cons (.int (x : Int)) h1, fun d m => by
      rcases List.mem_cons.mp m with z | z
      · rw [z]; simp [PyData.canLay0]
      · exact h2 d z, by rw [PyData.depthAll]; simp only [PyData.depth]; omega, by rw [List.length_cons, List.length_cons, h4]⟩
section
variable {P : Program} {w : World} {K : PySem.W.Frag} {mg : Str → Option Value} {base : Heap}
abbrev nmLF : List Str := ["struck", "clean", "ground", "found", "k", "free"]
end
end KaG


set_option maxRecDepth 100000
set_option maxHeartbeats 4000000
namespace KaG
open PySem PySem.Spec PyProof.Rows L2 KaC
theorem placesOn_emp {g : Gr} {A : List Str} : (placesOn g A).isEmpty = !g.any (ndOn A) := isEmpty_ats
theorem jA_cg {ks : List Kd} {B S C C' : List Str} (h : ∀ n, n ∈ C ↔ n ∈ C') : jA ks B S C = jA ks B S C' := by
  funext n A
  unfold jA
  rw [forcedPl_cg h]
section
variable {P : Program} {w : World} {K : PySem.W.Frag} {mg : Str → Option Value} {base : Heap}
abbrev nmLA : List Str := ["rulebook", "struck", "kinds", "live", "found", "clean", "turn", "name", "k", "ground", "good", "need", "is_able"]
def spLAble : Sp := fun vs H Q _ => ∃ (b sa : Addr) (rows : List Str) (ks : List Kd) (S : List Str), vs = [.ref b, .ref sa] ∧ BookAt H b rows ks ∧ BookOk rows ks ∧ Sq2 H sa (S.map V.str) ∧ ∀ (p : Addr) (F : List Str) (H' : Hp), Same H H' → H p = none → H' p = some (.lst (F.map V.str)) → Chs (nmsOf ks) (jA ks (bearOf ks) S (cleanOf ks S)) F → Clo (nmsOf ks) (jA ks (bearOf ks) S (cleanOf ks S)) F → Q (.ref p) H'
end
end KaG


set_option maxRecDepth 100000
set_option maxHeartbeats 2000000
/-! keys of any depth (KE.KeyNested) in a set -/
namespace KaN
open PySem PyProof.Rows L2
section
variable {P : Program} {w : World}
/-- v is of no class statement, n levels down -/
def Plain (P : Program) (w : World) (n : Nat) (s : Shared) (v : Value) : Prop := ∀ (A : Around) (E : Value → Shared → Prop) (Q : Bool → Shared → Prop), Q false s → wpAny (model P w) A (ofAClassStatement n v) Q E s
theorem Plain.tuple {n m : Nat} {s : Shared} {a : Addr} {o : Obj} {vs : Array Value} (ho : s.heap.get? a = some o) (hc : o.cls = .type "tuple") (hd : o.data = .seq vs m) (hq : ∀ v ∈ vs.toList, Plain P w n s v) : Plain P w (n + 1) s (.ref a) := fun A E Q q => by
  have hT : s.TypeIs (.ref a) "tuple" := ⟨o, ho, hc⟩
  have e : (("tuple" : String) == "tuple") = true := by decide +kernel
  unfold ofAClassStatement; refine wpAny_bind (wpAny_typeOf hT ?_); dsimp only
  simp only [e, if_true, Bool.not_true, Bool.false_eq_true, if_false]; try refine wpAny_bind (wpAny_pure ?_)
  try simp only [Bool.not_true, Bool.false_eq_true, if_false, if_true]
  refine wpAny_bind (m := seqItems? (.ref a)) (wpAny_seqItems ho hd ?_); dsimp only
  refine wpAny_bind ?_; change wpAny _ _ (forIn vs _ _) _ _ s; rw [← Array.forIn_toList]
  refine wpAny_forIn_list _ (fun rest r s1 => (r.1 = none ∧ s1 = s) ∧ ∀ v ∈ rest, Plain P w n s v) _ ?_ ?_ _ _ ⟨⟨rfl, rfl⟩, hq⟩
  · rintro v rest r s1 ⟨⟨hr, rfl⟩, all⟩
    refine wpAny_bind (all v (List.mem_cons_self ..) _ _ _ ?_); simp only [Bool.false_eq_true, if_false]
    exact wpAny_pure ⟨⟨rfl, rfl⟩, fun u m => all u (List.mem_cons_of_mem _ m)⟩
  · rintro ⟨r1, r2⟩ s1 ⟨⟨hr, rfl⟩, _⟩
    simp only at hr; subst hr; exact wpAny_pure q
theorem Plain.flat {n : Nat} {s : Shared} {v : Value} (h : ∀ a, v ≠ .ref a) : Plain P w n s v := fun A E Q q => by
  have : ofAClassStatement n v = pure false := by
    cases n <;> cases v <;> first | rfl | exact absurd rfl (h _)
  rw [this]; exact wpAny_pure q
mutual
theorem plain_key : ∀ (k : NestedKey) (v : Value) (n : Nat) (s : Shared), NestedIs s.heap k v → k.depth ≤ n → Plain P w n s v
  | .none, _, n, s, x, _ => by cases x; exact .flat fun _ z => nomatch z
  | .num i, _, n, s, x, _ => by cases x <;> exact .flat fun _ z => nomatch z
  | .text y, _, n, s, x, _ => by cases x; exact .flat fun _ z => nomatch z
  | .tup ks, _, n, s, x, hn => by
    cases x with
    | tup g1 g2 g3 g4 =>
      rw [NestedKey.depth] at hn
      match n, hn with
      | n + 1, hn => exact .tuple g1 g2 g3 (plain_keys ks _ n s g4 (Nat.le_of_succ_le_succ hn))
theorem plain_keys : ∀ (ks : List NestedKey) (vs : List Value) (n : Nat) (s : Shared), NestedAll s.heap ks vs → NestedKey.depthAll ks ≤ n → ∀ v ∈ vs, Plain P w n s v
  | [], _, n, s, x, _, v, m => by cases x; cases m
  | k :: ks, _, n, s, x, hn, v, m => by
    cases x with
    | cons x1 x2 =>
      rw [NestedKey.depthAll] at hn
      rcases List.mem_cons.mp m with e | m
      · subst e; exact plain_key k _ n s x1 (Nat.le_trans (Nat.le_max_left ..) hn)
      · exact plain_keys ks _ n s x2 (Nat.le_trans (Nat.le_max_right ..) hn) v m
end
/-- a key of this kind at an address -/
abbrev IsN (h : Heap) (k : NestedKey) (a : Addr) : Prop := NestedIs h k (.ref a) ∧ k.depth ≤ 8
/-- a search among such keys shows nothing -/
theorem seen_key {A : Around} {E : Value → Shared → Prop} {s : Shared} {k : NestedKey} {b : Addr} {Q : Bool → Shared → Prop} (hk : IsN s.heap k b) {ys : List Value} (hy : ∀ y ∈ ys, ∃ k' c, y = Value.ref c ∧ IsN s.heap k' c) (q : Q false s) :
    wpAny (model P w) A (searchCouldBeSeen (.ref b) ys) Q E s := by
  unfold searchCouldBeSeen; refine wpAny_bind ?_
  refine wpAny_forIn_list _ (fun rest r s1 => (r.1 = none ∧ s1 = s) ∧ ∀ y ∈ rest, ∃ k' c, y = Value.ref c ∧ IsN s.heap k' c) _ ?_ ?_ _ _ ⟨⟨rfl, rfl⟩, hy⟩
  · rintro v rest r s1 ⟨⟨hr, rfl⟩, all⟩
    obtain ⟨k1, c, rfl, hc⟩ := all v (List.mem_cons_self ..)
    have on : ∀ y ∈ rest, ∃ k' c, y = Value.ref c ∧ IsN s1.heap k' c := fun u m => all u (List.mem_cons_of_mem _ m)
    dsimp only
    by_cases hv : (b == c || (carriedByValue (.ref b) && carriedByValue (.ref c))) = true
    · exact wp_if_pos hv (wpAny_pure ⟨⟨rfl, rfl⟩, on⟩)
    · refine wp_if_neg hv (wpAny_bind (quiet_key k _ 8 s1 hk.1 hk.2 _ _ _ ?_)); simp only [Bool.not_true, Bool.false_eq_true, if_false]
      refine wpAny_bind (quiet_key k1 _ 8 s1 hc.1 hc.2 _ _ _ ?_); simp only [Bool.not_true, Bool.false_eq_true, if_false]
      refine wpAny_bind (plain_key k _ 8 s1 hk.1 hk.2 _ _ _ ?_); simp only [Bool.false_eq_true, if_false]
      refine wpAny_bind (plain_key k1 _ 8 s1 hc.1 hc.2 _ _ _ ?_); simp only [Bool.false_eq_true, if_false]
      exact wpAny_pure ⟨⟨rfl, rfl⟩, on⟩
  · rintro ⟨r1, r2⟩ s1 ⟨⟨hr, rfl⟩, _⟩
    simp only at hr; subst hr; exact wpAny_pure q
end
end KaN


set_option maxRecDepth 100000
set_option maxHeartbeats 2000000
/-! a small set of such keys: what a search finds, what is put in -/
namespace KaN
open PySem PyProof.Rows L2
section
variable {P : Program} {w : World}
/-- hashed by value or not: some answer comes -/
def Told (P : Program) (w : World) (n : Nat) (s : Shared) (v : Value) : Prop := ∀ (A : Around) (E : Value → Shared → Prop) (Q : Bool → Shared → Prop), (∀ b, Q b s) → wpAny (model P w) A (hashByValue n v) Q E s
theorem Told.lit {n : Nat} {s : Shared} {v : Value} (b : Bool) (h : hashByValue n v = pure b) : Told P w n s v := fun A E Q q => by rw [h]; exact wpAny_pure (q b)
theorem Told.tuple {n m : Nat} {s : Shared} {a : Addr} {o : Obj} {vs : Array Value} (ho : s.heap.get? a = some o) (hc : o.cls = .type "tuple") (hd : o.data = .seq vs m) (hq : ∀ v ∈ vs.toList, Told P w n s v) : Told P w (n + 1) s (.ref a) := fun A E Q q => by
  have hT : s.TypeIs (.ref a) "tuple" := ⟨o, ho, hc⟩
  unfold hashByValue; refine wpAny_bind (wpAny_specialOf hT F.slot_tuple_hash.lookup ?_)
  change wpAny _ _ (seqItems? (.ref a) >>= _) _ _ s
  refine wpAny_bind (wpAny_seqItems ho hd ?_)
  refine wpAny_bind ?_; change wpAny _ _ (forIn vs _ _) _ _ s; rw [← Array.forIn_toList]
  refine wpAny_forIn_list _ (fun rest r s1 => (r.1 = none ∧ s1 = s) ∧ ∀ v ∈ rest, Told P w n s v) _ ?_ ?_ _ _ ⟨⟨rfl, rfl⟩, hq⟩
  · rintro v rest r s1 ⟨⟨hr, rfl⟩, all⟩
    refine wpAny_bind (all v (List.mem_cons_self ..) _ _ _ fun b => ?_)
    cases b
    · simp only [Bool.not_false, if_true]
      exact wpAny_pure (wpAny_pure (q false))
    · simp only [Bool.not_true, Bool.false_eq_true, if_false]
      exact wpAny_pure ⟨⟨rfl, rfl⟩, fun u m => all u (List.mem_cons_of_mem _ m)⟩
  · rintro ⟨r1, r2⟩ s1 ⟨⟨hr, rfl⟩, _⟩
    simp only at hr; subst hr; exact wpAny_pure (q true)
mutual
theorem told_key : ∀ (k : NestedKey) (v : Value) (n : Nat) (s : Shared), NestedIs s.heap k v → k.depth ≤ n → Told P w n s v
  | .none, _, n, s, x, _ => by cases x; exact .lit true (by cases n <;> rfl)
  | .num i, _, n, s, x, _ => by cases x <;> exact .lit true (by cases n <;> rfl)
  | .text y, _, n, s, x, _ => by cases x; exact .lit false (by cases n <;> rfl)
  | .tup ks, _, n, s, x, hn => by
    cases x with
    | tup g1 g2 g3 g4 =>
      rw [NestedKey.depth] at hn
      match n, hn with
      | n + 1, hn => exact .tuple g1 g2 g3 (told_keys ks _ n s g4 (Nat.le_of_succ_le_succ hn))
theorem told_keys : ∀ (ks : List NestedKey) (vs : List Value) (n : Nat) (s : Shared), NestedAll s.heap ks vs → NestedKey.depthAll ks ≤ n → ∀ v ∈ vs, Told P w n s v
  | [], _, n, s, x, _, v, m => by cases x; cases m
  | k :: ks, _, n, s, x, hn, v, m => by
    cases x with
    | cons x1 x2 =>
      rw [NestedKey.depthAll] at hn
      rcases List.mem_cons.mp m with e | m
      · subst e; exact told_key k _ n s x1 (Nat.le_trans (Nat.le_max_left ..) hn)
      · exact told_keys ks _ n s x2 (Nat.le_trans (Nat.le_max_right ..) hn) v m
end

/-! ### the set as rows -/
abbrev Rw := Addr × NestedKey
def rws (w : World) (L : List Rw) : List (Int × Value) := L.map fun r => (r.2.hash w, Value.ref r.1)
abbrev hss (w : World) (L : List Rw) : List Int := L.map fun r => r.2.hash w
structure SetN (w : World) (h : Heap) (a : Addr) (L : List Rw) (es : Array (Int × Value)) (ep : Nat) (t : SetTable) : Prop where
  ob : ∃ o, h.get? a = some o ∧ o.ExactSet ∧ o.data = .set es ep t
  rows : es.toList = rws w L
  tab : TabOk t (hss w L)
  nd : (L.map (·.2)).Nodup
  keys : ∀ r ∈ L, IsN h r.2 r.1
  led : w.params.followText "set-order" = true ∨ t.led = true
  m7 : t.mask = 7
  few : L.length ≤ 4
variable {A : Around} {E : Value → Shared → Prop} {s : Shared} {a : Addr} {L : List Rw} {es : Array (Int × Value)} {ep : Nat} {t : SetTable}
theorem rws_len (h : es.toList = rws w L) : es.size = L.length := by
  have := congrArg List.length h
  rwa [rws, Array.length_toList, List.length_map] at this
theorem SetN.fit {h : Heap} (R : SetN w h a L es ep t) : t.fits es.size = true := by
  have h1 := R.tab.sz; have h2 := rws_len R.rows; have h3 := R.few; have h4 := R.m7
  rw [hss, List.length_map] at h1
  unfold SetTable.fits SetTable.fill
  simp only [R.tab.dm, Bool.and_eq_true, beq_iff_eq, decide_eq_true_eq]
  exact ⟨by omega, by show t.place.size + 0 ≤ t.mask; omega⟩
theorem SetN.row {h : Heap} (R : SetN w h a L es ep t) {i : Nat} {r : Rw} (e : L[i]? = some r) : es[i]? = some (r.2.hash w, Value.ref r.1) := by
  rw [← Array.getElem?_toList, R.rows, rws, List.getElem?_map, e]; rfl
theorem SetN.stays {h : Heap} (R : SetN w h a L es ep t) : ¬ t.gaveWay = true := by
  unfold SetTable.gaveWay; rw [R.m7]; decide
abbrev begN (t : SetTable) (h : Int) (c : Nat) : SetTable.Probe := nth t.mask (runAt t.mask (SetTable.bits h % (t.mask + 1)) (SetTable.bits h)) c
theorem begN_clean (t : SetTable) (h : Int) (c : Nat) : (begN t h c).dummy = none := by
  have go : ∀ (n : Nat) (p : SetTable.Probe), p.dummy = none → (nth t.mask p n).dummy = none := by
    intro n; induction n with
    | zero => exact fun p e => e
    | succ n ih => exact fun p e => ih _ (by unfold adv; split <;> exact e)
  exact go c _ rfl
theorem begN_add (t : SetTable) (h : Int) (c q : Nat) : nth t.mask (begN t h c) q = begN t h (c + q) := (nth_add t.mask c _ q).symm

/-- the search, from the c-th step on -/
theorem look_from (R : SetN w s.heap a L es ep t) {x : Addr} {k : NestedKey} (hx : IsN s.heap k x) (hu : A.units + 8 < cLine) {K : Nat} (hKf : K < 10 * SetTable.turns t.mask)
    (hK : way t.mask (k.hash w) K ∉ t.place.toList) (hKb : ∀ c, c < K → way t.mask (k.hash w) c ∈ t.place.toList) {Q : SetFound → Shared → Prop}
    (yes : k ∈ L.map (·.2) → Q (.there none) s) (no : k ∉ L.map (·.2) → Q (.free (way t.mask (k.hash w) K) false) s) :
    ∀ (f c : Nat) (st : Option SetTable.Probe), st.getD (t.probeStart (k.hash w)) = begN t (k.hash w) c → c ≤ K → K - c < f →
      (∀ (i : Nat) (r : Rw), L[i]? = some r → r.2 = k → ∃ d, c ≤ d ∧ d < K ∧ t.place.toList[i]? = some (way t.mask (k.hash w) d)) →
      wpAny (model P w) A (setSearchFrom a (.ref x) (k.hash w) true f st) Q E s
  | 0, c, st, _, _, hf, _ => absurd hf (Nat.not_lt_zero _)
  | f + 1, c, st, hst, hc, hf, hre => by
    obtain ⟨o, g1, g2, g3⟩ := R.ob
    have hfit := R.fit
    have e1 : ∀ q, (nth t.mask (begN t (k.hash w) c) q).j = way t.mask (k.hash w) (c + q) := fun q => by rw [begN_add]
    have hmore : c + (K - c) = K := by omega
    rw [setSearchFrom_succ]
    refine wpAny_bind (wpAny_setState_of g1 g3 hfit ?_); dsimp only
    refine wp_if_neg R.stays ?_
    try refine wpAny_bind (wpAny_pure ?_)
    have at_ : ∀ (i : Nat) (r : Rw), L[i]? = some r → (fun i => (es[i]?.map (·.1)).getD 0) i = r.2.hash w := fun i r hr => by
      dsimp only; rw [R.row hr]; rfl
    rcases go_spec t R.tab.ris R.tab.dm (fun i => (es[i]?.map (·.1)).getD 0) (k.hash w) (10 * SetTable.turns t.mask) (K - c) (begN t (k.hash w) c) (begN_clean ..) (by omega)
      (fun q hq => by rw [e1]; exact hKb _ (by omega)) (by rw [e1, hmore]; exact hK) with ⟨q, i, hq, hi, _, hno, hpr⟩ | ⟨hno, hpr⟩
    · have hp : t.probe (fun i => (es[i]?.map (·.1)).getD 0) (k.hash w) (st.getD (t.probeStart (k.hash w))) = some (.candidate (way t.mask (k.hash w) (c + q)) i (begN t (k.hash w) (c + (q + 1)))) := by
        rw [hst, ← e1, ← begN_add]; exact hpr
      rw [hp]; dsimp only; rw [e1] at hi
      have hil : i < L.length := by
        have h1 := (List.getElem?_eq_some_iff.mp hi).1; have h2 := R.tab.sz
        rw [hss, List.length_map] at h2; rw [Array.length_toList] at h1; omega
      obtain ⟨r, hr⟩ : ∃ r, L[i]? = some r := ⟨_, List.getElem?_eq_getElem hil⟩
      have hm := List.mem_of_getElem? hr
      have hrk := R.keys r hm
      have rest : wpAny (model P w) A (searchRest a (.ref x) (k.hash w) true f es t (way t.mask (k.hash w) (c + q)) i (begN t (k.hash w) (c + (q + 1)))) Q E s := by
        unfold searchRest; rw [R.row hr]; dsimp only
        refine wpAny_bind (wpAny_holding (eqAt_key r.2 k A s _ _ hrk.1 hx.1 (by have := hrk.2; omega) _ _ _ _ ?_))
        refine wpAny_bind (wpAny_setState_of g1 g3 hfit ?_); dsimp only
        rw [← NestedKey.decide_eq]
        by_cases hkk : r.2 = k
        · refine wp_if_pos (by simp [hkk]) (wpAny_pure (yes (List.mem_map.mpr ⟨r, hm, hkk⟩)))
        · refine wp_if_neg (by simp [hkk]) ?_
          try refine wpAny_bind (wpAny_pure ?_)
          rw [sameMem]; dsimp only
          have hsl := slot_live R.tab.ris hi
          simp only [if_true, hsl, R.row hr]
          refine wpAny_bind (wpAny_isSame_ref_self (wpAny_bind (wpAny_pure ?_))); simp only [if_true]
          refine wp_if_neg (by simp [hkk]) ?_
          refine look_from R hx hu hKf hK hKb yes no f (c + (q + 1)) _ rfl (by omega) (by omega) fun j r2 hj hk2 => ?_
          obtain ⟨d, d1, d2, d3⟩ := hre j r2 hj hk2
          refine ⟨d, ?_, d2, d3⟩
          rcases Nat.lt_trichotomy d (c + q) with z | z | z
          · exact absurd ((at_ j r2 hj).trans (by rw [hk2])) (hno (d - c) j (by omega) (by rw [e1, show c + (d - c) = d by omega]; exact d3))
          · rw [z] at d3
            have q1 := slot_live R.tab.ris d3
            rw [hsl] at q1; injection q1 with q1
            rw [← q1, hr] at hj
            exact absurd ((congrArg Prod.snd (Option.some.inj hj)).trans hk2) hkk
          · omega
      by_cases hl : t.led = true
      · refine wp_if_neg (by simp [hl]) ?_
        try refine wpAny_bind (wpAny_pure ?_)
        exact rest
      · refine wp_if_pos (by simp [hl]) (wpAny_bind (seen_key hx (fun y hy => ?_) ?_))
        · obtain ⟨z, hz, rfl⟩ := List.mem_map.mp hy
          have hz2 : z ∈ es.toList := by
            have : z ∈ es ∧ z.1 = k.hash w := by simpa using hz
            simpa using this.1
          rw [R.rows] at hz2
          obtain ⟨r2, hr2, rfl⟩ := List.mem_map.mp hz2
          exact ⟨r2.2, r2.1, rfl, R.keys r2 hr2⟩
        · refine wp_if_neg (by decide) ?_
          try refine wpAny_bind (wpAny_pure ?_)
          exact rest
    · have hp : t.probe (fun i => (es[i]?.map (·.1)).getD 0) (k.hash w) (st.getD (t.probeStart (k.hash w))) = some (.empty (way t.mask (k.hash w) K) none) := by
        have e2 : way t.mask (k.hash w) K = (nth t.mask (begN t (k.hash w) c) (K - c)).j := by rw [e1, hmore]
        rw [hst, e2]; exact hpr
      rw [hp]; dsimp only
      refine wpAny_pure (no fun hm => ?_)
      obtain ⟨r2, hr2, hk2⟩ := List.mem_map.mp hm
      obtain ⟨j, hj⟩ := List.mem_iff_getElem?.mp hr2
      obtain ⟨d, d1, d2, d3⟩ := hre j r2 hj hk2
      exact absurd ((at_ j r2 hj).trans (by rw [hk2])) (hno (d - c) j (by omega) (by rw [e1, show c + (d - c) = d by omega]; exact d3))
/-- the search, whole -/
theorem look_at (R : SetN w s.heap a L es ep t) {x : Addr} {k : NestedKey} (hx : IsN s.heap k x) (hu : A.units + 8 < cLine) {Q : SetFound → Shared → Prop} (yes : k ∈ L.map (·.2) → Q (.there none) s)
    (no : ∀ K, k ∉ L.map (·.2) → way t.mask (k.hash w) K ∉ t.place.toList → (∀ c, c < K → way t.mask (k.hash w) c ∈ t.place.toList) → Q (.free (way t.mask (k.hash w) K) false) s) :
    wpAny (model P w) A (setSearch a (.ref x) (k.hash w) true) Q E s := by
  have hfew := R.few
  obtain ⟨K, hKf, hK, hKb⟩ := R.tab.first (by rw [hss, List.length_map, R.m7]; omega) (k.hash w)
  have big : K < 100000 := by
    have : SetTable.turns t.mask ≤ 200 := by rw [R.m7]; decide
    omega
  unfold setSearch
  refine look_from R hx hu hKf hK hKb yes (fun hn => no K hn hK hKb) 100000 0 none rfl (Nat.zero_le _) (by omega) fun i r hi hk => ?_
  have h1 : (hss w L)[i]? = some (k.hash w) := by rw [hss, List.getElem?_map, hi, ← hk]; rfl
  have h2 : i < t.place.toList.length := by
    have z := (List.getElem?_eq_some_iff.mp h1).1
    rw [Array.length_toList, R.tab.sz]; exact z
  obtain ⟨d, hd, e⟩ := R.tab.before hK h1 (List.getElem?_eq_getElem h2)
  exact ⟨d, Nat.zero_le _, hd, by rw [List.getElem?_eq_getElem h2, e]⟩
theorem isN_same {h h' : Heap} {k : NestedKey} {b : Addr} {o : Obj} (hb : IsN h k b) (ho : h.get? a = some o) (hd : o.data = .set es ep t) (sb : Heap.SameBut a h h') : IsN h' k b :=
  ⟨NestedIs.at (fun c ob vs n hc hq => (sb.2 c fun z => by subst z; rw [ho] at hc; cases hc; rw [hd] at hq; cases hq).trans hc) k _ hb.1, hb.2⟩
theorem isN_keep {h h' : Heap} {k : NestedKey} {b : Addr} (hb : IsN h k b) (kp : ∀ c o, h.get? c = some o → h'.get? c = some o) : IsN h' k b :=
  ⟨NestedIs.at (fun c ob vs n hc _ => kp c ob hc) k _ hb.1, hb.2⟩
/-- one is added -/
theorem put_at (R : SetN w s.heap a L es ep t) {x : Addr} {k : NestedKey} (hx : IsN s.heap k x) (hu : A.units + 8 < cLine) (hfew : L.length + 1 ≤ 4) {Q : Bool → Shared → Prop}
    (hQ : ∀ b h' L' es' ep' t', Heap.SameBut a s.heap h' → SetN w h' a L' es' ep' t' → (k ∈ L.map (·.2) → L' = L) → (k ∉ L.map (·.2) → L'.Perm ((x, k) :: L)) → Q b { s with heap := h' }) :
    wpAny (model P w) A (setAddHashed a (.ref x) (k.hash w)) Q E s := by
  obtain ⟨o, g1, g2, g3⟩ := R.ob
  have hfit := R.fit; have hsl := rws_len R.rows; have hm7 := R.m7
  unfold setAddHashed; refine wpAny_holding ?_
  rw [show (100000 : Nat) = 99999 + 1 from rfl, setAddHashedIn_succ]
  refine wpAny_bind (wpAny_setState_of g1 g3 hfit ?_); dsimp only
  refine wp_if_neg (by simp [byScan, Value.scannable]) ?_
  try refine wpAny_bind (wpAny_pure ?_)
  refine wpAny_bind (look_at R hx hu (fun hm => ?_) fun K hm hK hb => ?_)
  · dsimp only
    exact wpAny_pure (hQ false s.heap L es ep t (Heap.SameBut.refl a s.heap) R (fun _ => rfl) fun z => absurd hm z)
  · dsimp only
    refine wpAny_bind (wpAny_setState_of g1 g3 hfit ?_); dsimp only
    obtain ⟨q1, q2, q3, q4, q5, q6, q7, q8, q9⟩ := R.tab.put hK hb
    generalize hpt : t.put (way t.mask (k.hash w) K) = pt at q1 q3 q4 q5 q6 q7 q8 q9 ⊢
    obtain ⟨t1, p⟩ := pt
    dsimp only at q1 q3 q4 q5 q6 q7 q8 q9 ⊢
    subst q1
    have last : ∀ byv : Bool, wpAny (model P w) A (do
        let t2 := if byv then t1 else { t1 with plain := false }
        storeSet a (SetTable.insertAt es (SetTable.below t.place (way t.mask (k.hash w) K)) (k.hash w, Value.ref x)) t2
        if !false && t2.tooFull then setRelay a (SetTable.grown (es.size + 1))
        pure true) Q E s := by
      intro byv
      have T2 : TabOk (if byv then t1 else { t1 with plain := false }) ((hss w L).take (SetTable.below t.place (way t.mask (k.hash w) K)) ++ k.hash w :: (hss w L).drop (SetTable.below t.place (way t.mask (k.hash w) K))) := by
        cases byv
        · exact ⟨q3.ris, q3.dm, q3.sz, q3.mok, q3.bd, q3.reach⟩
        · exact q3
      have l2 : (if byv then t1 else { t1 with plain := false }).led = t.led := by cases byv <;> exact q5
      have m2 : (if byv then t1 else { t1 with plain := false }).mask = 7 := by cases byv <;> exact q4.trans hm7
      have f2 : (if byv then t1 else { t1 with plain := false }).fill = (hss w L).length + 1 := by cases byv <;> exact q9
      dsimp only
      generalize (if byv then t1 else { t1 with plain := false }) = t2 at T2 l2 m2 f2 ⊢
      have hin : (SetTable.insertAt es (SetTable.below t.place (way t.mask (k.hash w) K)) (k.hash w, Value.ref x)).toList = rws w (L.take (SetTable.below t.place (way t.mask (k.hash w) K)) ++ (x, k) :: L.drop (SetTable.below t.place (way t.mask (k.hash w) K))) := by
        rw [SetTable.toList_insertAt, R.rows]; unfold rws
        rw [List.map_append, List.map_cons, List.map_take, List.map_drop]
      have hhs : hss w (L.take (SetTable.below t.place (way t.mask (k.hash w) K)) ++ (x, k) :: L.drop (SetTable.below t.place (way t.mask (k.hash w) K))) = (hss w L).take (SetTable.below t.place (way t.mask (k.hash w) K)) ++ k.hash w :: (hss w L).drop (SetTable.below t.place (way t.mask (k.hash w) K)) := by
        unfold hss
        rw [List.map_append, List.map_cons, List.map_take, List.map_drop]
      rw [← hhs] at T2
      have pm := put_perm L (SetTable.below t.place (way t.mask (k.hash w) K)) (x, k)
      generalize SetTable.insertAt es (SetTable.below t.place (way t.mask (k.hash w) K)) (k.hash w, Value.ref x) = es1 at hin ⊢
      generalize L.take (SetTable.below t.place (way t.mask (k.hash w) K)) ++ (x, k) :: L.drop (SetTable.below t.place (way t.mask (k.hash w) K)) = L1 at pm T2 hin
      have hlen : L1.length = L.length + 1 := pm.length_eq
      have hes := rws_len hin
      refine wpAny_bind (wpAny_storeSet_of g1 g3 ?_ (by rw [hes, sizeLine_eq]; omega))
      have sb : Heap.SameBut a s.heap (s.heap.update a (Obj.putSet es1 t2)) := Heap.SameBut.update ..
      have ho1 := store_at (es' := es1) (t' := t2) g1 g3
      generalize s.heap.update a (Obj.putSet es1 t2) = h1 at sb ho1 ⊢
      have nf : ¬ (!false && t2.tooFull) = true := by
        unfold SetTable.tooFull
        rw [f2, m2, hss, List.length_map]
        simp only [Bool.not_false, Bool.true_and, decide_eq_true_eq]
        omega
      have fine : SetN w h1 a L1 es1 (ep + 1) t2 := ⟨⟨_, ho1, ⟨g2.1, g2.2.1, g2.2.2⟩, rfl⟩, hin, T2, (pm.map (·.2)).nodup_iff.mpr (by rw [List.map_cons]; exact List.nodup_cons.mpr ⟨hm, R.nd⟩),
        fun r hr => by
          rcases List.mem_cons.mp (pm.mem_iff.mp hr) with e | hr
          · rw [e]; exact isN_same hx g1 g3 sb
          · exact isN_same (R.keys r hr) g1 g3 sb, by rw [l2]; exact R.led, m2, by omega⟩
      first
        | refine wp_if_neg nf ?_
        | (refine wpAny_bind ?_; refine wp_if_neg nf ?_; refine wpAny_pure ?_)
      try refine wpAny_bind (wpAny_pure ?_)
      exact wpAny_pure (hQ true h1 L1 es1 (ep + 1) t2 sb fine (fun z => absurd z hm) fun _ => pm)
    by_cases hp1 : t1.plain = true
    · first
        | (refine wpAny_bind ?_; refine wp_if_pos hp1 ?_; refine told_key k _ 8 s hx.1 hx.2 _ _ _ fun b => ?_)
        | refine wp_if_pos hp1 (wpAny_bind (told_key k _ 8 s hx.1 hx.2 _ _ _ fun b => ?_))
      exact last b
    · first
        | (refine wpAny_bind ?_; refine wp_if_neg hp1 ?_; refine wpAny_pure ?_)
        | refine wp_if_neg hp1 (wpAny_bind (wpAny_pure ?_))
      exact last true
end
end KaN


set_option maxRecDepth 100000
set_option maxHeartbeats 3200000
/-! set(xs) of such keys -/
namespace KaN
open PySem PyProof.Rows L2
section
variable {P : Program} {w : World} {A : Around} {E : Value → Shared → Prop} {s : Shared}
/-- an empty set, just made -/
abbrev set0 (w : World) : Obj := { cls := .type "set", dict := none, data := .set #[] 0 (.fresh 0 0 (!w.params.followText "set-order")) }
theorem SetN.new {h : Heap} {a : Addr} (ho : h.get? a = some (set0 w)) : SetN w h a [] #[] 0 (.fresh 0 0 (!w.params.followText "set-order")) where
  ob := ⟨_, ho, ⟨rfl, rfl, rfl⟩, rfl⟩
  rows := rfl
  tab := ⟨List.Pairwise.nil, rfl, rfl, .inl rfl, fun x hx => (by cases hx), fun i h j hi => (by simp at hi)⟩
  nd := List.nodup_nil
  keys := fun r hr => nomatch hr
  led := by
    by_cases c : w.params.followText "set-order" = true
    · exact .inl c
    · exact .inr (by show (!w.params.followText "set-order") = true; simpa using c)
  m7 := rfl
  few := Nat.zero_le _
theorem SetN.held {h h' : Heap} {a : Addr} {L : List Rw} {es : Array (Int × Value)} {ep : Nat} {t : SetTable} (R : SetN w h a L es ep t) (ha : ∀ o, h.get? a = some o → h'.get? a = some o) (hk : ∀ r ∈ L, IsN h' r.2 r.1) : SetN w h' a L es ep t :=
  let ⟨o, g, r⟩ := R.ob; ⟨⟨o, ha o g, r⟩, R.rows, R.tab, R.nd, hk, R.led, R.m7, R.few⟩
/-- what of the first i items is in -/
structure In_ (ks : List Rw) (i : Nat) (L : List Rw) : Prop where
  sub : ∀ r ∈ L, r ∈ ks.take i
  all : ∀ r ∈ ks.take i, r.2 ∈ L.map (·.2)
  len : L.length ≤ i
theorem In_.nil (ks : List Rw) : In_ ks 0 [] where
  sub := fun _ h => (by cases h)
  all := fun _ h => (by simp at h)
  len := Nat.le_refl _
theorem In_.next {ks L L' : List Rw} {i : Nat} {x : Rw} (g : In_ ks i L) (e : ks[i]? = some x) (c1 : x.2 ∈ L.map (·.2) → L' = L) (c2 : x.2 ∉ L.map (·.2) → L'.Perm (x :: L)) : In_ ks (i + 1) L' := by
  have tk : ks.take (i + 1) = ks.take i ++ [x] := by rw [List.take_succ, e]; rfl
  have up : ∀ r ∈ L, r ∈ ks.take (i + 1) := fun r h => by rw [tk]; exact List.mem_append_left _ (g.sub r h)
  rcases Classical.em (x.2 ∈ L.map (·.2)) with c | c
  · rw [c1 c]
    refine ⟨up, fun r h => ?_, Nat.le_succ_of_le g.len⟩
    rw [tk] at h
    rcases List.mem_append.mp h with z | z
    · exact g.all r z
    · rw [List.mem_singleton.mp z]; exact c
  · have pm := c2 c
    refine ⟨fun r h => ?_, fun r h => ?_, by rw [pm.length_eq]; exact Nat.succ_le_succ g.len⟩
    · rcases List.mem_cons.mp (pm.mem_iff.mp h) with z | z
      · rw [z, tk]; exact List.mem_append_right _ (List.mem_singleton.mpr rfl)
      · exact up r z
    · refine (pm.map (·.2)).mem_iff.mpr ?_
      rw [tk] at h
      rcases List.mem_append.mp h with z | z
      · exact List.mem_cons_of_mem _ (g.all r z)
      · rw [List.mem_singleton.mp z]; exact List.mem_cons_self

theorem fill_loop {I : Addr} {fp wr : List Addr} {G : Array GenState → Array GenState → Prop} {n : Nat} {Pv : Nat → Value → Prop} {St : Nat → Shared → Prop} {R : Result → Shared → Prop}
    (W : WalksS P w A.in1 I fp wr G n Pv St) (S : Addr) (hSf : S ∉ fp) (ks : List Rw) (hn : n = ks.length) (h4 : ks.length ≤ 4) (hval : ∀ i v, Pv i v → ∃ r, ks[i]? = some r ∧ v = .ref r.1)
    (h0 : Heap) (hk : ∀ r ∈ ks, IsN h0 r.2 r.1) (hS0 : h0.get? S = none) (hw0 : ∀ b ∈ wr, h0.get? b = none) (hu : A.units + 12 < cLine) :
    ∀ (d i : Nat) (s : Shared), n - i = d → i ≤ n → St i s → (∀ b o, h0.get? b = some o → s.heap.get? b = some o) → (∃ L es ep t, SetN w s.heap S L es ep t ∧ In_ ks i L) →
      (∀ s' L es ep t, Moved (S :: wr) G s s' → SetN w s'.heap S L es ep t → In_ ks n L → (∀ b o, h0.get? b = some o → s'.heap.get? b = some o) → R (.ok (.ret .none)) s') →
      codeAny (model P w) A (.builtin "set.update.loop" ⟨[.ref S, .ref I], []⟩) R s := by
  have hSw : S ∉ wr := fun h => hSf (W.sub _ h)
  have wide : ∀ b ∈ wr, b ∈ S :: wr := fun b m => List.mem_cons_of_mem _ m
  have on : ∀ {s s' : Shared}, Moved wr G s s' → (∀ b o, h0.get? b = some o → s.heap.get? b = some o) → ∀ b o, h0.get? b = some o → s'.heap.get? b = some o := fun mv kp b o e =>
    mv.heap b o (fun m => by rw [hw0 b m] at e; cases e) (kp b o e)
  have inu : A.in1.units + 8 < cLine := by simp only [Around.in1_units]; omega
  intro d
  induction d with
  | zero =>
    intro i s e hi st kp ⟨L, es, ep, t, hS, g⟩ hR
    obtain rfl : i = n := by omega
    refine codeAny_builtin F.entry_set_update_loop ?_
    rw [Around.under_plainId F.plain_set_update_loop _]
    change wpAny _ A.in1 (pyNext (.ref I) >>= _) _ _ s
    refine wpAny_bind (W.done s _ _ st fun s2 mv => ?_)
    change wpAny _ A.in1 (ret Value.none) _ _ s2
    have kp2 := on mv kp
    exact wpAny_pure (hR s2 L es ep t (mv.mono wide) (hS.held (fun o z => mv.heap S o hSw z) fun r hr => isN_keep (hk r (List.mem_of_mem_take (g.sub r hr))) kp2) g kp2)
  | succ d ih =>
    intro i s e hi st kp ⟨L, es, ep, t, hS, g⟩ hR
    have hlt : i < n := by omega
    refine codeAny_builtin F.entry_set_update_loop ?_
    rw [Around.under_plainId F.plain_set_update_loop _]
    change wpAny _ A.in1 (pyNext (.ref I) >>= _) _ _ s
    refine wpAny_bind (W.item i s _ _ hlt st fun v s2 hP st2 mv => ?_)
    obtain ⟨r, hr, rfl⟩ := hval i v hP
    have kp2 := on mv kp
    have S2 : SetN w s2.heap S L es ep t := hS.held (fun o z => mv.heap S o hSw z) fun q hq => isN_keep (hk q (List.mem_of_mem_take (g.sub q hq))) kp2
    have hx : IsN s2.heap r.2 r.1 := isN_keep (hk r (List.mem_of_getElem? hr)) kp2
    change wpAny _ A.in1 (holding [Value.ref r.1] (setAdd S (.ref r.1)) >>= _) _ _ s2
    refine wpAny_bind (wpAny_holding ?_); unfold setAdd; refine wpAny_holding ?_
    refine wpAny_bind (pyHash_key r.2 _ A.in1 s2 _ hx.1 (by have := hx.2; omega) ?_)
    refine put_at (s := { s2 with toks := s2.toks + r.2.draws }) S2 hx inu (by have := g.len; omega) fun b h' L' es' ep' t' sb SN c1 c2 => ?_
    have kp3 : ∀ b o, h0.get? b = some o → h'.get? b = some o := fun b o z => (sb.2 b fun y => by rw [y, hS0] at z; cases z).trans (kp2 b o z)
    refine wpAny_pure ⟨plainId_quiet F.plain_set_update_loop _, ih (i + 1) _ (by omega) hlt (W.frame _ s2 _ _ st2 (Nat.le_add_right _ _) fun b m o z => ?_) kp3 ⟨L', es', ep', t', SN, g.next hr c1 c2⟩ fun s3 L3 es3 ep3 t3 mv3 S3 g3 kp4 => ?_⟩
    · exact (sb.2 b fun y : b = S => hSf (y ▸ m)).trans z
    · exact hR s3 L3 es3 ep3 t3 (Moved.trans W.gtrans ((mv.mono wide).then_heap (Nat.le_add_right _ _) fun b o m z => (sb.2 b fun y : b = S => m (y ▸ List.mem_cons_self)).trans z) mv3) S3 g3 kp4

/-- set(xs), xs a list of at most four such keys -/
theorem call_set_keys {l : Addr} {items : Array Value} (ks : List Rw) {Q : Value → Shared → Prop} (hh : A.handled = none) (hl : s.heap.IsList l items) (hit : items.toList = ks.map fun r => Value.ref r.1)
    (hk : ∀ r ∈ ks, IsN s.heap r.2 r.1) (h4 : ks.length ≤ 4) (hu : A.units + 20 < cLine)
    (h : ∀ (h' : Heap) (tk : Nat) L es ep t, SetN w h' s.heap.objs.size L es ep t → In_ ks ks.length L → (∀ b o, s.heap.get? b = some o → h'.get? b = some o) → Q (.ref s.heap.objs.size) { s with heap := h', toks := tk }) :
    wpAny (model P w) A (call (.type "set") [.ref l]) Q E s := by
  have hisz : items.size = ks.length := by
    have := congrArg List.length hit
    rwa [Array.length_toList, List.length_map] at this
  obtain ⟨c, tl, hmro⟩ := F.called_set.mro
  have x1 := F.called_set.made
  have x2 := F.called_set.sub
  refine wpAny_call (codeAny_of_tree ?_)
  change wpAny _ _ (callAny (.type "set") _) _ _ _
  refine wpAny_pure ⟨Code.quiet_builtin _ (by decide +kernel), codeAny_builtin F.entry_type_call ?_⟩
  rw [Around.under_plain (weight_type_call_type "set" [.ref l] []) rfl]
  have x3 := F.called_set.notType
  have x4 := F.called_set.canCreate
  have x5 := F.typeCall_set_1 (.ref l)
  repeat (any_goals (first | assumption | wp_step))
  refine codeAny_mono (code_set_led1 (.ref l) (E := E) (Q₁ := fun ob z => ob = .ref s.heap.objs.size ∧ z = { s with heap := s.heap.push (set0 w) }) ⟨rfl, rfl⟩) fun r s1 hr => ?_
  cases r with
  | error e => exact hr
  | ok fl =>
    cases fl with
    | ret ob =>
      obtain ⟨rfl, rfl⟩ := hr
      have hS : (s.heap.push (set0 w)).get? s.heap.objs.size = some (set0 w) := Heap.get?_push_size _ rfl
      have hT : Shared.TypeIs { s with heap := s.heap.push (set0 w) } (.ref s.heap.objs.size) "set" := ⟨_, hS, rfl⟩
      have x6 := F.called_set.init.lookup
      have x7 := F.called_set.init.bind (.ref s.heap.objs.size)
      repeat (any_goals (first | assumption | wp_step))
      refine codeAny_mono (codeAny_call_builtin (R := wants (fun r z => r = .none ∧ ∃ h' tk L es ep t, z = { s with heap := h', toks := tk } ∧ SetN w h' s.heap.objs.size L es ep t ∧ In_ ks ks.length L ∧
          (∀ b o, s.heap.get? b = some o → h'.get? b = some o)) E) F.called_set.init.plain F.entry_set_init (check_set_init_1 hT ?_)) fun r2 s2 hr2 => ?_
      · obtain ⟨ol, hol, hcl, nl, hdl⟩ := hl
        obtain ⟨ocls, odict, odata, oslots⟩ := ol
        simp only at hcl hdl
        subst hcl; subst hdl
        have hol2 : (s.heap.push (set0 w)).get? l = some { cls := .type "list", dict := odict, data := .seq items nl, slots := oslots } := Heap.get?_push_of_some _ hol
        have y1 := F.sub_list_set
        have y2 := F.sub_list_frozenset
        have y3 : (Value.type "list" == Value.type "dict") = false := by decide
        have hl1 : (s.heap.push (set0 w)).IsList l items := ⟨_, hol2, rfl, nl, rfl⟩
        unfold Builtin.«set.__init__» noKeywords Builtin.Frozenset.updateFrom
        generalize hPI : pyIter = PI
        wp_walk
        subst hPI
        refine wpAny_pyIter_list hl1 ?_
        refine wpAny_bind (wpAny_runValue ?_)
        have hlS : l < s.heap.objs.size := Heap.lt_size hol
        have z1 : (s.heap.push (set0 w)).objs.size = s.heap.objs.size + 1 := Heap.size_push ..
        have ne1 : l ≠ (s.heap.push (set0 w)).objs.size := by rw [z1]; exact Nat.ne_of_lt (Nat.lt_succ_of_lt hlS)
        have gone : ∀ b, s.heap.objs.size ≤ b → s.heap.get? b = none := fun b hb => by
          cases q : s.heap.get? b with
          | none => rfl
          | some o => exact absurd (Nat.lt_of_lt_of_le (Heap.lt_size q) hb) (Nat.lt_irrefl _)
        refine fill_loop ((Walks.list (by simp [hh]) _ l ne1 items).toS) s.heap.objs.size ?out ks hisz h4 (fun i v hv => ?val) s.heap hk (gone _ (Nat.le_refl _)) (fun b hb => gone b (by rw [List.mem_singleton.mp hb, z1]; exact Nat.le_succ _))
          (by simp only [Around.in1_units]; omega) (items.size - 0) 0 _ (by omega) (Nat.zero_le _) ⟨⟨_, Heap.get?_push_size _ rfl, rfl, rfl⟩, (hl1.push _)⟩ (fun b o e => Heap.get?_push_of_some _ (Heap.get?_push_of_some _ e)) ?beg ?fin
        case out =>
          rw [z1]; simp only [List.mem_cons, List.mem_singleton, List.not_mem_nil, or_false, not_or]; exact ⟨Nat.ne_of_lt (Nat.lt_succ_self _), Nat.ne_of_gt hlS⟩
        case val =>
          have q : items.toList[i]? = some v := by rw [Array.getElem?_toList]; exact hv
          rw [hit, List.getElem?_map] at q
          obtain ⟨r, hr, e⟩ := Option.map_eq_some_iff.mp q
          exact ⟨r, hr, e.symm⟩
        case beg => exact ⟨[], #[], 0, _, SetN.new (Heap.get?_push_of_some _ hS), In_.nil ks⟩
        case fin =>
          intro s3 L es ep t mv S3 g3 kp
          obtain ⟨h', g2, d2, tk, os2⟩ := s3
          have eg : g2 = s.gens := mv.gens
          have ed : d2 = s.drawn := mv.drawn
          have eo : os2 = s.os := mv.os
          subst eg; subst ed; subst eo
          refine wpAny_pure ?_
          change wpAny _ _ (ret Value.none) _ _ _
          rw [hisz] at g3
          exact wpAny_pure ⟨rfl, h', tk, L, es, ep, t, rfl, S3, g3, kp⟩
      · cases r2 with
        | error e => exact hr2
        | ok f2 =>
          cases f2 with
          | ret v =>
            obtain ⟨rfl, h', tk, L, es, ep, t, rfl, S3, g3, kp⟩ := hr2
            repeat (any_goals (first | assumption | wp_step))
            exact h _ _ _ _ _ _ S3 g3 kp
          | _ => exact hr2.elim
    | _ => exact hr.elim
end
end KaN


set_option maxRecDepth 100000
set_option maxHeartbeats 3200000
/-! set(xs) of a tuple of such keys -/
namespace KaN
open PySem PyProof.Rows L2
section
variable {P : Program} {w : World} {A : Around} {E : Value → Shared → Prop} {s : Shared}
/-- set(xs), xs a tuple of at most four such keys -/
theorem call_set_keysT {l : Addr} {items : Array Value} (ks : List Rw) {Q : Value → Shared → Prop} (hh : A.handled = none) (hl : s.heap.IsTuple l items) (hit : items.toList = ks.map fun r => Value.ref r.1)
    (hk : ∀ r ∈ ks, IsN s.heap r.2 r.1) (h4 : ks.length ≤ 4) (hu : A.units + 20 < cLine)
    (h : ∀ (h' : Heap) (tk : Nat) L es ep t, SetN w h' s.heap.objs.size L es ep t → In_ ks ks.length L → (∀ b o, s.heap.get? b = some o → h'.get? b = some o) → Q (.ref s.heap.objs.size) { s with heap := h', toks := tk }) :
    wpAny (model P w) A (call (.type "set") [.ref l]) Q E s := by
  have hisz : items.size = ks.length := by
    have := congrArg List.length hit
    rwa [Array.length_toList, List.length_map] at this
  obtain ⟨c, tl, hmro⟩ := F.called_set.mro
  have x1 := F.called_set.made
  have x2 := F.called_set.sub
  refine wpAny_call (codeAny_of_tree ?_)
  change wpAny _ _ (callAny (.type "set") _) _ _ _
  refine wpAny_pure ⟨Code.quiet_builtin _ (by decide +kernel), codeAny_builtin F.entry_type_call ?_⟩
  rw [Around.under_plain (weight_type_call_type "set" [.ref l] []) rfl]
  have x3 := F.called_set.notType
  have x4 := F.called_set.canCreate
  have x5 := F.typeCall_set_1 (.ref l)
  repeat (any_goals (first | assumption | wp_step))
  refine codeAny_mono (code_set_led1 (.ref l) (E := E) (Q₁ := fun ob z => ob = .ref s.heap.objs.size ∧ z = { s with heap := s.heap.push (set0 w) }) ⟨rfl, rfl⟩) fun r s1 hr => ?_
  cases r with
  | error e => exact hr
  | ok fl =>
    cases fl with
    | ret ob =>
      obtain ⟨rfl, rfl⟩ := hr
      have hS : (s.heap.push (set0 w)).get? s.heap.objs.size = some (set0 w) := Heap.get?_push_size _ rfl
      have hT : Shared.TypeIs { s with heap := s.heap.push (set0 w) } (.ref s.heap.objs.size) "set" := ⟨_, hS, rfl⟩
      have x6 := F.called_set.init.lookup
      have x7 := F.called_set.init.bind (.ref s.heap.objs.size)
      repeat (any_goals (first | assumption | wp_step))
      refine codeAny_mono (codeAny_call_builtin (R := wants (fun r z => r = .none ∧ ∃ h' tk L es ep t, z = { s with heap := h', toks := tk } ∧ SetN w h' s.heap.objs.size L es ep t ∧ In_ ks ks.length L ∧
          (∀ b o, s.heap.get? b = some o → h'.get? b = some o)) E) F.called_set.init.plain F.entry_set_init (check_set_init_1 hT ?_)) fun r2 s2 hr2 => ?_
      · obtain ⟨ol, hol, hcl, nl, hdl⟩ := hl
        obtain ⟨ocls, odict, odata, oslots⟩ := ol
        simp only at hcl hdl
        subst hcl; subst hdl
        have hol2 : (s.heap.push (set0 w)).get? l = some { cls := .type "tuple", dict := odict, data := .seq items nl, slots := oslots } := Heap.get?_push_of_some _ hol
        have y1 := F.sub_tuple_set
        have y2 := F.sub_tuple_frozenset
        have y3 : (Value.type "tuple" == Value.type "dict") = false := by decide
        have hl1 : (s.heap.push (set0 w)).IsTuple l items := ⟨_, hol2, rfl, nl, rfl⟩
        unfold Builtin.«set.__init__» noKeywords Builtin.Frozenset.updateFrom
        generalize hPI : pyIter = PI
        wp_walk
        subst hPI
        refine wpAny_pyIter_tuple hl1 ?_
        refine wpAny_bind (wpAny_runValue ?_)
        have hlS : l < s.heap.objs.size := Heap.lt_size hol
        have z1 : (s.heap.push (set0 w)).objs.size = s.heap.objs.size + 1 := Heap.size_push ..
        have ne1 : l ≠ (s.heap.push (set0 w)).objs.size := by rw [z1]; exact Nat.ne_of_lt (Nat.lt_succ_of_lt hlS)
        have gone : ∀ b, s.heap.objs.size ≤ b → s.heap.get? b = none := fun b hb => by
          cases q : s.heap.get? b with
          | none => rfl
          | some o => exact absurd (Nat.lt_of_lt_of_le (Heap.lt_size q) hb) (Nat.lt_irrefl _)
        refine fill_loop ((Walks.tuple (by simp [hh]) _ l ne1 items).toS) s.heap.objs.size ?out ks hisz h4 (fun i v hv => ?val) s.heap hk (gone _ (Nat.le_refl _)) (fun b hb => gone b (by rw [List.mem_singleton.mp hb, z1]; exact Nat.le_succ _))
          (by simp only [Around.in1_units]; omega) (items.size - 0) 0 _ (by omega) (Nat.zero_le _) ⟨⟨_, Heap.get?_push_size _ rfl, rfl, rfl⟩, (hl1.push _)⟩ (fun b o e => Heap.get?_push_of_some _ (Heap.get?_push_of_some _ e)) ?beg ?fin
        case out =>
          rw [z1]; simp only [List.mem_cons, List.mem_singleton, List.not_mem_nil, or_false, not_or]; exact ⟨Nat.ne_of_lt (Nat.lt_succ_self _), Nat.ne_of_gt hlS⟩
        case val =>
          have q : items.toList[i]? = some v := by rw [Array.getElem?_toList]; exact hv
          rw [hit, List.getElem?_map] at q
          obtain ⟨r, hr, e⟩ := Option.map_eq_some_iff.mp q
          exact ⟨r, hr, e.symm⟩
        case beg => exact ⟨[], #[], 0, _, SetN.new (Heap.get?_push_of_some _ hS), In_.nil ks⟩
        case fin =>
          intro s3 L es ep t mv S3 g3 kp
          obtain ⟨h', g2, d2, tk, os2⟩ := s3
          have eg : g2 = s.gens := mv.gens
          have ed : d2 = s.drawn := mv.drawn
          have eo : os2 = s.os := mv.os
          subst eg; subst ed; subst eo
          refine wpAny_pure ?_
          change wpAny _ _ (ret Value.none) _ _ _
          rw [hisz] at g3
          exact wpAny_pure ⟨rfl, h', tk, L, es, ep, t, rfl, S3, g3, kp⟩
      · cases r2 with
        | error e => exact hr2
        | ok f2 =>
          cases f2 with
          | ret v =>
            obtain ⟨rfl, h', tk, L, es, ep, t, rfl, S3, g3, kp⟩ := hr2
            repeat (any_goals (first | assumption | wp_step))
            exact h _ _ _ _ _ _ S3 g3 kp
          | _ => exact hr2.elim
    | _ => exact hr.elim
end
end KaN


set_option maxRecDepth 100000
set_option maxHeartbeats 3200000
/-! set(xs), sorted(set): tuples of whole numbers, texts, and tuples of these -/
namespace KaN
open PySem PySem.W PyProof.Rows L2
mutual
def nk : PyData → NestedKey
  | .none => .none
  | .bool _ => .none
  | .int i => .num i
  | .str x => .text x
  | .list _ => .none
  | .tuple xs => .tup (nkA xs)
  | .dict _ => .none
def nkA : List PyData → List NestedKey
  | [] => []
  | x :: r => nk x :: nkA r
end
mutual
theorem nk_depth : ∀ d : PyData, (nk d).depth ≤ d.depth
  | .none => by simp [nk, NestedKey.depth]
  | .bool _ => by simp [nk, NestedKey.depth]
  | .int i => by simp [nk, NestedKey.depth]
  | .str x => by simp [nk, NestedKey.depth]
  | .list _ => by simp [nk, NestedKey.depth]
  | .tuple xs => by
    have := nk_depths xs
    simp only [nk, NestedKey.depth, PyData.depth]; omega
  | .dict _ => by simp [nk, NestedKey.depth]
theorem nk_depths : ∀ ds : List PyData, NestedKey.depthAll (nkA ds) ≤ PyData.depthAll ds
  | [] => by simp [nkA, NestedKey.depthAll]
  | x :: r => by
    have h1 := nk_depth x
    have h2 := nk_depths r
    simp only [nkA, NestedKey.depthAll, PyData.depthAll]; omega
end
mutual
/-- v is such a key, as data -/
inductive Ky (K : PySem.W.Frag) (H : Hp) : V → PyData → Prop
  | int (i : Int) : Ky K H (.int i) (.int i)
  | str (x : Str) : Ky K H (.str x) (.str x)
  | tup {a : Addr} {xs : List V} {ds : List PyData} (e : SqT K H a xs) (r : KyA K H xs ds) : Ky K H (.ref a) (.tuple ds)
inductive KyA (K : PySem.W.Frag) (H : Hp) : List V → List PyData → Prop
  | nil : KyA K H [] []
  | cons {v : V} {vs : List V} {d : PyData} {ds : List PyData} (h : Ky K H v d) (r : KyA K H vs ds) : KyA K H (v :: vs) (d :: ds)
end
section
variable {X : Cx} {pins : List (Addr × Obj)} {σ : L2.St} {H : Hp} {s : Shared}
mutual
theorem Ky.real (I : Inv X pins σ H s) : ∀ {v : V} {d : PyData} {u : Value}, Ky X.K H v d → RelV v u → Reads s.heap u d [] ∧ NestedIs s.heap (nk d) u
  | _, _, u, .int i, r => by obtain ⟨t, rfl⟩ := r; exact ⟨.int i t, by rw [nk]; exact .int i t⟩
  | _, _, u, .str x, r => by obtain ⟨t, rfl⟩ := r; exact ⟨.str x t, by rw [nk]; exact .text x t⟩
  | _, _, u, .tup e q, r => by
    cases r
    obtain ⟨its, rv, ⟨o, ho, hc, n, hd⟩, _⟩ := I.tuple e
    obtain ⟨h1, h2⟩ := KyA.real I q rv
    exact ⟨.tuple ho hc hd (by simpa using h1), by rw [nk]; exact .tup ho hc hd (by simpa using h2)⟩
theorem KyA.real (I : Inv X pins σ H s) : ∀ {vs : List V} {ds : List PyData} {us : List Value}, KyA X.K H vs ds → Vals vs us → ReadsAll s.heap us ds [] ∧ NestedAll s.heap (nkA ds) us
  | _, _, us, .nil, r => by cases r; exact ⟨.nil, by rw [nkA]; exact .nil⟩
  | _, _, us, .cons h q, r => by
    cases r with
    | cons r1 r2 =>
      obtain ⟨a1, a2⟩ := Ky.real I h r1
      obtain ⟨b1, b2⟩ := KyA.real I q r2
      exact ⟨.cons (as := []) (bs := []) a1 b1, by rw [nkA]; exact .cons a2 b2⟩
end
end
section
variable {K : PySem.W.Frag} {H H' : Hp}
mutual
theorem Ky.sm (s : Same H H') : ∀ {v : V} {d : PyData}, Ky K H v d → Ky K H' v d
  | _, _, .int i => .int i
  | _, _, .str x => .str x
  | _, _, .tup e r => .tup (e.imp (fun z => z.imp (s _ _) fun ⟨o, q⟩ => ⟨o, s _ _ q⟩) id) (KyA.sm s r)
theorem KyA.sm (s : Same H H') : ∀ {vs : List V} {ds : List PyData}, KyA K H vs ds → KyA K H' vs ds
  | _, _, .nil => .nil
  | _, _, .cons h r => .cons (Ky.sm s h) (KyA.sm s r)
end
end
theorem perm_map_of {α β : Type} {f : α → β} {ys zs : List β} (h : ys.Perm zs) : ∀ l : List α, zs = l.map f → ∃ l' : List α, l'.Perm l ∧ ys = l'.map f := by
  induction h with
  | nil => intro l e; cases l with
    | nil => exact ⟨[], .nil, rfl⟩
    | cons _ _ => cases e
  | cons x _ ih => intro l e; cases l with
    | nil => cases e
    | cons b l =>
      rw [List.map_cons] at e; injection e with e1 e2
      obtain ⟨l1, p, q⟩ := ih l e2
      exact ⟨b :: l1, p.cons b, by rw [List.map_cons, e1, q]⟩
  | swap x y r => intro l e; cases l with
    | nil => cases e
    | cons b l => cases l with
      | nil => cases e
      | cons c l =>
        rw [List.map_cons, List.map_cons] at e; injection e with e1 e2; injection e2 with e2 e3
        exact ⟨c :: b :: l, .swap .., by rw [List.map_cons, List.map_cons, e1, e2, e3]⟩
  | trans _ _ ih1 ih2 => intro l e; obtain ⟨l2, p2, q2⟩ := ih2 l e; obtain ⟨l1, p1, q1⟩ := ih1 l2 q2; exact ⟨l1, p1.trans p2, q1⟩
abbrev Dw := Addr × PyData
abbrev rwOf (p : Dw) : Rw := (p.1, nk p.2)
theorem back_rows {D0 : List Dw} : ∀ {L : List Rw}, (∀ r ∈ L, r ∈ D0.map rwOf) → ∃ D : List Dw, L = D.map rwOf ∧ ∀ p ∈ D, p ∈ D0
  | [], _ => ⟨[], rfl, fun _ z => nomatch z⟩
  | r :: L, h => by
    obtain ⟨p, hp, e⟩ := List.mem_map.mp (h r List.mem_cons_self)
    obtain ⟨D, e2, hs⟩ := back_rows (L := L) fun q m => h q (List.mem_cons_of_mem _ m)
    exact ⟨p :: D, by rw [List.map_cons, e, e2], fun q m => by
      rcases List.mem_cons.mp m with z | z
      · rw [z]; exact hp
      · exact hs q z⟩
section
variable {P : Program} {w : World} {A : Around} {E : Value → Shared → Prop} {s : Shared}
/-- sorted(set) -/
theorem sorted_setN {a : Addr} {D : List Dw} {es : Array (Int × Value)} {ep : Nat} {t : SetTable} {Q : Value → Shared → Prop} (R : SetN w s.heap a (D.map rwOf) es ep t) (hh : A.handled = none)
    (hr : ∀ p ∈ D, Reads s.heap (.ref p.1) p.2 []) (hal : AllAlike (D.map (·.2))) (hk : Sortable (D.map (·.2))) (hu : A.units + 30 < cLine) (hd8 : ∀ p ∈ D, p.2.depth ≤ 8)
    (hQ : ∀ s' p (D1 : List Dw) (c : Nat), (∀ b o, s.heap.get? b = some o → s'.heap.get? b = some o) → s'.gens = s.gens → s'.os = s.os → s.heap.objs.size ≤ p →
      s'.heap.get? p = some (seqObj "list" ((D1.mergeSort (dataLe false (fun z : Dw => z.2))).map fun z => Value.ref z.1).toArray c) → D1.Perm D → Q (.ref p) s') :
    wpAny (model P w) A (call (.builtin "sorted") [.ref a]) Q E s := by
  obtain ⟨o, g1, g2, g3⟩ := R.ob
  have hfew := R.few
  have hsz := rws_len R.rows
  rw [List.length_map] at hfew hsz
  refine Calls.call_function_entry kind_sorted plain_sorted entry_sorted (args_sorted1 _) ?_
  unfold Builtin.«sorted»; refine wpAny_bind (m := checkCount "sorted" 1 1 _) (wpAny_pure ?_)
  refine wpAny_bind (collect_set (A := A.in1) hh ⟨o, g1, g2.1, g3⟩ R.fit (by unfold scanBound; omega) R.tab.ris R.led fun s1 vs k1 hz c1 o1 pm => ?_)
  have hes : es.toList.map (·.2) = D.map fun p => Value.ref p.1 := by rw [R.rows, rws, List.map_map, List.map_map]; rfl
  rw [hes] at pm
  obtain ⟨D1, pD, rfl⟩ := perm_map_of pm D rfl
  have hl1 : D1.length ≤ 4 := by rw [pD.length_eq]; exact hfew
  refine wpAny_bind (wpAny_newList ?_ (by rw [List.length_map, sizeLine_eq]; omega))
  have hoL : (s1.heap.push (seqObj "list" (D1.map fun p => Value.ref p.1).toArray 0)).get? s1.heap.objs.size = some (seqObj "list" (D1.map fun p => Value.ref p.1).toArray 0) := Heap.get?_push_size _ rfl
  have e0 : EachIs (fun (v : Value) (p : Dw) => v = .ref p.1) (D1.map fun p => Value.ref p.1) D1 := by
    have go : ∀ l : List Dw, EachIs (fun (v : Value) (p : Dw) => v = .ref p.1) (l.map fun p => Value.ref p.1) l := by
      intro l; induction l with
      | nil => exact .nil
      | cons p l ih => exact .cons rfl ih
    exact go D1
  have er : EachIs (fun (v : Value) (p : Dw) => ∃ as, Reads (s1.heap.push (seqObj "list" (D1.map fun p => Value.ref p.1).toArray 0)) v p.2 as ∧ s1.heap.objs.size ∉ as) (D1.map fun p => Value.ref p.1) D1 :=
    (each_mem e0).mono fun v p ⟨e, m⟩ => by
      subst e
      exact ⟨[], PyProof.Rows.Reads.keeps (fun b u z => Heap.get?_push_of_some _ (k1 b u z)) (hr p (pD.mem_iff.mp m)), fun z => nomatch z⟩
  have mem2 : ∀ d, d ∈ D1.map (·.2) → d ∈ D.map (·.2) := fun d m => (pD.map (·.2)).mem_iff.mp m
  refine wpAny_bind (wpAny_holding (list_sort_data (s := { s1 with heap := s1.heap.push (seqObj "list" (D1.map fun p => Value.ref p.1).toArray 0) }) (R := fun (v : Value) (p : Dw) => v = .ref p.1) (enc := fun p : Dw => p.2) hoL e0 er
    (fun d m d' m' => hal d (mem2 d m) d' (mem2 d' m')) (hk.imp (fun z d m => z d (mem2 d m)) fun z d m => z d (mem2 d m)) (by rw [sizeLine_eq]; omega) (fun p m => by have := hd8 p (pD.mem_iff.mp m); simp only [Around.in1_units]; omega) fun out ho eo => ?_))
  obtain ⟨c, hc⟩ := sortedHeap_at (vs := D1.map fun p => Value.ref p.1) (out := List.toArray out) hoL
  have eout : out = (D1.mergeSort (dataLe false (fun z : Dw => z.2))).map fun z => Value.ref z.1 := by
    have go : ∀ {vs : List Value} {l : List Dw}, EachIs (fun (v : Value) (p : Dw) => v = .ref p.1) vs l → vs = l.map fun z => Value.ref z.1 := by
      intro vs l h
      induction h with
      | nil => rfl
      | cons h _ ih => rw [List.map_cons, h, ih]
    exact go eo
  rw [eout] at hc ⊢
  refine wpAny_pure ⟨_, rfl, hQ _ s1.heap.objs.size D1 c (fun b u e => ?_) c1 o1 hz hc pD⟩
  have q := k1 b u e
  have lt := Heap.lt_size q
  refine (sortedHeap_old (Nat.ne_of_lt lt) (by rw [size_push']; exact Nat.lt_succ_of_lt lt)).trans (Heap.get?_push_of_some _ q)
end
/-- the set at a, without the keys' own objects -/
structure SetN0 (w : World) (h : Heap) (a : Addr) (D : List Dw) : Prop where
  ex : ∃ (es : Array (Int × Value)) (ep : Nat) (t : SetTable), (∃ o, h.get? a = some o ∧ o.ExactSet ∧ o.data = .set es ep t) ∧ es.toList = rws w (D.map rwOf) ∧ TabOk t (hss w (D.map rwOf)) ∧ ((D.map rwOf).map (·.2)).Nodup ∧
    (w.params.followText "set-order" = true ∨ t.led = true) ∧ t.mask = 7 ∧ (D.map rwOf).length ≤ 4
theorem SetN.zero {w : World} {h : Heap} {a : Addr} {D : List Dw} {es : Array (Int × Value)} {ep : Nat} {t : SetTable} (R : SetN w h a (D.map rwOf) es ep t) : SetN0 w h a D := ⟨es, ep, t, R.ob, R.rows, R.tab, R.nd, R.led, R.m7, R.few⟩
theorem SetN0.all {w : World} {h : Heap} {a : Addr} {D : List Dw} (R : SetN0 w h a D) (hk : ∀ p ∈ D, IsN h (nk p.2) p.1) : ∃ es ep t, SetN w h a (D.map rwOf) es ep t := by
  obtain ⟨es, ep, t, h1, h2, h3, h4, h5, h6, h7⟩ := R.ex
  exact ⟨es, ep, t, h1, h2, h3, h4, fun r m => by
    obtain ⟨p, hp, rfl⟩ := List.mem_map.mp m
    exact hk p hp, h5, h6, h7⟩
def SetNO (w : World) (a : Addr) (D : List Dw) : HO := .ext fun h => SetN0 w h a D
theorem setNO_ok {P : Program} {w : World} {H : Hp} {h : Heap} {a : Addr} {D : List Dw} (R : SetN0 w h a D) : ObjOk P w H h a (SetNO w a D) := by
  obtain ⟨es, ep, t, ⟨o, ho, r⟩, q⟩ := R.ex
  refine ⟨R, ⟨o, ho⟩, fun h1 h2 p kp => ?_⟩
  obtain ⟨es2, ep2, t2, ⟨o2, ho2, r2⟩, q2⟩ := SetN0.ex p
  exact ⟨es2, ep2, t2, ⟨o2, kp o2 ho2, r2⟩, q2⟩
section
variable {X : Cx}
/-- set(xs), xs a list of at most four keys -/
def rSetN (K : PySem.W.Frag) (w : World) : List V → Hp → VK → Prop := fun xs H Q => ∃ (l : Addr) (D0 : List Dw), xs = [V.ref l] ∧ (SqL K H l (D0.map fun p => V.ref p.1) ∨ SqT K H l (D0.map fun p => V.ref p.1)) ∧ (∀ p ∈ D0, Ky K H (.ref p.1) p.2 ∧ p.2.depth ≤ 8) ∧ D0.length ≤ 4 ∧
  ∀ a D, H a = none → (∀ p ∈ D, p ∈ D0) → (∀ p ∈ D0, ∃ q ∈ D, nk q.2 = nk p.2) → (D.map fun p => nk p.2).Nodup → D.length ≤ D0.length → Q (.ref a) (upd H a (SetNO w a D))
theorem refs_back : ∀ {D : List Dw} {us : List Value}, Vals (D.map fun p => V.ref p.1) us → us = D.map fun p => Value.ref p.1
  | [], _, .nil => rfl
  | p :: D, _, .cons r t => by cases r; rw [refs_back t]; rfl
theorem refs_on : ∀ D : List Dw, Vals (D.map fun p => V.ref p.1) (D.map fun p => Value.ref p.1)
  | [] => .nil
  | p :: D => .cons rfl (refs_on D)
theorem cr_setN (hc : X.calm = true) (hu : X.A.units + 64 < cLine) : CallR X (.type "set") (rSetN X.K X.w) := by
  intro pins s σ H xs us Q I r h
  obtain ⟨l, D0, rfl, hl, hk, h4, q⟩ := h
  rw [Vals.ref1 r]
  have keyIs : ∀ p ∈ D0, IsN s.heap (nk p.2) p.1 := fun p m => ⟨(Ky.real I (hk p m).1 rfl).2, Nat.le_trans (nk_depth _) (hk p m).2⟩
  have keyR : ∀ r ∈ D0.map rwOf, IsN s.heap r.2 r.1 := fun r m => by
    obtain ⟨p, hp, rfl⟩ := List.mem_map.mp m
    exact keyIs p hp
  have last : ∀ (h' : Heap) (tk : Nat) L es ep t, SetN X.w h' s.heap.objs.size L es ep t → In_ (D0.map rwOf) (D0.map rwOf).length L → (∀ b o, s.heap.get? b = some o → h'.get? b = some o) → EP X pins σ Q (.ref s.heap.objs.size) { s with heap := h', toks := tk } := by
    intro h' tk L es ep t R g kp
    obtain ⟨D, rfl, hD⟩ := back_rows (L := L) fun r m => List.mem_of_mem_take (g.sub r m)
    refine ⟨.ref s.heap.objs.size, upd H s.heap.objs.size (SetNO X.w s.heap.objs.size D), I.laid (t' := tk) kp (Nat.le_refl _) (setNO_ok R.zero), rfl, q _ D (I.hok.fresh (Nat.le_refl _)) hD (fun p m => ?_) ?_ (by simpa using g.len)⟩
    · have z := g.all (rwOf p) (by rw [List.take_length]; exact List.mem_map.mpr ⟨p, m, rfl⟩)
      rw [List.map_map] at z
      obtain ⟨q2, hq2, e⟩ := List.mem_map.mp z
      exact ⟨q2, hq2, e⟩
    · have z := R.nd
      rw [List.map_map] at z
      exact z
  rcases hl with hl | hl
  · obtain ⟨its, rv, pl, hz⟩ := I.list hl
    exact call_set_keys (P := X.prog) (D0.map rwOf) (I.ok.hd hc) pl.isList (by rw [List.map_map]; simpa [Function.comp_def] using refs_back rv) keyR (by rw [List.length_map]; exact h4) (by omega) last
  · obtain ⟨its, rv, pl, hz⟩ := I.tuple hl
    exact call_set_keysT (P := X.prog) (D0.map rwOf) (I.ok.hd hc) pl (by rw [List.map_map]; simpa [Function.comp_def] using refs_back rv) keyR (by rw [List.length_map]; exact h4) (by omega) last
/-- sorted(set) -/
def rSortN (K : PySem.W.Frag) (w : World) : List V → Hp → VK → Prop := fun vs H Q => ∃ (a : Addr) (D : List Dw), vs = [V.ref a] ∧ H a = some (SetNO w a D) ∧ (∀ p ∈ D, Ky K H (.ref p.1) p.2 ∧ p.2.depth ≤ 8) ∧ AllAlike (D.map (·.2)) ∧ Sortable (D.map (·.2)) ∧
  ∀ (D1 : List Dw) (p : Addr), D1.Perm D → H p = none → Q (.ref p) (upd H p (.lst ((D1.mergeSort (dataLe false (fun z : Dw => z.2))).map fun z => V.ref z.1)))
theorem cr_sortN (hc : X.calm = true) (hu : X.A.units + 64 < cLine) : CallR X (.builtin "sorted") (rSortN X.K X.w) := by
  intro pins s σ H vs us Q I r h
  obtain ⟨a, D, rfl, ha, hk, hal, hso, q⟩ := h
  have R0 : SetN0 X.w s.heap a D := (I.hok a _ ha).1
  obtain ⟨es, ep, t, R⟩ := R0.all fun p m => ⟨(Ky.real I (hk p m).1 rfl).2, Nat.le_trans (nk_depth _) (hk p m).2⟩
  rw [Vals.ref1 r]
  refine sorted_setN (P := X.prog) R (I.ok.hd hc) (fun p m => (Ky.real I (hk p m).1 rfl).1) hal hso (by omega) (fun p m => (hk p m).2) fun s2 p D1 c kp g o hp hg pD => ?_
  have hn : H p = none := I.hok.fresh hp
  have hlen : ((D1.mergeSort (dataLe false (fun z : Dw => z.2))).map fun z => V.ref z.1).length ≤ sizeLine := by
    have := R.few
    rw [List.length_map] at this
    rw [List.length_map, List.length_mergeSort, pD.length_eq, sizeLine_eq]; omega
  have J : Inv X pins σ (upd H p (.lst ((D1.mergeSort (dataLe false (fun z : Dw => z.2))).map fun z => V.ref z.1))) { s with heap := s2.heap, gens := s2.gens, drawn := s2.drawn, toks := s2.toks } :=
    I.call (ch := []) (Un.laid kp hp hn) (I.hok.laid kp hp ⟨hlen, _, c, refs_on _, hg⟩) (by rw [g]; exact I.bare) (fun _ z => nomatch z)
  have e : s2 = { s with heap := s2.heap, gens := s2.gens, drawn := s2.drawn, toks := s2.toks } := by cases s2; cases s; cases o; rfl
  rw [e]
  exact ⟨.ref p, _, J, rfl, q D1 p pD hn⟩
end
end KaN


set_option maxRecDepth 100000
set_option maxHeartbeats 4000000
/-! sorted(xs), xs a list of tuples of texts (or such data), the first of them empty: the same, in some order -/
namespace KaN
open PySem PySem.Calls PyProof.Rows PySem.W PySem.SeqAt
section
variable {prog : Program} {w : World} {A : Around} {E : Value → Shared → Prop} {s : Shared}
theorem call_tup_lt {Q : Value → Shared → Prop} {l b : Addr} {items items2 : Array Value} {e r : Nat → Bool} (hl : s.heap.IsTuple l items) (hb : s.heap.IsTuple b items2)
    (he : ∀ j (h1 : j < items.size) (h2 : j < items2.size), EqAt A.in1 s items[j] items2[j] (e j)) (hr : ∀ j (h1 : j < items.size) (h2 : j < items2.size), e j = false → RcLt A.in1 s items[j] items2[j] (r j))
    (h : Q (.bool (firstLt e r (decide (items.size < items2.size)) (List.range (min items.size items2.size)))) s) : wpAny (model prog w) A (call (.builtin "tuple.__lt__") [.ref l, .ref b]) Q E s := by
  obtain ⟨⟨cls, dd, data, sl⟩, ho, hc, n, hd⟩ := id hl
  obtain ⟨⟨cls2, dd2, data2, sl2⟩, ho2, hc2, n2, hd2⟩ := id hb
  simp only at hc hd hc2 hd2
  subst hc hd hc2 hd2
  exact call_meets F.slot_tuple_lt ⟨_, ho, rfl⟩ F.entry_tuple_lt (F.args_tuple_lt_2 _ _) (tuple_ltAt l b items items2 n n2 dd dd2 sl sl2 e r) ⟨ho, ho2, he, hr, h⟩
theorem oneLt_tups {xs ys : List PyData} {a b : Value} {as bs : List Addr} (ra : Reads s.heap a (.tuple xs) as) (rb : Reads s.heap b (.tuple ys) bs) (h : alikeAll xs ys = true) (hu : A.units + min (PyData.tuple xs).depth (PyData.tuple ys).depth < cLine) :
    ∃ c : Bool, ∀ {E : Value → Shared → Prop} {Q : Bool → Shared → Prop}, Q c s → wpAny (model prog w) A (oneLt' true a b) Q E s := by
  cases ra with
  | @tuple l o vs n _ as₁ h1 h2 h3 h4 =>
    cases rb with
    | @tuple l' o' vs' n' _ bs₁ k1 k2 k3 k4 =>
      refine ⟨firstLt (pairEq xs ys) (fun j => dataLt (xs.getD j .none) (ys.getD j .none)) (decide (vs.size < vs'.size)) (List.range (min vs.size vs'.size)), fun {E Q} q => ?_⟩
      rw [oneLt'_eq]
      simp only [if_true]
      refine wpAny_bind (wpAny_cRoomFor (room_here hu) ?_)
      refine wpAny_bind (wpAny_callSpecialIfBound?_slot (T := "tuple") ⟨_, h1, h2⟩ F.slot_tuple_lt (call_tup_lt (e := pairEq xs ys) (r := fun j => dataLt (xs.getD j .none) (ys.getD j .none)) ⟨_, h1, h2, _, h3⟩ ⟨_, k1, k2, _, k3⟩ (fun j j1 j2 => ?_) (fun j j1 j2 hj => ?_) ?_))
      · have := eqAt_alikeAll xs ys A.in1 s vs.toList vs'.toList _ _ h4 k4 h (room_in hu) j (by simpa using j1) (by simpa using j2)
        simpa using this
      · have := rcLt_alikeAll xs ys A.in1 s vs.toList vs'.toList _ _ h4 k4 h (room_in hu) j (by simpa using j1) (by simpa using j2) hj
        simpa using this
      · exact wpAny_truthy_bool q
theorem mapM_var {α β : Type} {f : α → Sem β} {g : α → β} : ∀ (l : List α) {Q : List β → Shared → Prop}, (∀ v ∈ l, ∀ (Q' : β → Shared → Prop), Q' (g v) s → wpAny (model prog w) A (f v) Q' E s) → Q (l.map g) s → wpAny (model prog w) A (l.mapM f) Q E s
  | [], _, _, h => by rw [List.mapM_nil]; exact wpAny_pure h
  | x :: l, Q, hf, h => by
    rw [List.mapM_cons]
    exact wpAny_bind (hf x (.head _) _ (wpAny_bind (mapM_var l (Q := fun bs s' => wpAny (model prog w) A (pure (g x :: bs)) Q E s') (fun v hv => hf v (.tail _ hv)) (wpAny_pure h))))
/-- the first item of a tuple, as the heap has it -/
noncomputable def fst1 (h : Heap) (v : Value) : Option Value := match v with
  | .ref a => match h.get? a with
    | some o => match o.data with
      | .seq xs _ => xs[0]?
      | _ => none
    | none => none
  | _ => none
theorem first_tup {v : Value} {ds : List PyData} {as : List Addr} (r : Reads s.heap v (.tuple ds) as) {Q : Option Value → Shared → Prop} (q : Q (fst1 s.heap v) s) : wpAny (model prog w) A (firstOfTuple' v) Q E s := by
  have L := looks_reads (M := model prog w) r
  cases r with
  | @tuple l o vs n _ as₁ h1 h2 h3 h4 =>
    rw [kas_first_eq]
    refine wpAny_bind (L.here ?_)
    rw [if_neg (by simp [dataType])]
    refine wpAny_bind (listItems_at h1 h3 (wpAny_pure ?_))
    have e : fst1 s.heap (.ref l) = vs[0]? := by
      unfold fst1
      dsimp only
      rw [h1]
      dsimp only
      rw [h3]
    rw [e] at q
    exact q
theorem kind_tups {v0 : Value} {vs : List Value} (h0 : ∃ as, Reads s.heap v0 (.tuple []) as) (hv : ∀ v ∈ v0 :: vs, ∃ ds as, Reads s.heap v (.tuple ds) as) {Q : SortKind → Shared → Prop} (h : Q oneType' s) : wpAny (model prog w) A (keyKind' (v0 :: vs).toArray) Q E s := by
  have e0 : fst1 s.heap v0 = none := by
    obtain ⟨as, r⟩ := h0
    cases r with
    | @tuple l o vs n _ as₁ h1 h2 h3 h4 =>
      have n0 : vs.size = 0 := by simpa using ReadsAll.length _ _ _ h4
      unfold fst1
      dsimp only
      rw [h1]
      dsimp only
      rw [h3]
      dsimp only
      exact Array.getElem?_eq_none (by omega)
  rw [keyKind'_eq, List.mapM_toArray, map_eq_pure_bind]
  refine wpAny_bind (wpAny_bind (mapM_var (g := fst1 s.heap) _ (fun v m Q' hq => ?_) (wpAny_pure ?_)))
  · obtain ⟨ds, as, r⟩ := hv v m
    exact first_tup r hq
  · rw [if_neg (by simp [e0]), if_neg (by simp [e0])]
    rw [oneTypeOnly'_eq, List.mapM_toArray, map_eq_pure_bind]
    refine wpAny_bind (wpAny_bind (wpAny_bind (kas_mapM (r := Value.type "tuple") _ (fun v m Q' hq => ?_) (wpAny_pure ?_))))
    · obtain ⟨ds, as, r⟩ := hv v m
      exact (looks_reads (M := model prog w) r).here hq
    · have hall : ((List.map (fun _ => Value.type "tuple") (v0 :: vs)).toArray.all fun x => x == Value.type "tuple") = true := by
        simp only [List.all_toArray, List.all_map, List.all_eq_true]
        intro _ _
        exact beq_self_eq_true _
      have h0 : (List.map (fun _ => Value.type "tuple") (v0 :: vs)).toArray[0]? = some (Value.type "tuple") := by simp
      rw [h0]
      simp only [hall, if_true]
      exact wpAny_pure (wpAny_pure h)
end
end KaN
namespace KaN
open PySem PySem.Spec PyProof.Rows L2 PySem.W
theorem perm_dw {out : List Value} {D : List Dw} (p : out.Perm (D.map fun z => Value.ref z.1)) : ∃ D1 : List Dw, D1.Perm D ∧ out = D1.map fun z => Value.ref z.1 := by
  obtain ⟨D1, pD, e⟩ := perm_map_of p D rfl
  exact ⟨D1, pD, e⟩
def rSort0 (K : PySem.W.Frag) : List V → Hp → VK → Prop := fun vs H Q => ∃ (a : Addr) (D : List Dw), vs = [V.ref a] ∧ SqL K H a (D.map fun z => V.ref z.1) ∧ (∃ p r, D = p :: r ∧ p.2 = .tuple []) ∧ (∀ p ∈ D, ∃ ds, p.2 = .tuple ds ∧ Ky K H (.ref p.1) p.2 ∧ p.2.depth ≤ 8) ∧ AllAlike (D.map (·.2)) ∧
  ∀ (D1 : List Dw) (p : Addr), D1.Perm D → H p = none → Q (.ref p) (upd H p (.lst (D1.map fun z => V.ref z.1)))
theorem cr_sort0 {X : Cx} (hu : X.A.units + 64 < cLine) : CallR X (.builtin "sorted") (rSort0 X.K) := by
  intro pins s σ H vs us Q I r h
  obtain ⟨a, D, rfl, hs, ⟨p0, r0, hd0, e0⟩, hk, hal, q⟩ := h
  obtain ⟨its, rv, hl, hz⟩ := I.list hs
  rw [Vals.ref1 r]
  have ev : its = D.map fun z => Value.ref z.1 := by
    have go : ∀ {D : List Dw} {us : List Value}, Vals (D.map fun z => V.ref z.1) us → us = D.map fun z => Value.ref z.1 := by
      intro D
      induction D with
      | nil => intro us r; cases r; rfl
      | cons z D ih =>
        intro us r
        cases r with
        | cons r1 r2 =>
          rw [List.map_cons, ← ih r2]
          cases r1
          rfl
    exact go rv
  subst ev
  have rd : ∀ z ∈ D, ∃ ds, z.2 = .tuple ds ∧ Reads s.heap (.ref z.1) (.tuple ds) [] ∧ z.2.depth ≤ 8 := fun z m => by
    obtain ⟨ds, e, ky, d8⟩ := hk z m
    have := (Ky.real I ky (show RelV (.ref z.1) (.ref z.1) from rfl)).1
    rw [e] at this
    exact ⟨ds, e, this, d8⟩
  refine Srt.sorted_any hl.isList (by rw [← rv.length]; exact hz) (fun h2 h1 b hb kp h' kp' => ⟨oneType', fun Q' E' hq => ?_, fun p q hp hq => ?_⟩) fun out ho => ?_
  · have up : ∀ (z : Dw), z ∈ D → ∃ ds as, Reads h' (.ref z.1) (.tuple ds) as := fun z m => by
      obtain ⟨ds, _, r, _⟩ := rd z m
      exact ⟨ds, [], PyProof.Rows.Reads.keeps (fun c u e => kp' c u (kp c u e).1 (kp c u e).2) r⟩
    rw [hd0, List.map_cons]
    refine kind_tups (s := { s with heap := h' }) ?_ (fun v m => ?_) hq
    · obtain ⟨ds, e, r, _⟩ := rd p0 (by rw [hd0]; exact List.mem_cons_self)
      rw [e0] at e
      cases e
      exact ⟨[], PyProof.Rows.Reads.keeps (fun c u e => kp' c u (kp c u e).1 (kp c u e).2) r⟩
    · rw [← List.map_cons (f := fun z : Dw => Value.ref z.1), ← hd0] at m
      obtain ⟨z, mz, rfl⟩ := List.mem_map.mp m
      exact up z mz
  · obtain ⟨z, mz, ez⟩ := List.mem_map.mp hp
    obtain ⟨y, my, ey⟩ := List.mem_map.mp hq
    obtain ⟨ds, e1, r1, d1⟩ := rd z mz
    obtain ⟨es, e2, r2, d2⟩ := rd y my
    have k1 := PyProof.Rows.Reads.keeps (fun c u e => kp' c u (kp c u e).1 (kp c u e).2) r1
    have k2 := PyProof.Rows.Reads.keeps (fun c u e => kp' c u (kp c u e).1 (kp c u e).2) r2
    have al := hal _ (List.mem_map_of_mem mz) _ (List.mem_map_of_mem my)
    rw [e1, e2] at al
    rw [e1] at d1
    have al' : alikeAll ds es = true := by simpa [alike] using al
    obtain ⟨b2, hb2⟩ := oneLt_tups (prog := X.prog) (w := X.w) (A := X.A.in1.in1) (s := { s with heap := h' }) k1 k2 al' (by
      have : min (PyData.tuple ds).depth (PyData.tuple es).depth ≤ 8 := Nat.le_trans (Nat.min_le_left _ _) d1
      simp only [Around.in1_units]
      omega)
    refine ⟨b2, ?_⟩
    rw [← ez, ← ey, keyLt'_oneType]
    exact hb2 ⟨rfl, rfl⟩
  · obtain ⟨D1, pD, eo⟩ := perm_dw ho
    obtain ⟨ep, he'⟩ := PyProof.Rows.sortedAll_at s.heap (D.map fun z => Value.ref z.1) out.toArray
    have hlen : (D1.map fun z => V.ref z.1).length ≤ sizeLine := by
      rw [List.length_map, pD.length_eq]
      rw [List.length_map] at hz
      exact hz
    have he2 : (PyProof.Rows.sortedAll s.heap (D.map fun z => Value.ref z.1) out.toArray).get? (s.heap.objs.size + 1) = some (seqObj "list" (D1.map fun z => Value.ref z.1).toArray ep) := by rw [← eo]; exact he'
    exact ⟨.ref _, upd H (s.heap.objs.size + 1) (.lst (D1.map fun z => V.ref z.1)), I.laid (t' := s.toks) (fun _ _ => PyProof.Rows.sortedAll_old) (Nat.le_succ _) ⟨hlen, D1.map fun z => Value.ref z.1, ep, refs_on _, he2⟩, rfl, q D1 _ pD (I.hok.fresh (Nat.le_succ _))⟩
end KaN


set_option maxRecDepth 100000
set_option maxHeartbeats 4000000
namespace KaG
open PySem PySem.Spec PyProof.Rows L2 KaC KaN
abbrev LotAt (H : Hp) (a : Addr) (lot : List Str) : Prop := H a = some (.tup (lot.map V.str))
def lotD (lot : List Str) : PyData := .tuple (lot.map PyData.str)
theorem kyA_strs {K : PySem.W.Frag} {H : Hp} : ∀ (xs : List Str), KyA K H (xs.map V.str) (xs.map PyData.str)
  | [] => .nil
  | x :: r => .cons (.str x) (kyA_strs r)
theorem depA_strs : ∀ (xs : List Str), PyData.depthAll (xs.map PyData.str) = 0
  | [] => by simp [PyData.depthAll]
  | x :: r => by
    rw [List.map_cons, PyData.depthAll, depA_strs r]
    simp [PyData.depth]
theorem alike_strs : ∀ (xs ys : List Str), PySem.W.alikeAll (xs.map PyData.str) (ys.map PyData.str) = true
  | [], _ => by simp [PySem.W.alikeAll]
  | _ :: _, [] => by simp [PySem.W.alikeAll]
  | x :: xs, y :: ys => by
    rw [List.map_cons, List.map_cons, PySem.W.alikeAll, alike_strs xs ys]
    simp [PySem.W.alike]
/-- lots as data, with their addresses -/
theorem lots_dw {K : PySem.W.Frag} {H : Hp} : ∀ {as : List Addr} {lots : List (List Str)}, Paired (LotAt H) as lots → ∃ D : List Dw, (D.map fun z => V.ref z.1) = as.map V.ref ∧ D.length = as.length ∧ (∀ p ∈ D, ∃ lot, lot ∈ lots ∧ p.2 = lotD lot ∧ LotAt H p.1 lot) ∧ (∀ a r l ls, as = a :: r → lots = l :: ls → ∃ p q, D = p :: q ∧ p.2 = lotD l)
  | _, _, .nil => ⟨[], rfl, rfl, (fun _ z => nomatch z), (fun _ _ _ _ e => nomatch e)⟩
  | _, _, .cons (a := a) (b := l) h r => by
    obtain ⟨D, h1, h2, h3, h4⟩ := lots_dw (K := K) r
    refine ⟨(a, lotD l) :: D, by rw [List.map_cons, List.map_cons, h1], by rw [List.length_cons, List.length_cons, h2], fun p m => ?_, fun a' r' l' ls' e1 e2 => ?_⟩
    · rcases List.mem_cons.mp m with z | z
      · rw [z]
        exact ⟨l, List.mem_cons_self, rfl, h⟩
      · obtain ⟨lot, m1, m2, m3⟩ := h3 p z
        exact ⟨lot, List.mem_cons_of_mem _ m1, m2, m3⟩
    · cases e2
      exact ⟨_, _, rfl, rfl⟩
section
variable {P : Program} {w : World} {K : PySem.W.Frag} {mg : Str → Option Value} {base : Heap}
abbrev nmLo : List Str := ["things", "found", "thing", "lot"]
def spLots : Sp := fun vs H Q _ => ∃ (r : Addr) (rows : List Str), vs = [.ref r] ∧ H r = some (.tup (rows.map V.str)) ∧ 0 < rows.length ∧ rows.length ≤ 5 ∧ ∀ (p : Addr) (as : List Addr) (H' : Hp), Same H H' → H p = none → H' p = some (.lst (as.map V.ref)) → 2 ≤ as.length → as.length ≤ 32 → (∀ a ∈ as, ∃ lot, LotAt H' a lot ∧ lot.length ≤ 5 ∧ ∀ n ∈ lot, n ∈ rows) → Q (.ref p) H'
end
end KaG


set_option maxRecDepth 100000
set_option maxHeartbeats 4000000
/-! sorted(xs), xs a list of tuples (the first of them empty, or all with items): THE sorted list -/
namespace KaN
open PySem PySem.Calls PyProof.Rows PySem.W PySem.SeqAt
section
variable {prog : Program} {w : World} {A : Around} {E : Value → Shared → Prop} {s : Shared}
theorem oneLt_tup {xs ys : List PyData} {a b : Value} {as bs : List Addr} {Q : Bool → Shared → Prop} (ra : Reads s.heap a (.tuple xs) as) (rb : Reads s.heap b (.tuple ys) bs) (h : alikeAll xs ys = true) (hu : A.units + min (PyData.tuple xs).depth (PyData.tuple ys).depth < cLine)
    (q : Q (dataLt (.tuple xs) (.tuple ys)) s) : wpAny (model prog w) A (oneLt' true a b) Q E s := by
  cases ra with
  | @tuple l o vs n _ as₁ h1 h2 h3 h4 =>
    cases rb with
    | @tuple l' o' vs' n' _ bs₁ k1 k2 k3 k4 =>
      have n1 : vs.size = xs.length := by simpa using ReadsAll.length _ _ _ h4
      have n2 : vs'.size = ys.length := by simpa using ReadsAll.length _ _ _ k4
      rw [dataLt_tuple, ← firstLt_toks xs ys h, ← n1, ← n2] at q
      rw [oneLt'_eq]
      simp only [if_true]
      refine wpAny_bind (wpAny_cRoomFor (room_here hu) ?_)
      refine wpAny_bind (wpAny_callSpecialIfBound?_slot (T := "tuple") ⟨_, h1, h2⟩ F.slot_tuple_lt (call_tup_lt (e := pairEq xs ys) (r := fun j => dataLt (xs.getD j .none) (ys.getD j .none)) ⟨_, h1, h2, _, h3⟩ ⟨_, k1, k2, _, k3⟩ (fun j j1 j2 => ?_) (fun j j1 j2 hj => ?_) ?_))
      · have := eqAt_alikeAll xs ys A.in1 s vs.toList vs'.toList _ _ h4 k4 h (room_in hu) j (by simpa using j1) (by simpa using j2)
        simpa using this
      · have := rcLt_alikeAll xs ys A.in1 s vs.toList vs'.toList _ _ h4 k4 h (room_in hu) j (by simpa using j1) (by simpa using j2) hj
        simpa using this
      · exact wpAny_truthy_bool q
theorem SortsAt0 {vs : List Value} {ds : List PyData} (e : EachIs (fun v d => ∃ as, Reads s.heap v d as) vs (.tuple [] :: ds)) (hal : AllAlike (.tuple [] :: ds)) (ht : ∀ d ∈ ds, ∃ xs, d = .tuple xs) (hu : ∀ d, d ∈ PyData.tuple [] :: ds → A.units + d.depth < cLine) : SortsAt prog w A s (dataKind s.heap (.tuple [] :: ds)) vs := by
  have ht' : ∀ d ∈ PyData.tuple [] :: ds, ∃ xs, d = .tuple xs := fun d hd => by
    rcases List.mem_cons.mp hd with rfl | hd
    · exact ⟨_, rfl⟩
    · exact ht d hd
  refine ⟨fun v hv => ?_, oneType', ?_, fun h2 E Q hq => ?_⟩
  · obtain ⟨d, hd, as, r⟩ := e.left v hv
    exact ⟨_, dataKind_some hal hd r⟩
  · intro E x y a b Q ha hb hq
    obtain ⟨d, as, hd, ra, rfl⟩ := dataKind_inv ha
    obtain ⟨d', as', hd', rb, rfl⟩ := dataKind_inv hb
    have hdd := hal d hd d' hd'
    have hro : A.units + min d.depth d'.depth < cLine := Nat.lt_of_le_of_lt (Nat.add_le_add_left (Nat.min_le_left _ _) _) (hu d hd)
    obtain ⟨xs, rfl⟩ := ht' d hd
    obtain ⟨ys, rfl⟩ := ht' d' hd'
    rw [keyLt'_oneType]
    exact oneLt_tup ra rb (by simpa [alike] using hdd) hro hq
  · cases vs with
    | nil => cases e
    | cons v0 vr =>
      refine kind_tups ?_ (fun v m => ?_) hq
      · cases e with
        | cons h1 _ => exact h1
      · obtain ⟨d, hd, as, r⟩ := e.left v m
        obtain ⟨xs, rfl⟩ := ht' d hd
        exact ⟨xs, as, r⟩
end
end KaN
namespace KaN
open PySem PySem.Spec PyProof.Rows L2 PySem.W
/-- a list of data that can be sorted here: as the library says, or tuples, the first of them empty -/
def Sortable0 (ds : List PyData) : Prop := Sortable ds ∨ ∃ r, ds = .tuple [] :: r ∧ ∀ d ∈ r, ∃ xs, d = .tuple xs
def rSortE (K : PySem.W.Frag) : List V → Hp → VK → Prop := fun vs H Q => ∃ (a : Addr) (D : List Dw), vs = [V.ref a] ∧ SqL K H a (D.map fun z => V.ref z.1) ∧ (∀ p ∈ D, Ky K H (.ref p.1) p.2 ∧ p.2.depth ≤ 8) ∧ AllAlike (D.map (·.2)) ∧ Sortable0 (D.map (·.2)) ∧
  ∀ (p : Addr), H p = none → Q (.ref p) (upd H p (.lst ((D.mergeSort (dataLe false fun z : Dw => z.2)).map fun z => V.ref z.1)))
theorem cr_sortE {X : Cx} (hu : X.A.units + 64 < cLine) : CallR X (.builtin "sorted") (rSortE X.K) := by
  intro pins s σ H vs us Q I r h
  obtain ⟨a, D, rfl, hs, hk, hal, hso, q⟩ := h
  obtain ⟨its, rv, hl, hz⟩ := I.list hs
  rw [Vals.ref1 r]
  have ev : its = D.map fun z => Value.ref z.1 := by
    have go : ∀ {D : List Dw} {us : List Value}, Vals (D.map fun z => V.ref z.1) us → us = D.map fun z => Value.ref z.1 := by
      intro D
      induction D with
      | nil => intro us r; cases r; rfl
      | cons z D ih =>
        intro us r
        cases r with
        | cons r1 r2 =>
          rw [List.map_cons, ← ih r2]
          cases r1
          rfl
    exact go rv
  subst ev
  have hL : D.length ≤ sizeLine := by rw [List.length_map] at hz; exact hz
  have rd : ∀ z ∈ D, Reads s.heap (.ref z.1) z.2 [] ∧ z.2.depth ≤ 8 := fun z m => by
    obtain ⟨ky, d8⟩ := hk z m
    exact ⟨(Ky.real I ky (show RelV (.ref z.1) (.ref z.1) from rfl)).1, d8⟩
  have e0 : EachIs (fun (v : Value) (p : Dw) => v = .ref p.1) (D.map fun p => Value.ref p.1) D := by
    have go : ∀ l : List Dw, EachIs (fun (v : Value) (p : Dw) => v = .ref p.1) (l.map fun p => Value.ref p.1) l := by
      intro l
      induction l with
      | nil => exact .nil
      | cons z l ih => exact .cons rfl ih
    exact go D
  generalize eh : sortingHeap (copyHeap s.heap (D.map fun z => Value.ref z.1)) (s.heap.objs.size + 1) (D.map fun z => Value.ref z.1) = h'
  have er : EachIs (fun (v : Value) (p : Dw) => ∃ as, Reads h' v p.2 as) (D.map fun p => Value.ref p.1) D := by
    refine (each_mem e0).mono fun v p ⟨e, m⟩ => ⟨[], ?_⟩
    rw [e, ← eh]
    exact PyProof.Rows.Reads.keeps (fun _ _ => sorting_copy_old) (rd p m).1
  have er' := each_map (R := fun v d => ∃ as, Reads h' v d as) (fun p : Dw => p.2) er
  have hub : ∀ d, d ∈ D.map (fun p : Dw => p.2) → X.A.in1.in1.units + d.depth < cLine := by
    intro d hd
    obtain ⟨z, m, rfl⟩ := List.mem_map.mp hd
    have := (rd z m).2
    simp only [Around.in1_units]
    omega
  have S : SortsAt X.prog X.w X.A.in1.in1 { s with heap := h' } (dataKind h' (D.map fun p : Dw => p.2)) (D.map fun z => Value.ref z.1) := by
    rcases hso with hso | ⟨r, er0, ht⟩
    · exact SortsAt.data (s := { s with heap := h' }) er' hal hso hub
    · rw [er0] at er' hal hub ⊢
      exact SortsAt0 (s := { s with heap := h' }) er' hal ht hub
  refine sorted_vals hl.isList (by rw [eh]; exact S) (by rw [List.length_map]; exact hL) ?_
  have eo := sortVals_data (R := fun (v : Value) (p : Dw) => v = .ref p.1) (enc := fun p : Dw => p.2) false e0 er hal
  have eo2 : sortVals (dataKind h' (D.map fun p : Dw => p.2)) false (D.map fun z => Value.ref z.1) (D.map fun z => Value.ref z.1) = (D.mergeSort (dataLe false fun z : Dw => z.2)).map fun z => Value.ref z.1 := by
    generalize sortVals (dataKind h' (D.map fun p : Dw => p.2)) false (D.map fun z => Value.ref z.1) (D.map fun z => Value.ref z.1) = o at eo ⊢
    generalize D.mergeSort (dataLe false fun z : Dw => z.2) = m at eo ⊢
    clear er er' S hub e0 q
    induction eo with
    | nil => rfl
    | cons h1 _ ih => rw [List.map_cons, h1, ih]
  rw [eo2]
  obtain ⟨ep, he'⟩ := PyProof.Rows.sortedAll_at s.heap (D.map fun z => Value.ref z.1) ((D.mergeSort (dataLe false fun z : Dw => z.2)).map fun z => Value.ref z.1).toArray
  have hlen : ((D.mergeSort (dataLe false fun z : Dw => z.2)).map fun z => V.ref z.1).length ≤ sizeLine := by
    rw [List.length_map, List.length_mergeSort]
    exact hL
  exact ⟨.ref _, upd H (s.heap.objs.size + 1) (.lst ((D.mergeSort (dataLe false fun z : Dw => z.2)).map fun z => V.ref z.1)), I.laid (t' := s.toks) (fun _ _ => PyProof.Rows.sortedAll_old) (Nat.le_succ _) ⟨hlen, (D.mergeSort (dataLe false fun z : Dw => z.2)).map fun z => Value.ref z.1, ep, refs_on _, he'⟩, rfl, q _ (I.hok.fresh (Nat.le_succ _))⟩
end KaN


set_option maxRecDepth 100000
set_option maxHeartbeats 4000000
/-! lots of rows, in plain lists: all lots, the least that hold, in order -/
namespace KaG
open PySem PySem.Spec PyProof.Rows L2 KaC KaN
abbrev Lot := List Str
/-! ### one order, one sorted list -/
theorem toksA_inj : ∀ {xs ys : Lot}, PySem.W.keyToksAll (xs.map PyData.str) = PySem.W.keyToksAll (ys.map PyData.str) → xs = ys
  | [], [], _ => rfl
  | [], y :: ys, h => by
    rw [List.map_cons, PySem.W.toks_all_cons] at h
    simp [PySem.W.keyToksAll] at h
  | x :: xs, [], h => by
    rw [List.map_cons, PySem.W.toks_all_cons] at h
    simp [PySem.W.keyToksAll] at h
  | x :: xs, y :: ys, h => by
    rw [List.map_cons, List.map_cons, PySem.W.toks_all_cons, PySem.W.toks_all_cons] at h
    simp only [PySem.W.keyToks, List.singleton_append, List.cons.injEq, true_and, Sum.inr.injEq] at h
    rw [PySem.W.str_of_cps h.1, toksA_inj h.2]
abbrev leL : Lot → Lot → Bool := PySem.W.dataLe false lotD
theorem leL_tot : PySem.W.TotalLe leL := PySem.W.sortLe_total _ _ _
theorem leL_anti {a b : Lot} (h1 : leL a b = true) (h2 : leL b a = true) : a = b := by
  have h1' : (!PySem.W.dataLt (lotD b) (lotD a)) = true := h1
  have h2' : (!PySem.W.dataLt (lotD a) (lotD b)) = true := h2
  rw [Bool.not_eq_true', lotD, lotD, PySem.W.dataLt_tuple] at h1' h2'
  exact toksA_inj (PyProof.Rows.lex_total _ _ h2' h1')
def srt (l : List Lot) : List Lot := l.mergeSort leL
theorem srt_perm (l : List Lot) : (srt l).Perm l := List.mergeSort_perm l leL
theorem srt_pw (l : List Lot) : (srt l).Pairwise fun a b => leL a b = true := PySem.W.sort_pairwise leL_tot l
theorem srt_is {l m : List Lot} (p : m.Perm l) (h : m.Pairwise fun a b => leL a b = true) : m = srt l :=
  List.Perm.eq_of_pairwise (fun a b _ _ h1 h2 => leL_anti h1 h2) h (srt_pw l) (p.trans (srt_perm l).symm)
theorem srt_cg {l m : List Lot} (p : m.Perm l) : srt m = srt l := srt_is ((srt_perm m).trans p) (srt_pw m)
theorem leL_nil (l : Lot) : leL [] l = true := by
  show (!PySem.W.dataLt (lotD l) (lotD [])) = true
  rw [Bool.not_eq_true', lotD, lotD, PySem.W.dataLt_tuple]
  cases l with
  | nil => exact PyProof.Rows.lex_irrefl _
  | cons x r =>
    rw [List.map_cons, PySem.W.toks_all_cons]
    simp only [List.map_nil, PySem.W.keyToksAll]
    rw [PyProof.Rows.lex_diff (O := PyProof.Rows.itemOrd) (by simp)]
    simp [PyProof.Rows.itemLt]
/-- the empty lot is the first one -/
theorem srt_nil {l : List Lot} (m : [] ∈ l) : ∃ r, srt l = [] :: r := by
  have m' : [] ∈ srt l := (srt_perm l).mem_iff.mpr m
  have pw := srt_pw l
  cases e : srt l with
  | nil =>
    rw [e] at m'
    cases m'
  | cons x r =>
    rw [e] at m' pw
    rcases List.mem_cons.mp m' with z | z
    · exact ⟨r, by rw [z]⟩
    · exact ⟨r, by rw [leL_anti (leL_nil x) ((List.pairwise_cons.mp pw).1 _ z)]⟩
/-! ### all lots -/
def lotsStep (L : List Lot) (n : Str) : List Lot := L ++ L.map fun l => l ++ [n]
def lotsOf (rows : List Str) : List Lot := rows.foldl lotsStep [[]]
theorem lotsOf_snoc (rows : List Str) (n : Str) : lotsOf (rows ++ [n]) = lotsStep (lotsOf rows) n := by
  unfold lotsOf
  rw [List.foldl_append]
  rfl
theorem rev_ind {α : Type} {p : List α → Prop} (h0 : p []) (h1 : ∀ xs x, p xs → p (xs ++ [x])) (xs : List α) : p xs := by
  have go : ∀ ys : List α, p ys.reverse := fun ys => by
    induction ys with
    | nil => exact h0
    | cons y ys ih =>
      rw [List.reverse_cons]
      exact h1 _ _ ih
  have := go xs.reverse
  rwa [List.reverse_reverse] at this
theorem mem_lots (rows : List Str) : ∀ l : Lot, l ∈ lotsOf rows ↔ l.Sublist rows := by
  refine rev_ind (p := fun rows => ∀ l : Lot, l ∈ lotsOf rows ↔ l.Sublist rows) (fun l => ?_) (fun rows n ih l => ?_) rows
  · show l ∈ [[]] ↔ _
    rw [List.mem_singleton, List.sublist_nil]
  · rw [lotsOf_snoc, lotsStep, List.mem_append, List.mem_map, ih l, List.sublist_append_iff]
    refine ⟨fun h => ?_, fun ⟨l1, l2, e, s1, s2⟩ => ?_⟩
    · rcases h with h | ⟨l0, m0, e⟩
      · exact ⟨l, [], (List.append_nil _).symm, h, List.nil_sublist _⟩
      · exact ⟨l0, [n], e.symm, (ih l0).mp m0, List.Sublist.refl _⟩
    · cases s2 with
      | cons _ s3 =>
        rw [List.sublist_nil] at s3
        rw [s3, List.append_nil] at e
        exact .inl (e ▸ s1)
      | cons_cons _ s3 =>
        rw [List.sublist_nil] at s3
        rw [s3] at e
        exact .inr ⟨l1, (ih l1).mpr s1, e.symm⟩
theorem lots_nodup (rows : List Str) : rows.Nodup → (lotsOf rows).Nodup := by
  refine rev_ind (p := fun rows => rows.Nodup → (lotsOf rows).Nodup) (fun _ => ?_) (fun rows n ih nd => ?_) rows
  · show [[]].Nodup
    simp
  · rw [List.nodup_append] at nd
    obtain ⟨nd1, _, nd2⟩ := nd
    have nn : n ∉ rows := fun m => nd2 n m n List.mem_cons_self rfl
    have ih := ih nd1
    rw [lotsOf_snoc, lotsStep, List.nodup_append]
    refine ⟨ih, ?_, fun a ma b mb e => ?_⟩
    · rw [List.Nodup, List.pairwise_map]
      exact ih.imp fun {a b} hne e => hne (List.append_cancel_right e)
    · obtain ⟨b0, _, rfl⟩ := List.mem_map.mp mb
      have := ((mem_lots rows a).mp ma).subset (a := n) (by rw [e]; simp)
      exact nn this
theorem lots_len (rows : List Str) : (lotsOf rows).length = 2 ^ rows.length := by
  refine rev_ind (p := fun rows => (lotsOf rows).length = 2 ^ rows.length) rfl (fun rows n ih => ?_) rows
  rw [lotsOf_snoc, lotsStep, List.length_append, List.length_map, ih, List.length_append, List.length_singleton, Nat.pow_succ]
  omega
theorem nil_lots (rows : List Str) : [] ∈ lotsOf rows := (mem_lots rows []).mpr (List.nil_sublist _)
theorem lots_head (rows : List Str) : ∃ r, lotsOf rows = [] :: r := by
  refine rev_ind (p := fun rows => ∃ r, lotsOf rows = [] :: r) ⟨[], rfl⟩ (fun rows n ⟨r, e⟩ => ?_) rows
  rw [lotsOf_snoc, lotsStep, e]
  exact ⟨_, rfl⟩
/-! ### lots within lots -/
theorem sub_filter {rows o : List Str} (h : o.Sublist rows) : rows.Nodup → rows.filter (fun x => decide (x ∈ o)) = o := by
  induction h with
  | slnil => intro _; rfl
  | @cons o r a s ih =>
    intro nd
    rw [List.nodup_cons] at nd
    have : a ∉ o := fun m => nd.1 (s.subset m)
    rw [List.filter_cons_of_neg (by simpa using this)]
    exact ih nd.2
  | @cons_cons o r a s ih =>
    intro nd
    rw [List.nodup_cons] at nd
    rw [List.filter_cons_of_pos (by simp)]
    congr 1
    refine Eq.trans (List.filter_congr fun x m => ?_) (ih nd.2)
    have : x ≠ a := fun e => nd.1 (e ▸ m)
    simp [this]
/-- the one lies in the other -/
def win (o l : Lot) : Bool := o.all fun x => decide (x ∈ l)
theorem win_iff {o l : Lot} : win o l = true ↔ ∀ x ∈ o, x ∈ l := by
  unfold win
  rw [List.all_eq_true]
  exact ⟨fun h x m => of_decide_eq_true (h x m), fun h x m => decide_eq_true (h x m)⟩
theorem win_refl (l : Lot) : win l l = true := win_iff.mpr fun _ m => m
theorem win_trans {a b c : Lot} (h1 : win a b = true) (h2 : win b c = true) : win a c = true := win_iff.mpr fun x m => win_iff.mp h2 x (win_iff.mp h1 x m)
theorem win_le {rows o l : Lot} (nd : rows.Nodup) (ho : o.Sublist rows) (h : win o l = true) : o.length ≤ l.length := List.Nodup.length_le_of_subset (ho.nodup nd) fun x m => win_iff.mp h x m
theorem win_eq {rows o l : Lot} (nd : rows.Nodup) (ho : o.Sublist rows) (hl : l.Sublist rows) (h : win o l = true) (le : l.length ≤ o.length) : o = l := by
  have back : ∀ x ∈ l, x ∈ o := fun x m => Classical.byContradiction fun nm => by
    have nd2 : (x :: o).Nodup := List.nodup_cons.mpr ⟨nm, ho.nodup nd⟩
    have := List.Nodup.length_le_of_subset nd2 (l₂ := l) (fun y my => by
      rcases List.mem_cons.mp my with rfl | my
      · exact m
      · exact win_iff.mp h y my)
    rw [List.length_cons] at this
    omega
  rw [← sub_filter ho nd, ← sub_filter hl nd]
  exact List.filter_congr fun x _ => decide_eq_decide.mpr ⟨fun m => win_iff.mp h x m, back x⟩
/-! ### the least lots that hold -/
def Lst (h : Lot → Bool) (M : List Lot) (l : Lot) : Prop := l ∈ M ∧ h l = true ∧ ∀ o ∈ M, h o = true → win o l = true → o = l
theorem lst_below {rows : List Str} {h : Lot → Bool} {M : List Lot} (nd : rows.Nodup) (hM : ∀ l ∈ M, l.Sublist rows) : ∀ (n : Nat) (o : Lot), o.length ≤ n → o ∈ M → h o = true → ∃ o', Lst h M o' ∧ win o' o = true := by
  intro n
  induction n with
  | zero =>
    intro o le m ho
    refine ⟨o, ⟨m, ho, fun o2 m2 _ w => win_eq nd (hM _ m2) (hM _ m) w (by omega)⟩, win_refl o⟩
  | succ n ih =>
    intro o le m ho
    by_cases c : ∀ o2 ∈ M, h o2 = true → win o2 o = true → o2 = o
    · exact ⟨o, ⟨m, ho, c⟩, win_refl o⟩
    · have : ∃ o2, o2 ∈ M ∧ h o2 = true ∧ win o2 o = true ∧ o2 ≠ o := by
        refine Classical.byContradiction fun z => c fun o2 m2 h2 w2 => Classical.byContradiction fun ne => z ⟨o2, m2, h2, w2, ne⟩
      obtain ⟨o2, m2, h2, w2, ne⟩ := this
      have lt : o2.length ≤ n := by
        have l1 := win_le nd (hM _ m2) w2
        refine Nat.le_of_lt_succ (Nat.lt_of_not_le fun ge => ne (win_eq nd (hM _ m2) (hM _ m) w2 (by omega)))
      obtain ⟨o', l', w'⟩ := ih o2 lt m2 h2
      exact ⟨o', l', win_trans w' w2⟩
/-- what the program does with one lot after another -/
def leastStep (h : Lot → Bool) (acc : List Lot) (l : Lot) : List Lot := if (!(acc.any fun o => win o l) && h l) = true then acc ++ [l] else acc
def leastF (h : Lot → Bool) (M : List Lot) : List Lot := M.foldl (leastStep h) []
theorem leastF_snoc (h : Lot → Bool) (M : List Lot) (l : Lot) : leastF h (M ++ [l]) = leastStep h (leastF h M) l := by
  unfold leastF
  rw [List.foldl_append]
  rfl
theorem leastF_mem {rows : List Str} (h : Lot → Bool) (nd : rows.Nodup) (M : List Lot) : (∀ l ∈ M, l.Sublist rows) → M.Nodup → (M.Pairwise fun a b => a.length ≤ b.length) → (leastF h M).Nodup ∧ ∀ l, l ∈ leastF h M ↔ Lst h M l := by
  refine rev_ind (p := fun M => (∀ l ∈ M, l.Sublist rows) → M.Nodup → (M.Pairwise fun a b => a.length ≤ b.length) → (leastF h M).Nodup ∧ ∀ l, l ∈ leastF h M ↔ Lst h M l) (fun _ _ _ => ⟨List.nodup_nil, fun l => ⟨(fun m => nomatch m), (fun m => nomatch m.1)⟩⟩) (fun M x ih hM ndM pw => ?_) M
  have hM1 : ∀ l ∈ M, l.Sublist rows := fun l m => hM l (List.mem_append_left _ m)
  have hx : x.Sublist rows := hM x (by simp)
  rw [List.nodup_append] at ndM
  obtain ⟨nd1, _, nd2⟩ := ndM
  have xM : x ∉ M := fun m => nd2 x m x (by simp) rfl
  rw [List.pairwise_append] at pw
  obtain ⟨pw1, _, pw2⟩ := pw
  obtain ⟨ihn, ih⟩ := ih hM1 nd1 pw1
  have up : ∀ l ∈ M, (∀ o ∈ M, h o = true → win o l = true → o = l) → ∀ o ∈ M ++ [x], h o = true → win o l = true → o = l := fun l m c o mo ho w => by
    rcases List.mem_append.mp mo with mo | mo
    · exact c o mo ho w
    · rw [List.mem_singleton.mp mo] at w ⊢
      exact win_eq nd hx (hM1 l m) w (pw2 l m x (by simp))
  have old : ∀ l, l ≠ x → (Lst h M l ↔ Lst h (M ++ [x]) l) := fun l ne => by
    refine ⟨fun ⟨m, hl, c⟩ => ⟨List.mem_append_left _ m, hl, up l m c⟩, fun ⟨m, hl, c⟩ => ?_⟩
    rcases List.mem_append.mp m with m | m
    · exact ⟨m, hl, fun o mo => c o (List.mem_append_left _ mo)⟩
    · exact absurd (List.mem_singleton.mp m) ne
  rw [leastF_snoc, leastStep]
  have xF : x ∉ leastF h M := fun m => xM ((ih x).mp m).1
  by_cases c1 : (leastF h M).any (fun o => win o x) = true
  · rw [c1]
    rw [if_neg (by simp)]
    refine ⟨ihn, fun l => ?_⟩
    by_cases e : l = x
    · refine ⟨fun m => absurd (e ▸ m) xF, fun ⟨_, _, c⟩ => ?_⟩
      obtain ⟨o, mo, wo⟩ := List.any_eq_true.mp c1
      have lo := (ih o).mp mo
      rw [e] at c
      exact absurd (c o (List.mem_append_left _ lo.1) lo.2.1 wo ▸ lo.1) xM
    · rw [ih l]
      exact old l e
  · rw [Bool.not_eq_true] at c1
    rw [c1]
    by_cases hh : h x = true
    · rw [hh, if_pos (by rfl)]
      refine ⟨?_, fun l => ?_⟩
      · rw [List.nodup_append]
        exact ⟨ihn, by simp, fun a ma b mb e => xF (by rw [List.mem_singleton.mp mb] at e; exact e ▸ ma)⟩
      · rw [List.mem_append, List.mem_singleton]
        by_cases e : l = x
        · refine ⟨fun _ => ⟨by rw [e]; simp, by rw [e]; exact hh, fun o mo ho w => ?_⟩, fun _ => .inr e⟩
          rcases List.mem_append.mp mo with mo | mo
          · obtain ⟨o', l', w'⟩ := lst_below nd hM1 o.length o (Nat.le_refl _) mo ho
            have : (leastF h M).any (fun o => win o x) = true := List.any_eq_true.mpr ⟨o', (ih o').mpr l', win_trans w' (e ▸ w)⟩
            rw [c1] at this
            cases this
          · rw [List.mem_singleton.mp mo, e]
        · rw [ih l, ← old l e]
          exact ⟨fun z => z.elim id fun z => absurd z e, .inl⟩
    · rw [Bool.not_eq_true] at hh
      rw [hh, if_neg (by simp)]
      refine ⟨ihn, fun l => ?_⟩
      by_cases e : l = x
      · refine ⟨fun m => absurd (e ▸ m) xF, fun ⟨_, c, _⟩ => ?_⟩
        rw [e, hh] at c
        cases c
      · rw [ih l]
        exact old l e
/-- what the law does -/
def leastL (L : List Lot) : List Lot := (srt L).filter fun l => (L.filter fun o => decide (o ≠ l) && win o l).isEmpty
theorem leastL_mem {h : Lot → Bool} {M : List Lot} (l : Lot) : l ∈ leastL (M.filter h) ↔ Lst h M l := by
  unfold leastL
  rw [List.mem_filter, (srt_perm _).mem_iff, List.mem_filter, List.isEmpty_iff, List.filter_eq_nil_iff]
  refine ⟨fun ⟨⟨m, hl⟩, c⟩ => ⟨m, hl, fun o mo ho w => Classical.byContradiction fun ne => c o (List.mem_filter.mpr ⟨mo, ho⟩) (by rw [w]; simpa using ne)⟩, fun ⟨m, hl, c⟩ => ⟨⟨m, hl⟩, fun o mo z => ?_⟩⟩
  obtain ⟨mo, ho⟩ := List.mem_filter.mp mo
  rw [Bool.and_eq_true] at z
  exact of_decide_eq_true z.1 (c o mo ho z.2)
/-- both sides tell the same list -/
theorem least_same {rows : List Str} (h : Lot → Bool) (nd : rows.Nodup) {M L : List Lot} (hM : ∀ l ∈ M, l.Sublist rows) (ndM : M.Nodup) (pw : M.Pairwise fun a b => a.length ≤ b.length) (p : L.Perm M) : srt (leastF h M) = leastL (L.filter h) := by
  obtain ⟨n1, m1⟩ := leastF_mem h nd M hM ndM pw
  symm
  refine srt_is ?_ ((srt_pw _).filter _)
  refine (List.perm_ext_iff_of_nodup ?_ n1).mpr fun l => ?_
  · unfold leastL
    exact List.Nodup.sublist List.filter_sublist ((srt_perm _).nodup_iff.mpr (List.Nodup.sublist List.filter_sublist (p.nodup_iff.mpr ndM)))
  · rw [leastL_mem, m1]
    unfold Lst
    exact ⟨fun ⟨a, b, c⟩ => ⟨p.mem_iff.mp a, b, fun o mo => c o (p.mem_iff.mpr mo)⟩, fun ⟨a, b, c⟩ => ⟨p.mem_iff.mpr a, b, fun o mo => c o (p.mem_iff.mp mo)⟩⟩
end KaG


set_option maxRecDepth 100000
set_option maxHeartbeats 4000000
/-! rulebooks with some rows alone; what holds a kind up, what chokes it -/
namespace KaG
open PySem PySem.Spec PyProof.Rows L2 KaC KaN
open Classical in
theorem lfp_isL {names : List Str} {J : Jn} (mo : Mono J) : IsL names J (lfp names J) := by
  have : ∃ B, IsL names J B := by
    refine ⟨names.filter fun n => decide (∀ S, Clo names J S → n ∈ S), ?_, fun n mn hj => ?_, fun S hS n m => ?_⟩
    · refine List.filter_congr fun n mn => ?_
      refine decide_eq_decide.mpr ⟨fun h => List.mem_filter.mpr ⟨mn, decide_eq_true h⟩, fun h => ?_⟩
      exact of_decide_eq_true (List.mem_filter.mp h).2
    · refine List.mem_filter.mpr ⟨mn, decide_eq_true fun S hS => hS n mn (mo n _ S (fun x mx => ?_) hj)⟩
      exact of_decide_eq_true (List.mem_filter.mp mx).2 S hS
    · exact of_decide_eq_true (List.mem_filter.mp m).2 S hS
  obtain ⟨B, hB⟩ := this
  rw [← hB.eq]
  exact hB
theorem bear_isL (ks : List Kd) : IsL (nmsOf ks) (jB ks) (bearOf ks) := lfp_isL (jB_mono ks)
theorem clean_isL (ks : List Kd) (S : List Str) : IsL (nmsOf ks) (jC ks (bearOf ks) S) (cleanOf ks S) := lfp_isL (jC_mono ks _ _)
def ndIn (S : List Str) : List V → Bool
  | [.str _, .str n, .int _, .int _] => decide (n ∈ S)
  | _ => true
def grIn (S : List Str) (g : Gr) : Bool := g.all (ndIn S)
/-- a kind with some rows alone -/
def kdIn (S : List Str) (k : Kd) : Kd := ⟨k.name, k.keep, k.bar, k.gs.filter (grIn S)⟩
def aloneKs (S : List Str) (ks : List Kd) : List Kd := ks.map (kdIn S)
theorem alone_nms (S : List Str) (ks : List Kd) : (aloneKs S ks).map Kd.name = ks.map Kd.name := by
  unfold aloneKs
  rw [List.map_map]
  rfl
theorem alone_ok {rows : List Str} {ks : List Kd} (S : List Str) (h : BookOk rows ks) : BookOk rows (aloneKs S ks) := by
  refine ⟨h.rw, by rw [alone_nms]; exact h.nm, h.r0, ?_, ?_, fun k m => ?_, fun k m g mg => ?_⟩
  · unfold aloneKs; rw [List.length_map]; exact h.k0
  · unfold aloneKs; rw [List.length_map]; exact h.k5
  · obtain ⟨k0, m0, rfl⟩ := List.mem_map.mp m
    obtain ⟨a, b, c, d, e⟩ := h.num k0 m0
    exact ⟨a, b, c, d, Nat.le_trans (List.length_filter_le ..) e⟩
  · obtain ⟨k0, m0, rfl⟩ := List.mem_map.mp m
    rw [alone_nms]
    exact h.grd k0 m0 g (List.mem_filter.mp mg).1
theorem alone_gs (S : List Str) (n : Str) : ∀ (ks : List Kd), gsOf (aloneKs S ks) n = (gsOf ks n).filter (grIn S)
  | [] => rfl
  | k :: ks => by
    have ih := alone_gs S n ks
    unfold gsOf aloneKs at ih ⊢
    rw [List.map_cons]
    have e1 : ∀ (k' : Kd) (r : List Kd), k'.name = n → List.find? (fun k : Kd => decide (k.name = n)) (k' :: r) = some k' := fun k' r e => List.find?_cons_of_pos (p := fun k : Kd => decide (k.name = n)) (decide_eq_true e)
    have e2 : ∀ (k' : Kd) (r : List Kd), ¬ k'.name = n → List.find? (fun k : Kd => decide (k.name = n)) (k' :: r) = List.find? (fun k : Kd => decide (k.name = n)) r := fun k' r e => List.find?_cons_of_neg (p := fun k : Kd => decide (k.name = n)) (by simpa using e)
    by_cases e : k.name = n
    · rw [e1 (kdIn S k) _ e, e1 k _ e]
      rfl
    · rw [e2 (kdIn S k) _ e, e2 k _ e]
      exact ih
theorem alone_keep (S : List Str) (ks : List Kd) (p : Str) (a : Int) : keepLt (aloneKs S ks) p a = keepLt ks p a := by
  unfold keepLt aloneKs
  rw [List.any_map]
  rfl
theorem alone_nd (S : List Str) (ks : List Kd) (B : List Str) : ndLive (aloneKs S ks) B = ndLive ks B := by
  funext it
  unfold ndLive
  split
  · rw [alone_keep]
  · rfl
theorem alone_gr (S : List Str) (ks : List Kd) (B : List Str) (g : Gr) : grLive (aloneKs S ks) B g = grLive ks B g := by
  unfold grLive
  rw [alone_nd]
theorem clean_bear (ks : List Kd) (C : List Str) : ∀ n ∈ cleanOf ks C, n ∈ bearOf ks := by
  refine (clean_isL ks C).lst (bearOf ks) fun n mn hj => (bear_isL ks).clo n mn ?_
  unfold jC at hj
  obtain ⟨i, mi, _⟩ := List.any_eq_true.mp hj
  obtain ⟨g, hg, hl⟩ := ats_mem.mp mi
  exact List.any_eq_true.mpr ⟨g, List.mem_of_getElem? hg, hl⟩
theorem clo_gen {rows : List Str} {ks : List Kd} (hO : BookOk rows ks) {C : List Str} {gs' : Str → List Gr} (hg : ∀ n, ∀ g ∈ gs' n, g ∈ gsOf ks n ∧ ∀ it ∈ g, ndIn C it = false ∨ ndIsK it = true) (n : Str) (mn : n ∈ nmsOf ks) (e : (gs' n).any (grLive ks (cleanOf ks C)) = true) : n ∈ cleanOf ks C := by
  obtain ⟨g, mg, lg⟩ := List.any_eq_true.mp e
  obtain ⟨mg', hf⟩ := hg n g mg
  refine (clean_isL ks C).clo n mn (List.any_eq_true.mpr ?_)
  obtain ⟨i, hi, ei⟩ := List.getElem_of_mem mg'
  have hi' : (gsOf ks n)[i]? = some g := by rw [List.getElem?_eq_getElem hi, ei]
  have lg' := List.all_eq_true.mp lg
  refine ⟨i, ats_mem.mpr ⟨g, hi', List.all_eq_true.mpr fun x mx => nd_mono (clean_bear ks C) x (lg' x mx)⟩, ?_⟩
  have eg : grAt ks n i = g := by
    unfold grAt
    rw [List.getD_eq_getElem?_getD, hi']
    rfl
  rw [eg, forcedPl, isEmpty_ats, Bool.not_eq_true']
  refine Bool.eq_false_iff.mpr fun z => ?_
  obtain ⟨it, mi, zi⟩ := List.any_eq_true.mp z
  have l1 := lg' it mi
  have l2 := hf it mi
  unfold ndForced at zi
  split at zi
  · rename_i a r b c
    rcases l2 with q | q
    · unfold ndIn at q
      rw [decide_eq_true_eq] at zi
      rw [decide_eq_false_iff_not] at q
      exact q zi
    · cases q
  · unfold ndLive at l1
    rw [Bool.and_eq_true, decide_eq_true_eq] at l1
    rw [Bool.not_eq_true', decide_eq_false_iff_not] at zi
    exact zi l1.1
  · cases zi
theorem need_rk {rows names : List Str} {it : List V} (h : NeedV rows names it) (C : List Str) : (∀ r ∈ rows, r ∈ C → False) → ndIn C it = false ∨ ndIsK it = true := fun hc => by
  cases h with
  | row n t m hn _ _ _ _ => exact .inl (decide_eq_false fun z => hc n hn z)
  | kind => exact .inr rfl
theorem gs_of {ks : List Kd} {n : Str} {g : Gr} (m : g ∈ gsOf ks n) : ∃ k ∈ ks, g ∈ k.gs := by
  unfold gsOf at m
  split at m
  · rename_i k e
    exact ⟨k, List.mem_of_find?_eq_some e, m⟩
  · cases m
/-- nothing struck: each kind that bears is clean -/
theorem bear_clean {rows : List Str} {ks : List Kd} (hO : BookOk rows ks) : ∀ n ∈ bearOf ks, n ∈ cleanOf ks [] := by
  refine (bear_isL ks).lst _ fun n mn e => clo_gen hO (gs' := gsOf ks) (fun n g mg => ⟨mg, fun it mi => ?_⟩) n mn e
  obtain ⟨k, mk, mg'⟩ := gs_of mg
  exact need_rk ((hO.grd k mk g mg').2.2 it mi) [] fun _ _ z => nomatch z
/-- rows that hold a kind up keep it clean, if none of them is struck -/
theorem alone_clean {rows : List Str} {ks : List Kd} (hO : BookOk rows ks) {S C : List Str} (h : ∀ x ∈ S, x ∉ C) : ∀ n ∈ bearOf (aloneKs S ks), n ∈ cleanOf ks C := by
  refine (bear_isL (aloneKs S ks)).lst _ fun n mn e => ?_
  unfold jB at e
  rw [show grLive (aloneKs S ks) (cleanOf ks C) = grLive ks (cleanOf ks C) from funext fun g => alone_gr S ks _ g] at e
  refine clo_gen hO (gs' := gsOf (aloneKs S ks)) (fun n g mg => ?_) n (by unfold nmsOf at mn; rw [alone_nms] at mn; exact mn) e
  rw [alone_gs] at mg
  obtain ⟨mg1, mg2⟩ := List.mem_filter.mp mg
  refine ⟨mg1, fun it mi => ?_⟩
  obtain ⟨k, mk, mg'⟩ := gs_of mg1
  have i1 := List.all_eq_true.mp mg2 it mi
  cases (hO.grd k mk g mg').2.2 it mi with
  | row r t m hn _ _ _ _ => exact .inl (decide_eq_false fun z => h r (of_decide_eq_true i1) z)
  | kind => exact .inr rfl
/-- the lots that hold a kind up, and those that choke it -/
noncomputable def hUp (ks : List Kd) (n : Str) (S : Lot) : Bool := decide (n ∈ bearOf (aloneKs S ks))
noncomputable def hCh (ks : List Kd) (n : Str) (C : Lot) : Bool := !decide (n ∈ cleanOf ks C)
theorem hCh_nil {rows : List Str} {ks : List Kd} (hO : BookOk rows ks) {n : Str} (h : n ∈ bearOf ks) : hCh ks n [] = false := by
  unfold hCh
  rw [decide_eq_true (bear_clean hO n h)]
  rfl
theorem up_ch {rows : List Str} {ks : List Kd} (hO : BookOk rows ks) {n : Str} {S C : Lot} (h1 : hUp ks n S = true) (h2 : hCh ks n C = true) : ∃ x ∈ S, x ∈ C := Classical.byContradiction fun z => by
  unfold hUp at h1
  unfold hCh at h2
  rw [decide_eq_true_eq] at h1
  rw [Bool.not_eq_true', decide_eq_false_iff_not] at h2
  exact h2 (alone_clean hO (fun x mx mc => z ⟨x, mx, mc⟩) n h1)
/-- the least lots, as both sides tell them -/
noncomputable def upOf (rows : List Str) (ks : List Kd) (n : Str) : List Lot := leastL ((lotsOf rows).filter (hUp ks n))
noncomputable def chOf (rows : List Str) (ks : List Kd) (n : Str) : List Lot := if n ∈ bearOf ks then leastL ((lotsOf rows).filter (hCh ks n)) else []
theorem leastL_cg {L M : List Lot} (p : L.Perm M) : leastL L = leastL M := by
  unfold leastL
  rw [srt_cg p]
  refine List.filter_congr fun l _ => ?_
  refine Bool.eq_iff_iff.mpr ?_
  rw [List.isEmpty_iff, List.isEmpty_iff, List.filter_eq_nil_iff, List.filter_eq_nil_iff]
  exact ⟨fun h o m => h o (p.mem_iff.mpr m), fun h o m => h o (p.mem_iff.mp m)⟩
theorem up_meets {rows : List Str} {ks : List Kd} (hO : BookOk rows ks) {n : Str} {S C : Lot} (h1 : S ∈ upOf rows ks n) (h2 : C ∈ chOf rows ks n) : ∃ x ∈ S, x ∈ C := by
  unfold chOf at h2
  split at h2
  · exact up_ch hO (leastL_mem S |>.mp h1).2.1 (leastL_mem C |>.mp h2).2.1
  · cases h2
theorem srt_tail {rows : List Str} {ks : List Kd} (hO : BookOk rows ks) {n : Str} (h : n ∈ bearOf ks) {r : List Lot} (e : srt (lotsOf rows) = [] :: r) : leastL (r.filter (hCh ks n)) = chOf rows ks n := by
  unfold chOf
  rw [if_pos h, ← leastL_cg ((srt_perm (lotsOf rows)).filter (hCh ks n)), e, List.filter_cons_of_neg (by rw [hCh_nil hO h]; simp)]
end KaG


set_option maxRecDepth 100000
set_option maxHeartbeats 4000000
namespace KaG
open PySem PySem.Spec PyProof.Rows L2 KaC KaN
/-! ### lots in the heap, sorted -/
theorem lotD_inj {a b : Lot} (h : lotD a = lotD b) : a = b := by
  have := PyData.tuple.inj h
  exact (List.map_inj_right (f := PyData.str) fun x y e => PyData.str.inj e).mp this
theorem lots_dwE {H : Hp} : ∀ {as : List Addr} {lots : List Lot}, Paired (LotAt H) as lots → ∃ D : List Dw, (D.map fun z => V.ref z.1) = as.map V.ref ∧ D.map (·.2) = lots.map lotD ∧ ∀ p ∈ D, ∃ lot, p.2 = lotD lot ∧ LotAt H p.1 lot
  | _, _, .nil => ⟨[], rfl, rfl, (fun _ z => nomatch z)⟩
  | _, _, .cons (a := a) (b := l) h r => by
    obtain ⟨D, h1, h2, h3⟩ := lots_dwE r
    refine ⟨(a, lotD l) :: D, by rw [List.map_cons, List.map_cons, h1], by rw [List.map_cons, List.map_cons, h2], fun p m => ?_⟩
    rcases List.mem_cons.mp m with z | z
    · rw [z]
      exact ⟨l, rfl, h⟩
    · exact h3 p z
theorem dw_lots {H : Hp} : ∀ {D : List Dw} {lots : List Lot}, D.map (·.2) = lots.map lotD → (∀ p ∈ D, ∃ lot, p.2 = lotD lot ∧ LotAt H p.1 lot) → Paired (LotAt H) (D.map (·.1)) lots
  | [], [], _, _ => .nil
  | [], _ :: _, e, _ => by cases e
  | _ :: _, [], e, _ => by cases e
  | d :: D, l :: lots, e, h => by
    rw [List.map_cons, List.map_cons, List.cons.injEq] at e
    obtain ⟨lot, e1, e2⟩ := h d List.mem_cons_self
    rw [e1] at e
    have e3 := lotD_inj e.1
    exact .cons (e3 ▸ e2) (dw_lots e.2 fun p m => h p (List.mem_cons_of_mem _ m))
/-- the empty lot first, or nowhere -/
def LotsOk (lots : List Lot) : Prop := (∃ r, lots = [] :: r) ∨ ∀ l ∈ lots, l ≠ []
theorem LotsOk.srtb {lots : List Lot} (h : LotsOk lots) : Sortable0 (lots.map lotD) := by
  rcases h with ⟨r, rfl⟩ | h
  · refine .inr ⟨r.map lotD, rfl, fun d m => ?_⟩
    obtain ⟨l, _, rfl⟩ := List.mem_map.mp m
    exact ⟨_, rfl⟩
  · refine .inl (.inl fun d m => ?_)
    obtain ⟨l, ml, rfl⟩ := List.mem_map.mp m
    cases l with
    | nil => exact absurd rfl (h [] ml)
    | cons x r => exact ⟨_, _, rfl⟩
theorem LotsOk.filter {lots : List Lot} (h : LotsOk lots) (p : Lot → Bool) (hn : lots.Nodup) : LotsOk (lots.filter p) := by
  rcases h with ⟨r, rfl⟩ | h
  · cases e : p [] with
    | true => exact .inl ⟨r.filter p, List.filter_cons_of_pos e⟩
    | false =>
      rw [List.filter_cons_of_neg (by rw [e]; simp)]
      refine .inr fun l m z => ?_
      rw [List.nodup_cons] at hn
      exact hn.1 (z ▸ (List.mem_filter.mp m).1)
  · exact .inr fun l m => h l (List.mem_filter.mp m).1
theorem srt_map (lots : List Lot) : (lots.map lotD).mergeSort (PySem.W.dataLe false fun d : PyData => d) = (srt lots).map lotD :=
  (PySem.W.sort_maps (r := leL) (s := PySem.W.dataLe false fun d : PyData => d) lotD (l := lots) fun _ _ _ _ => rfl).symm
theorem sort_lots {K : PySem.W.Frag} {H : Hp} {a : Addr} {as : List Addr} {lots : List Lot} {Q : VK} (hs : H a = some (.lst (as.map V.ref))) (hp : Paired (LotAt H) as lots) (ok : LotsOk lots)
    (q : ∀ (p : Addr) (as' : List Addr), H p = none → Paired (LotAt H) as' (srt lots) → Q (.ref p) (upd H p (.lst (as'.map V.ref)))) : rSortE K [.ref a] H Q := by
  obtain ⟨D, d1, d2, d3⟩ := lots_dwE hp
  refine ⟨a, D, rfl, by rw [d1]; exact SqL.of hs, fun z m => ?_, ?_, by rw [d2]; exact ok.srtb, fun p np => ?_⟩
  · obtain ⟨lot, m2, m3⟩ := d3 z m
    refine ⟨by rw [m2]; exact .tup (SqT.of m3) (kyA_strs lot), ?_⟩
    rw [m2, lotD, PyData.depth, depA_strs]
    decide
  · rw [d2]
    intro x mx y my
    obtain ⟨l1, _, rfl⟩ := List.mem_map.mp mx
    obtain ⟨l2, _, rfl⟩ := List.mem_map.mp my
    simp only [lotD, PySem.W.alike]
    exact alike_strs l1 l2
  · have e : (D.mergeSort (PySem.W.dataLe false fun z : Dw => z.2)).map (·.2) = (srt lots).map lotD := by
      rw [← srt_map, ← d2]
      exact PySem.W.sort_maps (r := PySem.W.dataLe false fun z : Dw => z.2) (s := PySem.W.dataLe false fun d : PyData => d) (fun z : Dw => z.2) (l := D) fun _ _ _ _ => rfl
    have pp := dw_lots (H := H) e fun p m => d3 p ((List.mergeSort_perm D _).mem_iff.mp m)
    have := q p _ np pp
    rw [List.map_map] at this
    exact this
section
variable {P : Program} {w : World} {K : PySem.W.Frag} {mg : Str → Option Value} {base : Heap}
def spLotsE : Sp := fun vs H Q _ => ∃ (r : Addr) (rows : List Str), vs = [.ref r] ∧ H r = some (.tup (rows.map V.str)) ∧ rows.length ≤ 5 ∧ ∀ (p : Addr) (as : List Addr) (H' : Hp), Same H H' → H p = none → H' p = some (.lst (as.map V.ref)) → Paired (LotAt H') as (srt (lotsOf rows)) → Q (.ref p) H'
end
end KaG


set_option maxRecDepth 100000
set_option maxHeartbeats 4000000
namespace KaG
open PySem PySem.Spec PyProof.Rows L2 KaC KaN
theorem strs_dp {K : PySem.W.Frag} {H : Hp} : ∀ (xs : List Str), (∀ x ∈ xs, x ∈ nmAll) → DpAll K H (xs.map V.str) (xs.map PyData.str) ∧ (∀ d ∈ xs.map PyData.str, d.canLay0 = true) ∧ PyData.depthAll (xs.map PyData.str) ≤ 1
  | [], _ => ⟨.nil, (fun _ z => nomatch z), by simp [PyData.depthAll]⟩
  | x :: r, h => by
    obtain ⟨h1, h2, h3⟩ := strs_dp (K := K) (H := H) r fun y m => h y (List.mem_cons_of_mem _ m)
    refine ⟨.cons (.str x) h1, fun d m => ?_, by rw [depA_strs]; exact Nat.zero_le _⟩
    rcases List.mem_cons.mp m with z | z
    · rw [z]
      exact nm_lay _ (h x List.mem_cons_self)
    · exact h2 d z
section
variable {P : Program} {w : World} {K : PySem.W.Frag} {mg : Str → Option Value} {base : Heap}
/-! ### _lies_in, _law_within -/
abbrev nmLs : List Str := ["lot", "other", "thing"]
def spWin : Sp := fun vs H Q _ => ∃ (a b : Addr) (o l : Lot), vs = [.ref a, .ref b] ∧ LotAt H a o ∧ LotAt H b l ∧ o.length ≤ 5 ∧ (∀ x ∈ o, x ∈ nmAll) ∧ ∀ H', Same H H' → Q (.bl (win o l)) H'
abbrev nmWn : List Str := ["lot", "other", "one"]
end
end KaG


set_option maxRecDepth 100000
set_option maxHeartbeats 4000000
namespace KaG
open PySem PySem.Spec PyProof.Rows L2 KaC
theorem shaped_tuple {ds : List PyData} (h : ∀ d ∈ ds, d.canLay0 = true) (d1 : PyData.depthAll ds ≤ 60) : SeqAt.shaped (.tuple ds) = true := by
  unfold SeqAt.shaped
  rw [(tup_lay ds h).1, Bool.true_and, decide_eq_true_eq, PyData.depth]
  omega
theorem eqv_emptyT : ∀ ds : List PyData, PyData.eqv (.tuple ds) (.tuple []) = decide (ds.length = 0)
  | [] => rfl
  | _ :: _ => rfl
theorem len_emp {xs : List Nat} : (!decide (xs.length = 0)) = !xs.isEmpty := by cases xs <;> rfl
section
variable {P : Program} {w : World} {K : PySem.W.Frag} {mg : Str → Option Value} {base : Heap}
abbrev nmLN : List Str := ["struck", "clean", "able", "ground", "forced", "some", "j"]
end
end KaG


set_option maxRecDepth 100000
set_option maxHeartbeats 4000000
namespace KaG
open PySem PySem.Spec PyProof.Rows L2 KaC KaN
theorem strs_eqv : ∀ xs ys : List Str, PyData.eqvAll (xs.map PyData.str) (ys.map PyData.str) = decide (xs = ys)
  | [], [] => rfl
  | [], _ :: _ => rfl
  | _ :: _, [] => rfl
  | x :: xs, y :: ys => by
    rw [List.map_cons, List.map_cons, PyData.eqvAll, strs_eqv xs ys]
    simp only [PyData.eqv]
    by_cases h : x = y
    · subst h
      simp
    · simp [h]
theorem lot_eqv (a b : Lot) : PyData.eqv (lotD a) (lotD b) = decide (a = b) := by
  rw [lotD, lotD]
  simp only [PyData.eqv]
  exact strs_eqv a b
/-- lots of names of the draws, none long -/
def LotsB (lots : List Lot) : Prop := ∀ l ∈ lots, l.length ≤ 5 ∧ ∀ x ∈ l, x ∈ nmAll
theorem lot_dp {K : PySem.W.Frag} {H : Hp} {a : Addr} {l : Lot} (e : LotAt H a l) (hn : ∀ x ∈ l, x ∈ nmAll) : Dp K H (.ref a) (lotD l) ∧ (lotD l).canLay0 = true ∧ (lotD l).depth ≤ 2 := by
  obtain ⟨d1, d2, d3⟩ := strs_dp (K := K) (H := H) l hn
  refine ⟨.tup (SqT.of e) d1, (tup_lay _ d2).1, ?_⟩
  rw [lotD, PyData.depth]
  omega
theorem lot_shaped {l : Lot} (hn : ∀ x ∈ l, x ∈ nmAll) : SeqAt.shaped (lotD l) = true := by
  refine shaped_tuple (fun d m => ?_) (by rw [depA_strs]; decide)
  obtain ⟨x, mx, rfl⟩ := List.mem_map.mp m
  exact nm_lay _ (hn x mx)
theorem lots_dp {K : PySem.W.Frag} {H : Hp} : ∀ {as : List Addr} {lots : List Lot}, Paired (LotAt H) as lots → LotsB lots → ∃ ds, DpAll K H (as.map V.ref) ds ∧ (∀ d ∈ ds, d.canLay0 = true) ∧ PyData.depthAll ds ≤ 2 ∧ ds.length = lots.length ∧ ds = lots.map lotD
  | _, _, .nil, _ => ⟨[], .nil, (fun _ z => nomatch z), by simp [PyData.depthAll], rfl, rfl⟩
  | _, _, .cons (a := a) (b := l) h r, hb => by
    obtain ⟨ds, h1, h2, h3, h4, h5⟩ := lots_dp (K := K) r fun x m => hb x (List.mem_cons_of_mem _ m)
    obtain ⟨q1, q2, q3⟩ := lot_dp (K := K) h (hb l List.mem_cons_self).2
    refine ⟨lotD l :: ds, .cons q1 h1, fun d m => ?_, ?_, by rw [List.length_cons, List.length_cons, h4], by rw [h5, List.map_cons]⟩
    · rcases List.mem_cons.mp m with z | z
      · rw [z]; exact q2
      · exact h2 d z
    · rw [PyData.depthAll]
      omega
section
variable {P : Program} {w : World} {K : PySem.W.Frag} {mg : Str → Option Value} {base : Heap}
/-! ### _law_least_of -/
abbrev nmLz : List Str := ["lots", "lot", "one"]
abbrev scLO : Scope := { kind := .function, names := [(".0", .local), ("lot", .cell), ("lots", .cell)], isGenerator := false, isCoroutine := false }
/-- no other lot of them lies in it -/
def lqB (lots : List Lot) (l : Lot) : Bool := (lots.filter fun o => decide (o ≠ l) && win o l).isEmpty
theorem leastL_eq (lots : List Lot) : leastL lots = (srt lots).filter (lqB lots) := rfl
def spLeastO : Sp := fun vs H Q _ => ∃ (la : Addr) (as : List Addr) (lots : List Lot), vs = [.ref la] ∧ H la = some (.lst (as.map V.ref)) ∧ Paired (LotAt H) as lots ∧ LotsOk lots ∧ lots.length ≤ 32 ∧ LotsB lots ∧ ∀ (p : Addr) (as' : List Addr) (H' : Hp), Same H H' → H p = none → H' p = some (.lst (as'.map V.ref)) → Paired (LotAt H') as' (leastL lots) → Q (.ref p) H'
def ttWi (K : PySem.W.Frag) : TT := tAnd (tTest (tOp (rNeD K) (tVar 2) (tVar 1))) (tB (tCall spWin [] E0 (tCons (tVar 2) (tCons (tVar 1) tNil))))
end
end KaG


set_option maxRecDepth 100000
set_option maxHeartbeats 4000000
namespace KaG
open PySem PySem.Spec PyProof.Rows L2 KaC KaN
/-! ### a rulebook with some rows alone -/
theorem grIn_bad {S : List Str} {g : Gr} : decide ((g.filter fun it => !ndIn S it).length = 0) = grIn S g := by
  unfold grIn
  refine Bool.eq_iff_iff.mpr ?_
  rw [decide_eq_true_eq, List.length_eq_zero_iff, List.filter_eq_nil_iff, List.all_eq_true]
  refine ⟨fun h x m => ?_, fun h x m => by rw [h x m]; simp⟩
  have := h x m
  rwa [Bool.not_eq_true, Bool.not_eq_false'] at this
def spPart : Sp := fun vs H Q _ => ∃ (b la : Addr) (rows : List Str) (ks : List Kd) (S : Lot), vs = [.ref b, .ref la] ∧ BookAt H b rows ks ∧ BookOk rows ks ∧ LotAt H la S ∧ ∀ (p : Addr) (H' : Hp), Same H H' → BookAt H' p rows (aloneKs S ks) → Q (.ref p) H'
section
variable {P : Program} {w : World} {K : PySem.W.Frag} {mg : Str → Option Value} {base : Heap}
abbrev nmPt : List Str := ["rulebook", "lot", "found", "name", "keep", "bar", "grounds", "kept", "ground", "bad", "need"]
end
end KaG


set_option maxRecDepth 100000
set_option maxHeartbeats 4000000
namespace KaG
open PySem PySem.Spec PyProof.Rows L2 KaC KaN
/-! ### the law's supports and chokes -/
theorem lots_b {rows : List Str} (h5 : rows.length ≤ 5) (hn : ∀ n ∈ rows, n ∈ nmAll) : LotsB (lotsOf rows) := fun l m => by
  have s := (mem_lots rows l).mp m
  exact ⟨Nat.le_trans s.length_le h5, fun x mx => hn x (s.subset mx)⟩
theorem cutV_tail (x : V) (xs : List V) : cutV (x :: xs) (some 1) none = xs := by
  unfold cutV
  rw [show HT.sIx (x :: xs).length 0 (some 1) = 1 from (HT.sIx_nat _ 0 1).trans (by rw [List.length_cons]; omega)]
  rw [HT.sIx_none]
  show xs.take _ = xs
  rw [List.length_cons, Nat.add_sub_cancel, List.take_length]
theorem lots_32 {rows : List Str} (h5 : rows.length ≤ 5) : (lotsOf rows).length ≤ 32 := by
  rw [lots_len]
  exact Nat.pow_le_pow_right (n := 2) (by decide) h5
/-- what both sides go through: all lots, in order -/
structure LotsR (rows : List Str) (L : List Lot) : Prop where
  n : L.Nodup
  l32 : L.length ≤ 32
  b : LotsB L
  ok : LotsOk L
theorem lotsR_srt {rows : List Str} (h5 : rows.length ≤ 5) (hn : Nms rows) : LotsR rows (srt (lotsOf rows)) := by
  have p := srt_perm (lotsOf rows)
  refine ⟨p.nodup_iff.mpr (lots_nodup rows hn.nd), by rw [p.length_eq]; exact lots_32 h5, fun l m => lots_b h5 hn.of l (p.mem_iff.mp m), .inl (srt_nil (nil_lots rows))⟩
theorem LotsR.filter {rows : List Str} {L : List Lot} (h : LotsR rows L) (p : Lot → Bool) : LotsR rows (L.filter p) :=
  ⟨h.n.sublist List.filter_sublist, Nat.le_trans (List.length_filter_le ..) h.l32, fun l m => h.b l (List.mem_filter.mp m).1, h.ok.filter p h.n⟩
theorem LotsR.tail {rows : List Str} {r : List Lot} (h : LotsR rows ([] :: r)) : LotsR rows r := by
  have n := List.nodup_cons.mp h.n
  exact ⟨n.2, by have := h.l32; rw [List.length_cons] at this; omega, fun l m => h.b l (List.mem_cons_of_mem _ m), .inr fun l m z => n.1 (z ▸ m)⟩
def spLLots (r : List Str → List Kd → Str → List Lot) : Sp := fun vs H Q _ => ∃ (b : Addr) (rows : List Str) (ks : List Kd) (n : Str), vs = [.ref b, .str n] ∧ BookAt H b rows ks ∧ BookOk rows ks ∧ rows.length ≤ 5 ∧ n ∈ nmsOf ks ∧ ∀ (p : Addr) (as' : List Addr) (H' : Hp), Same H H' → H p = none → H' p = some (.lst (as'.map V.ref)) → Paired (LotAt H') as' (r rows ks n) → Q (.ref p) H'
section
variable {P : Program} {w : World} {K : PySem.W.Frag} {mg : Str → Option Value} {base : Heap}
abbrev nmSu : List Str := ["rulebook", "name", "lots", "lot"]
end
end KaG


set_option maxRecDepth 100000
set_option maxHeartbeats 4000000
/-! min(xs, default=N), xs a list of whole numbers, N a module's constant -/
namespace KaN
open PySem PySem.Spec PyProof.Rows L2 PySem.W
theorem minOf_least : ∀ (ys : List Int) (y : Int), minOf y ys ∈ y :: ys ∧ ∀ z ∈ y :: ys, minOf y ys ≤ z
  | [], y => ⟨List.mem_cons_self .., fun z m => by rw [List.mem_singleton.mp m]; exact Int.le_refl _⟩
  | k :: r, y => by
    have e : minOf y (k :: r) = minOf (if k < y then k else y) r := by
      unfold minOf
      rw [List.foldl_cons]
      congr 1
      show (if decide (k < y) = true then k else y) = _
      by_cases h : k < y
      · rw [if_pos (decide_eq_true h), if_pos h]
      · rw [if_neg (by simpa using h), if_neg h]
    obtain ⟨h1, h2⟩ := minOf_least r (if k < y then k else y)
    rw [e]
    by_cases h : k < y
    · rw [if_pos h] at h1 h2 ⊢
      refine ⟨List.mem_cons_of_mem _ h1, fun z m => ?_⟩
      rcases List.mem_cons.mp m with rfl | m
      · exact Int.le_trans (h2 k (List.mem_cons_self ..)) (Int.le_of_lt h)
      · exact h2 z m
    · rw [if_neg h] at h1 h2 ⊢
      refine ⟨?_, fun z m => ?_⟩
      · rcases List.mem_cons.mp h1 with z | z
        · rw [z]
          exact List.mem_cons_self ..
        · exact List.mem_cons_of_mem _ (List.mem_cons_of_mem _ z)
      · rcases List.mem_cons.mp m with rfl | m
        · exact h2 _ (List.mem_cons_self ..)
        · rcases List.mem_cons.mp m with rfl | m
          · exact Int.le_trans (h2 y (List.mem_cons_self ..)) (Int.not_lt.mp h)
          · exact h2 z (List.mem_cons_of_mem _ m)
def rMinDf (K : PySem.W.Frag) (d : Int) : List V → Hp → VK → Prop := fun vs H Q => ∃ (a : Addr) (ns : List Int), vs = [V.ref a] ∧ SqL K H a (ns.map V.int) ∧ ∀ m, ((ns = [] ∧ m = d) ∨ (m ∈ ns ∧ ∀ y ∈ ns, m ≤ y)) → Q (.int m) H
theorem cr_minDf {X : Cx} {d : Int} {t : Tok} (hc : X.calm = true) (hu : X.A.units + 64 < cLine) {pins : List (Addr × Obj)} {s : Shared} {σ : L2.St} {H : Hp} {vs : List V} {us : List Value} {Q : VK} (I : Inv X pins σ H s) (r : Vals vs us) (h : rMinDf X.K d vs H Q) :
    wpAny (model X.prog X.w) X.A (call (.builtin "min") us [(Str.ofString "default", .int d t)]) (EP X pins σ Q) X.xe s := by
  obtain ⟨a, ns, rfl, hs, q⟩ := h
  obtain ⟨its, rv, hl, hz⟩ := I.list hs
  rw [Vals.ref1 r]
  have hi := rv.ints
  refine min_list_datum_default (I.ok.hd hc) hl.isList (by rw [List.toList_toArray]; exact HoldAll.of_ints hi) (by show X.A.units + 1 + 0 < cLine; omega) (fun e h' tk kp => ?_) (fun y ys i v h' tk e hv hh kp => ?_)
  · exact ⟨.int d, H, I.kept kp, ⟨_, rfl⟩, q _ (.inl ⟨e, rfl⟩)⟩
  · obtain ⟨t2, rfl⟩ := int_of_holds hh
    have hm := minOf_least ys y
    rw [← e] at hm
    exact ⟨.int _, H, I.kept kp, ⟨_, rfl⟩, q _ (.inr hm)⟩
section
variable {X : Cx} {p p2 kpos pos : Pos} {e : Expr} {te : TE} {y : Str} {d : Int}
theorem pe_minDf (hc : X.calm = true) (hu : X.A.units + 64 < cLine) (hg : Gl X (Str.ofString "min")) (hm : X.mg (Str.ofString "min") = none) (hdy : (y == ("__debug__" : Str)) = false) (hg2 : Gl X y) (hm2 : ∃ u, X.mg y = some u ∧ RelV (.int d) u) (ha : PA X [e] (tCons te tNil))
    (he : backTo pos (starEach [e] X.env) = (false, eval e X.env) :: backTo pos (starEach [] X.env) := by rfl) (hpl : (backTo pos (starEach [e] X.env)).any (·.1) = false := by rfl) :
    PE X (.Call (.Name (Str.ofString "min") p) [e] [⟨some (Str.ofString "default"), .Name y p2, kpos⟩] pos) (tCB (rMinDf X.K d) (tCons te tNil)) := by
  obtain ⟨u, hu1, t, rfl⟩ := hm2
  refine ⟨fun pins s σ H Q I h => ?_⟩
  refine wpAny_Call_Name_kw (ld_blt I hg hm (u := .builtin "min") (by decide +kernel) ?_)
  refine PyProof.Rows.callWith_kw (thn (ha.run pos pins s σ H _ I h) fun us s1 ⟨vs, H1, I1, r1, q1⟩ => ?_) he hpl (by rfl) (by rfl)
  show wpAny _ _ (evalAll ((do let v ← eval (.Name y p2) X.env; standAt pos; pure v) :: [])) _ _ s1
  refine wpAny_evalAll_cons (wpAny_bind (thn ((pe_glob (pos := p2) (v := .int d) hg2 hu1 ⟨t, rfl⟩ hdy).run pins s1 σ H1 (fun v H2 => v = .int d ∧ H2 = H1) I1 ⟨rfl, rfl⟩) fun u2 s2 ⟨v, H2, I2, r2, q2⟩ => (wpAny_bind (wpAny_standAt (wpAny_pure ?_)))))
  obtain ⟨rfl, rfl⟩ := q2
  obtain ⟨t2, rfl⟩ := r2
  refine wpAny_evalAll_nil ?_
  exact cr_minDf hc hu (I2.tok _) r1 q1
end
end KaN


set_option maxRecDepth 100000
set_option maxHeartbeats 4000000
/-! day_of_need -/
namespace KaG
open PySem PySem.Spec PyProof.Rows L2 KaC KaN LamX NdefX KaU
def fUp (f : Str → Option Int) (n : Str) (v : Int) : Str → Option Int := fun m => if n = m then some v else f m
/-- whole numbers by names -/
structure DkF (kvs : List (Key × V)) (f : Str → Option Int) (names : List Str) : Prop where
  g : ∀ n, valV kvs (Sum.inr n) = (f n).map V.int
  nd : (kvs.map (·.1)).Nodup
  sb : ∀ k ∈ kvs.map (·.1), k ∈ names.map (Sum.inr : Str → Key)
theorem DkF.nil {names : List Str} : DkF [] (fun _ => none) names := ⟨fun _ => rfl, List.nodup_nil, fun _ m => nomatch m⟩
theorem DkF.len {kvs : List (Key × V)} {f : Str → Option Int} {names : List Str} (h : DkF kvs f names) : kvs.length ≤ names.length := by
  have := List.Nodup.length_le_of_subset h.nd h.sb
  rw [List.length_map, List.length_map] at this
  exact this
theorem keys_put {kvs : List (Key × V)} {k : Key} {v : V} : (valV kvs k = none ∧ (putK kvs k v).map (·.1) = kvs.map (·.1) ++ [k]) ∨ (putK kvs k v).map (·.1) = kvs.map (·.1) := by
  cases e : valV kvs k with
  | none =>
    left
    rw [putK_new v e, List.map_append]
    exact ⟨rfl, rfl⟩
  | some u =>
    right
    unfold putK
    have ha : (kvs.any fun kv => decide (kv.1 = k)) = true := by
      unfold valV at e
      obtain ⟨p, hp, _⟩ := Option.map_eq_some_iff.mp e
      have h1 := List.find?_some hp
      exact List.any_eq_true.mpr ⟨p, List.mem_of_find?_eq_some hp, h1⟩
    rw [if_pos ha, List.map_map]
    refine List.map_congr_left fun p _ => ?_
    show (if p.1 = k then (p.1, v) else p).1 = p.1
    split <;> rfl
theorem DkF.put {kvs : List (Key × V)} {f : Str → Option Int} {names : List Str} (h : DkF kvs f names) {n : Str} (v : Int) (mn : n ∈ names) : DkF (putK kvs (Sum.inr n) (.int v)) (fUp f n v) names := by
  refine ⟨fun m => ?_, ?_, fun k hk => ?_⟩
  · rw [valV_put]
    unfold fUp
    by_cases e : n = m
    · rw [if_pos e, if_pos (by rw [e])]
      rfl
    · rw [if_neg e, if_neg (fun z => e (Sum.inr.inj z).symm)]
      exact h.g m
  · rcases keys_put (kvs := kvs) (k := Sum.inr n) (v := .int v) with ⟨e, e2⟩ | e2
    · exact nd_putK _ h.nd e
    · rw [e2]
      exact h.nd
  · rcases keys_put (kvs := kvs) (k := Sum.inr n) (v := .int v) with ⟨e, e2⟩ | e2
    · rw [e2] at hk
      rcases List.mem_append.mp hk with z | z
      · exact h.sb k z
      · rw [List.mem_singleton.mp z]
        exact List.mem_map_of_mem mn
    · rw [e2] at hk
      exact h.sb k hk
/-- a dict of days by names -/
structure StA (H : Hp) (d : Addr) (f : Str → Option Int) (m : List Str) : Prop where
  it : ∃ kvs, H d = some (.dK kvs) ∧ DkF kvs f m
theorem StA.same {H H' : Hp} {d : Addr} {f : Str → Option Int} {m : List Str} (h : StA H d f m) (s : Same H H') : StA H' d f m := by
  obtain ⟨kvs, e, r⟩ := h.it
  exact ⟨kvs, s _ _ e, r⟩
theorem StA.ex {T : List NTab} {H H' : Hp} {d : Addr} {f : Str → Option Int} {m : List Str} (h : StA H d f m) (x : Ex T H H') : StA H' d f m := by
  obtain ⟨kvs, e, r⟩ := h.it
  exact ⟨kvs, x.dk e, r⟩
abbrev stX (f : Str → Option Int) : Str → Int := fun n => (f n).getD NEV
structure NvT (mg : Str → Option Value) : Prop where
  nev : ∃ u, mg "NEVER" = some u ∧ RelV (.int NEV) u
  alw : ∃ u, mg "ALWAYS" = some u ∧ RelV (.int ALW) u
  max : mg "max" = none
  min : mg "min" = none
section
variable {P : Program} {w : World} {K : PySem.W.Frag} {mg : Str → Option Value} {base : Heap}
abbrev sDayN : Stmt := top 20
theorem scDayN : FnScope ["starts", "need"] ["starts", "need"] (defScope sDayN) := ⟨rfl, rfl, rfl, by decide +kernel, rfl, by decide +kernel, by decide +kernel⟩
def spDayN : Sp := fun vs H Q _ => ∃ (sd na : Addr) (f : Str → Option Int) (m : List Str) (it : List V) (rows names : List Str), vs = [.ref sd, .ref na] ∧ StA H sd f m ∧ H na = some (.tup it) ∧ NeedV rows names it ∧ Q (.int (dN (stX f) (ndK it))) H
theorem ok_dayN {f : Addr} {fd : FuncData} (F : Fun K "day_of_need" "day_of_need" sDayN f fd) (Z : NvT mg) : FnOk P w K mg base CX0 1 f fd ["starts", "need"] spDayN := by
  refine F.ok scDayN (fun vs H Q E h => ?_) (fun cdv A outer s H vs Q E hr h => ?_)
  · obtain ⟨sd, na, f, m, it, rows, names, rfl, _⟩ := h
    rfl
  · obtain ⟨sd, na, f, m, it, rows, names, rfl, hS, eN, nv, q⟩ := h
    have u1 := hu_of hr
    refine ⟨_, (pss_cons (ps_if (pt_cmpR (r := rEq) op_eq (pe_ix (r := rIxT K) ix_tup (pv 1) pe_int (fun _ _ => rfl)) pe_str (nomark _)) (pss_one (ps_ret pe_int)) pss_nil)
      (pss_one (ps_ret (pe_callB (call_max2 rfl) (by rfl) Z.max (by decide +kernel) (pa_cons pe_int (pa_cons (pe_op op_add (pe_dget2 u1 (pv 0) (pe_ix (r := rIxT K) ix_tup (pv 1) pe_int (fun _ _ => rfl)) (C8.pe_gc (by rfl) Z.nev) ⟨rfl, rfl, rfl, rfl⟩) (pe_ix (r := rIxT K) ix_tup (pv 1) pe_int (fun _ _ => rfl))) pa_nil)))))), ?_⟩
    obtain ⟨kvs, eS, ⟨gS, _, _⟩⟩ := hS.it
    cases nv with
    | row nm t u h =>
      refine ⟨_, rfl, na, _, 0, .str "row", rfl, rfl, SqT.of eN, rfl, rfl, _, rfl, ?_⟩
      exact iteD (by decide +kernel) q
    | kind nm a t u h =>
      refine ⟨_, rfl, na, _, 0, .str "kind", rfl, rfl, SqT.of eN, rfl, rfl, _, rfl, ?_⟩
      refine iteDF (by decide +kernel) ?_
      refine ⟨_, rfl, sd, rfl, .inl ⟨kvs, .inl eS⟩, _, rfl, na, _, 1, .str nm, rfl, rfl, SqT.of eN, rfl, (f nm).map V.int, ?_, ?_⟩
      · rw [← gS nm]
        exact DGet.k (k := Sum.inr nm) eS
      · refine ⟨_, rfl, na, _, 2, .int a, rfl, rfl, SqT.of eN, rfl, stX f nm, a, ?_, rfl, ?_⟩
        · unfold stX
          cases f nm <;> rfl
        · exact ⟨0, _, rfl, q⟩
end
end KaG


set_option maxRecDepth 100000
set_option maxHeartbeats 2000000
/-! a call of a function that was handed on: nothing comes to stand where its cells are -/
namespace KaG
open PySem PySem.Spec PyProof.Rows L2 LamX NdefX
section
variable {P : Program} {w : World} {K : PySem.W.Frag} {mg : Str → Option Value} {base : Heap} {A : Around} {outer : List Env} {s s' : Shared} {H Hf : Hp} {cl : List (Str × Addr)} {Q : VK} {u : Value}
theorem ce_thaw2 (F : FrzC cl H) (e0 : Env0 P w K mg base A outer s H) (h : CE outer P w (thaw cl H) s (fun v H' => (∀ c, InC cl c → H' c = none) → Q v (backH cl H H')) u s') : CE outer P w H s Q u s' := by
  refine ce_thaw F e0 ?_
  obtain ⟨v, H', os, bare, un, hok, r, q⟩ := h
  refine ⟨v, H', os, bare, un, hok, r, q fun c z => ?_⟩
  obtain ⟨o, v, e⟩ := F c z
  obtain ⟨g, _⟩ := e0.hok c _ e
  exact un.free c o g (thaw_in z) (by simp)
end
section
variable {X : Cx} {pins : List (Addr × Obj)} {σ : L2.St} {H : Hp} {s s' : Shared}
def tCallF2 (F : NF) (f : Addr) (fr : List Str) (i : Nat) (sp : List (Option V) → Sp) (ws : List (Option V)) (t : TA) : TE := fun σ H Q => σ[i]? = some (some (.ref f)) ∧ H f = some (FnO f F) ∧
  t σ H fun vs H1 => H1 f = some (FnO f F) ∧ H1 F.c = some (CodeO F.c F.qual) ∧ CelsH F.cl fr ws H1 ∧ sp ws vs (thaw F.cl H1) (fun v H' => (∀ c, InC F.cl c → H' c = none) → Q v (backH F.cl H1 H')) E0
theorem pe_callF2 {F : NF} {f : Addr} {ps fr : List Str} {i j k : Nat} {x : Str} {sp : List (Option V) → Sp} {ws : List (Option V)} {t : TA} {e : Expr} {es : List Expr} {p pos : Pos} (Fn : NOk X.prog X.w X.K X.mg X.base CX0 k f F ps fr sp) (hr : Room j X.A) (hk : k ≤ j) (hN : X.N[i]? = some x) (hv : Vis X.env.scope x) (ha : PA X (e :: es) t)
    (hd : (x == ("__debug__" : Str)) = false := by decide) (hcd : (x == ("__classdict__" : Str)) = false := by decide)
    (he : starEach (e :: es) X.env = (false, eval e X.env) :: starEach es X.env := by rfl) (hpl : (backTo pos (starEach es X.env)).any (·.1) = false := by rfl) :
    PE X (.Call (.Name x p) (e :: es) [] pos) (tCallF2 F f fr i sp ws t) := by
  refine ⟨fun pins s σ H Q I h => ?_⟩
  obtain ⟨hs, hf, ht⟩ := h
  refine wpAny_Call_Name_kw (thn ((pe_var (pos := p) hN hv hd hcd).run pins s σ H (fun v H1 => v = .ref f ∧ H1 = H) I ⟨.ref f, hs, rfl, rfl⟩) fun u s1 ⟨v, H1, I1, r1, q1⟩ => ?_)
  obtain ⟨ev, eH⟩ := q1
  subst ev
  rw [eH] at I1
  obtain rfl : u = Value.ref f := r1
  refine PySem.W.callWith_F (first := []) (fnAt_of I1 hf) (thn (ha.run pos pins s1 σ H _ I1 ht) fun us s2 ⟨vs, H2, I2, r, h1, h2, C, q⟩ => ⟨fnAt_of I2 h1, ?_⟩) he hpl
  show wpAny _ _ (call (.ref f) us) _ _ _
  have e0 := I2.env0
  have nin : ∀ b o, H2 b = some o → (∀ ob v, o ≠ .frz ob (CelO b v)) → thaw F.cl H2 b = some o := fun b o e n => by
    rw [thaw_out (C.all.out e n)]
    exact e
  refine wpAny_call (codeAny_mono (Fn.run X.A X.stack s2 (thaw F.cl H2) us vs ws _ E0 (hr.mono hk) (env0_thaw C.all e0) (nin _ _ h1 fun _ _ y => by unfold FnO at y; cases y) (nin _ _ h2 fun _ _ y => by unfold CodeO at y; cases y) (C.at_ I2.hok) r q) fun r' s' hq => ?_)
  cases r' with
  | error e => exact (show False from hq).elim
  | ok fl =>
    cases fl with
    | ret u => exact I2.after (ce_thaw2 C.all e0 hq)
    | next => exact False.elim hq
    | brk => exact False.elim hq
    | cont => exact False.elim hq
end
/-! ### what stays, over such a call -/
theorem thaw_tabs {T : List NTab} {cl : List (Str × Addr)} {H : Hp} (F : FrzC cl H) (t : TabsN T H) : TabsN T (thaw cl H) := fun q hq => by
  obtain ⟨ps, h1, h2, h3⟩ := t q hq
  refine ⟨ps, by rw [thaw_out (F.out h1 fun _ _ y => nomatch y)]; exact h1, h2, fun pos cv hc => ?_⟩
  obtain ⟨c, e1, e2⟩ := h3 pos cv hc
  exact ⟨c, e1, by rw [thaw_out (F.out e2 fun _ _ y => by unfold CodeO at y; cases y)]; exact e2⟩
theorem back_ex {T : List NTab} {cl : List (Str × Addr)} {H H' : Hp} (F : FrzC cl H) (X : Ex T (thaw cl H) H') (no : ∀ c, InC cl c → H' c = none) : Ex T H (backH cl H H') := by
  have nin : ∀ b o, H' b = some o → ¬ InC cl b := fun b o e z => by rw [no b z] at e; cases e
  refine ⟨fun b o e n => ?_, fun q hq => ?_, fun b e => ?_⟩
  · by_cases z : InC cl b
    · rw [back_in z]
      exact e
    · rw [back_out z]
      exact X.ext b o (by rw [thaw_out z]; exact e) n
  · obtain ⟨ps, h1, h2, h3⟩ := X.tab q hq
    refine ⟨ps, by rw [back_out (nin _ _ h1)]; exact h1, h2, fun pos cv hc => ?_⟩
    obtain ⟨c, e1, e2⟩ := h3 pos cv hc
    exact ⟨c, e1, by rw [back_out (nin _ _ e2)]; exact e2⟩
  · by_cases z : InC cl b
    · rw [back_in z] at e
      exact e
    · rw [back_out z] at e
      have := X.non b e
      rwa [thaw_out z] at this
end KaG


set_option maxRecDepth 100000
set_option maxHeartbeats 2000000
namespace KaG
open PySem PySem.Spec PyProof.Rows L2 KaN
/-! ### needs and grounds as data; tuple(sorted(set(xs))) -/
def dV : V → PyData
  | .int i => .int i
  | .str x => .str x
  | _ => .none
def needD (xs : List V) : PyData := .tuple (xs.map dV)
def grdD (g : List (List V)) : PyData := .tuple (g.map needD)
section
variable {K : PySem.W.Frag} {H : Hp} {rows names : List Str}
theorem need_ky {xs : List V} {a : Addr} (h : NeedV rows names xs) (e : H a = some (.tup xs)) : Ky K H (.ref a) (needD xs) := by
  cases h with
  | row n t m => exact .tup (SqT.of e) (.cons (.str _) (.cons (.str _) (.cons (.int _) (.cons (.int _) .nil))))
  | kind n a t m => exact .tup (SqT.of e) (.cons (.str _) (.cons (.str _) (.cons (.int _) (.cons (.int _) (.cons (.int _) .nil)))))
theorem need_deep {xs : List V} (h : NeedV rows names xs) : (needD xs).depth = 1 := by
  cases h <;> simp [needD, dV, PyData.depth, PyData.depthAll]
theorem need_like {xs ys : List V} (h : NeedV rows names xs) (h' : NeedV rows names ys) : PySem.W.alike (needD xs) (needD ys) = true := by
  cases h <;> cases h' <;> simp [needD, dV, PySem.W.alike, PySem.W.alikeAll]
theorem need_cons {xs : List V} (h : NeedV rows names xs) : ∃ x r, needD xs = .tuple (x :: r) := by
  cases h <;> exact ⟨_, _, rfl⟩
theorem needs_ky : ∀ {ns : List Addr} {g : List (List V)}, Paired (fun n its => H n = some (.tup its)) ns g → (∀ n ∈ g, NeedV rows names n) → KyA K H (ns.map V.ref) (g.map needD)
  | _, _, .nil, _ => .nil
  | _, _, .cons h r, q => .cons (need_ky (q _ (List.mem_cons_self ..)) h) (needs_ky r fun n m => q n (List.mem_cons_of_mem _ m))
theorem grd_ky {g : List (List V)} {a : Addr} (h : Grd H a g) (q : ∀ n ∈ g, NeedV rows names n) : Ky K H (.ref a) (grdD g) := by
  obtain ⟨ns, e, p⟩ := h
  exact .tup (SqT.of e) (needs_ky p q)
theorem needs_deep : ∀ {g : List (List V)}, (∀ n ∈ g, NeedV rows names n) → PyData.depthAll (g.map needD) ≤ 1
  | [], _ => by simp [PyData.depthAll]
  | n :: g, q => by
    have h1 := need_deep (q n (List.mem_cons_self ..))
    have h2 := needs_deep (g := g) fun m hm => q m (List.mem_cons_of_mem _ hm)
    rw [List.map_cons, PyData.depthAll]; omega
theorem grd_deep {g : List (List V)} (q : ∀ n ∈ g, NeedV rows names n) : (grdD g).depth ≤ 2 := by
  have := needs_deep q
  rw [grdD, PyData.depth]; omega
theorem needs_like : ∀ {g g' : List (List V)}, (∀ n ∈ g, NeedV rows names n) → (∀ n ∈ g', NeedV rows names n) → PySem.W.alikeAll (g.map needD) (g'.map needD) = true
  | [], _, _, _ => by simp [PySem.W.alikeAll]
  | _ :: _, [], _, _ => by simp [PySem.W.alikeAll]
  | n :: g, n' :: g', q, q' => by
    rw [List.map_cons, List.map_cons, PySem.W.alikeAll, need_like (q n (List.mem_cons_self ..)) (q' n' (List.mem_cons_self ..)), needs_like (g := g) (g' := g') (fun m hm => q m (List.mem_cons_of_mem _ hm)) fun m hm => q' m (List.mem_cons_of_mem _ hm)]; rfl
theorem grd_like {g g' : List (List V)} (q : ∀ n ∈ g, NeedV rows names n) (q' : ∀ n ∈ g', NeedV rows names n) : PySem.W.alike (grdD g) (grdD g') = true := by
  rw [grdD, grdD, PySem.W.alike]
  exact needs_like q q'
end
def rTupOf (K : PySem.W.Frag) : List V → Hp → VK → Prop := fun xs H Q => ∃ p ys, xs = [.ref p] ∧ ((SqL K H p ys ∧ ∀ l, H l = none → Q (.ref l) (upd H l (.tup ys))) ∨ (SqT K H p ys ∧ Q (.ref p) H))
theorem call_tupOf {X : Cx} : CallR X (.type "tuple") (rTupOf X.K) := call_tuple_of
theorem order_of {α : Type} {K : PySem.W.Frag} {w : World} {H : Hp} {l : Addr} {Q : VK} (enc : α → PyData) (zs : List (Addr × α)) (hl : SqL K H l (zs.map fun z => V.ref z.1) ∨ SqT K H l (zs.map fun z => V.ref z.1)) (hk : ∀ z ∈ zs, Ky K H (.ref z.1) (enc z.2) ∧ (enc z.2).depth ≤ 8)
    (hal : ∀ z ∈ zs, ∀ y ∈ zs, PySem.W.alike (enc z.2) (enc y.2) = true) (hso : ∀ z ∈ zs, ∃ x r, enc z.2 = .tuple (x :: r)) (h4 : zs.length ≤ 4)
    (k : ∀ (ys : List (Addr × α)) (p : Addr) (H' : Hp), Same H H' → H p = none → H' p = some (.tup (ys.map fun z => V.ref z.1)) → (∀ z ∈ ys, z ∈ zs) → (0 < zs.length → 0 < ys.length) → ys.length ≤ zs.length → Q (.ref p) H') :
    rSetN K w [V.ref l] H fun v H1 => rSortN K w [v] H1 fun v2 H2 => rTupOf K [v2] H2 Q := by
  refine ⟨l, zs.map fun z => (z.1, enc z.2), rfl, by rw [List.map_map]; exact hl, fun p m => ?_, by rw [List.length_map]; exact h4, fun a D ha hsub hall hnd hlen => ?_⟩
  · obtain ⟨z, hz, rfl⟩ := List.mem_map.mp m
    exact hk z hz
  · have back : ∀ D' : List Dw, (∀ p ∈ D', p ∈ zs.map fun z => (z.1, enc z.2)) → ∃ ys : List (Addr × α), D' = ys.map (fun z => (z.1, enc z.2)) ∧ ∀ z ∈ ys, z ∈ zs := by
      intro D'
      induction D' with
      | nil => exact fun _ => ⟨[], rfl, fun _ z => nomatch z⟩
      | cons p D' ih =>
        intro h
        obtain ⟨z, hz, e⟩ := List.mem_map.mp (h p (List.mem_cons_self ..))
        obtain ⟨ys, e2, hs⟩ := ih fun q m => h q (List.mem_cons_of_mem _ m)
        refine ⟨z :: ys, by rw [List.map_cons, e, e2], fun q m => ?_⟩
        rcases List.mem_cons.mp m with c | c
        · rw [c]; exact hz
        · exact hs q c
    have of : ∀ p ∈ D, ∃ z ∈ zs, p = (z.1, enc z.2) := fun p m => by
      obtain ⟨z, hz, e⟩ := List.mem_map.mp (hsub p m)
      exact ⟨z, hz, e.symm⟩
    refine ⟨a, D, rfl, upd_same, fun p m => ?_, fun d m d' m' => ?_, .inl fun d m => ?_, fun D1 p pD hp => ?_⟩
    · obtain ⟨z, hz, rfl⟩ := of p m
      exact ⟨Ky.sm (same_upd ha) (hk z hz).1, (hk z hz).2⟩
    · obtain ⟨p, hp, rfl⟩ := List.mem_map.mp m
      obtain ⟨p', hp', rfl⟩ := List.mem_map.mp m'
      obtain ⟨z, hz, rfl⟩ := of p hp
      obtain ⟨y, hy, rfl⟩ := of p' hp'
      exact hal z hz y hy
    · obtain ⟨p, hp, rfl⟩ := List.mem_map.mp m
      obtain ⟨z, hz, rfl⟩ := of p hp
      exact hso z hz
    · have pm : (D1.mergeSort (PySem.W.dataLe false (fun z : Dw => z.2))).Perm D := (List.mergeSort_perm ..).trans pD
      obtain ⟨ys, ey, hy⟩ := back _ fun q m => hsub q (pm.mem_iff.mp m)
      have hz : ys.length = D.length := by rw [← pm.length_eq, ey, List.length_map]
      rw [ey, List.map_map]
      have n1 : H p = none := by
        cases e : H p with
        | none => rfl
        | some u => rw [same_upd ha _ _ e] at hp; cases hp
      refine ⟨p, ys.map fun z => V.ref z.1, rfl, .inl ⟨SqL.of upd_same, fun q hq => ?_⟩⟩
      have S2 := KaG.Same.tr (same_upd (o := SetNO w a D) ha) (same_upd (o := .lst (ys.map fun z => V.ref z.1)) hp)
      have n2 : H q = none := by
        cases e : H q with
        | none => rfl
        | some u =>
          have := S2 _ _ e
          rw [show (upd (upd H a (SetNO w a D)) p (.lst (ys.map fun z => V.ref z.1))) q = none from hq] at this
          cases this
      refine k ys q _ (KaG.Same.tr S2 (same_upd hq)) n2 upd_same hy (fun h0 => ?_) (by rw [hz]; simpa using hlen)
      obtain ⟨z, hz1⟩ : ∃ z, z ∈ zs := ⟨_, List.getElem_mem h0⟩
      obtain ⟨q2, hq2, _⟩ := hall (z.1, enc z.2) (List.mem_map.mpr ⟨z, hz1, rfl⟩)
      rw [hz]
      exact List.length_pos_of_mem hq2
end KaG


set_option maxRecDepth 100000
set_option maxHeartbeats 2000000
namespace KaG
open PySem PySem.Spec PyProof.Rows L2 KaN
theorem paired_zip {α β : Type} {R : α → β → Prop} : ∀ {xs : List α} {ys : List β}, Paired R xs ys → ∀ z ∈ xs.zip ys, R z.1 z.2
  | _, _, .nil, _, m => by cases m
  | _, _, .cons h r, z, m => by
    rw [List.zip_cons_cons] at m
    rcases List.mem_cons.mp m with c | c
    · rw [c]; exact h
    · exact paired_zip r z c
theorem zip_fst {α β γ : Type} {R : α → β → Prop} (f : α → γ) : ∀ {xs : List α} {ys : List β}, Paired R xs ys → (xs.zip ys).map (fun z => f z.1) = xs.map f
  | _, _, .nil => rfl
  | _, _, .cons h r => by rw [List.zip_cons_cons, List.map_cons, List.map_cons, zip_fst f r]
theorem paired_of {α β : Type} {R : α → β → Prop} : ∀ {zs : List (α × β)}, (∀ z ∈ zs, R z.1 z.2) → Paired R (zs.map (·.1)) (zs.map (·.2))
  | [], _ => .nil
  | z :: zs, h => .cons (h z (List.mem_cons_self ..)) (paired_of fun y m => h y (List.mem_cons_of_mem _ m))
theorem zip_snd {α β : Type} {xs : List α} {ys : List β} {z : α × β} (m : z ∈ xs.zip ys) : z.2 ∈ ys := (List.of_mem_zip m).2
/-- needs in a list, put in order: a ground -/
theorem order_needs {K : PySem.W.Frag} {w : World} {H : Hp} {l : Addr} {Q : VK} {rows names : List Str} {as : List Addr} {g : List (List V)} (hl : SqL K H l (as.map V.ref) ∨ SqT K H l (as.map V.ref)) (pg : Paired (fun n its => H n = some (.tup its)) as g)
    (hn : ∀ n ∈ g, NeedV rows names n) (h4 : as.length ≤ 4)
    (k : ∀ (p : Addr) (g' : List (List V)) (H' : Hp), Same H H' → H p = none → Grd H' p g' → (∀ n ∈ g', n ∈ g) → (0 < g.length → 0 < g'.length) → g'.length ≤ g.length → Q (.ref p) H') :
    rSetN K w [V.ref l] H fun v H1 => rSortN K w [v] H1 fun v2 H2 => rTupOf K [v2] H2 Q := by
  have hz : (as.zip g).length = g.length := by rw [List.length_zip, paired_len pg, Nat.min_self]
  refine order_of needD (as.zip g) (by rw [zip_fst V.ref pg]; exact hl) (fun z m => ?_) (fun z m y m' => ?_) (fun z m => ?_) (by rw [hz, ← paired_len pg]; exact h4) fun ys p H' S np ep sub pos le => ?_
  · have hv := hn _ (zip_snd m)
    exact ⟨need_ky hv (paired_zip pg z m), by rw [need_deep hv]; decide⟩
  · exact need_like (hn _ (zip_snd m)) (hn _ (zip_snd m'))
  · exact need_cons (hn _ (zip_snd m))
  · refine k p (ys.map (·.2)) H' S np ⟨ys.map (·.1), by rw [ep, List.map_map]; rfl, paired_of fun z m => S _ _ (paired_zip pg z (sub z m))⟩ (fun n m => ?_) (fun h => by rw [List.length_map]; exact pos (by rw [hz]; exact h)) (by rw [List.length_map, ← hz]; exact le)
    obtain ⟨z, hz2, rfl⟩ := List.mem_map.mp m
    exact zip_snd (sub z hz2)
/-- grounds in a list, put in order -/
theorem order_grounds {K : PySem.W.Frag} {w : World} {H : Hp} {l : Addr} {Q : VK} {rows names : List Str} {as : List Addr} {gs : List (List (List V))} (hl : SqL K H l (as.map V.ref) ∨ SqT K H l (as.map V.ref)) (pg : Paired (fun a g => Grd H a g) as gs)
    (hn : ∀ g ∈ gs, 0 < g.length ∧ ∀ n ∈ g, NeedV rows names n) (h4 : as.length ≤ 4)
    (k : ∀ (p : Addr) (bs : List Addr) (gs' : List (List (List V))) (H' : Hp), Same H H' → H p = none → H' p = some (.tup (bs.map V.ref)) → Paired (fun a g => Grd H' a g) bs gs' → (∀ g ∈ gs', g ∈ gs) → gs'.length ≤ gs.length → Q (.ref p) H') :
    rSetN K w [V.ref l] H fun v H1 => rSortN K w [v] H1 fun v2 H2 => rTupOf K [v2] H2 Q := by
  have hz : (as.zip gs).length = gs.length := by rw [List.length_zip, paired_len pg, Nat.min_self]
  refine order_of grdD (as.zip gs) (by rw [zip_fst V.ref pg]; exact hl) (fun z m => ?_) (fun z m y m' => ?_) (fun z m => ?_) (by rw [hz, ← paired_len pg]; exact h4) fun ys p H' S np ep sub pos le => ?_
  · have hv := (hn _ (zip_snd m)).2
    exact ⟨grd_ky (paired_zip pg z m) hv, Nat.le_trans (grd_deep hv) (by decide)⟩
  · exact grd_like (hn _ (zip_snd m)).2 (hn _ (zip_snd m')).2
  · have h1 := (hn _ (zip_snd m)).1
    cases hg : z.2 with
    | nil => rw [hg] at h1; exact absurd h1 (by decide)
    | cons n r => exact ⟨needD n, r.map needD, by rw [grdD, List.map_cons]⟩
  · refine k p (ys.map (·.1)) (ys.map (·.2)) H' S np (by rw [ep, List.map_map]; rfl) (paired_of fun z m => Grd.ts (paired_zip pg z (sub z m)) (TSame.of S)) (fun n m => ?_) (by rw [List.length_map, ← hz]; exact le)
    obtain ⟨z, hz2, rfl⟩ := List.mem_map.mp m
    exact zip_snd (sub z hz2)
section
variable {P : Program} {w : World} {K : PySem.W.Frag} {mg : Str → Option Value} {base : Heap}
theorem scGround : FnScope ["bag", "rows", "names", "some", "k"] ["bag", "rows", "names"] (defScope sGround) := ⟨rfl, rfl, rfl, by decide +kernel, rfl, by decide +kernel, by decide +kernel⟩
def spGround : Sp := fun vs H Q _ => ∃ (bg r n : Addr) (rows names : List Str), vs = [.ref bg, .ref r, .ref n] ∧ Bag H bg ∧ r ≠ bg ∧ n ≠ bg ∧ H r = some (.tup (rows.map V.str)) ∧ H n = some (.tup (names.map V.str)) ∧ 0 < rows.length ∧ 0 < names.length ∧ rows.length ≤ 20 ∧ names.length ≤ 20 ∧
  ∀ (p : Addr) (g : List (List V)) (H' : Hp), Ext bg H H' → H p = none → Grd H' p g → 0 < g.length → g.length ≤ 3 → (∀ n ∈ g, NeedV rows names n) → Q (.ref p) H'
theorem ok_ground {f fN fS : Addr} {fd fdN fdS : FuncData} (F : Fun K "_law_ground" "_law_ground" sGround f fd) (T : TxtC mg) (CN : Ct P w K mg base "_law_need" 4 ["bag", "rows", "names"] spNeed fN fdN) (C : Ct P w K mg base "_law_some" 2 ["bag", "things"] spSome2 fS fdS) : FnOk P w K mg base CX0 5 f fd ["bag", "rows", "names"] spGround := by
  refine F.ok scGround (fun vs H Q E h => ?_) (fun cdv A outer s H vs Q E hr h => ?_)
  · obtain ⟨bg, r, n, rows, names, rfl, _⟩ := h
    rfl
  · obtain ⟨bg, r, n, rows, names, rfl, hB, rb, nb, er, en, r0, n0, r20, n20, k⟩ := h
    have hr4 : Room 4 (A.deeper (envOfC "_law_ground" (defScope sGround) s.heap.objs.size f cdv)) := hr.mono (by decide)
    have hr2 : Room 2 (A.deeper (envOfC "_law_ground" (defScope sGround) s.heap.objs.size f cdv)) := hr.mono (by decide)
    have hu : (A.deeper (envOfC "_law_ground" (defScope sGround) s.heap.objs.size f cdv)).units + 64 < cLine := by have := hr.3; omega
    refine ⟨_, (pss_cons (ps_setLc (i := 3) (own := [("k", 4)]) (g := gName 4) (by rfl) scGround.nd rfl rfl (sw_true rfl rfl rfl (by decide +kernel))
        (pi_range1 rfl T.b.range (pa_cons (pe_call C.G hr2 (by rfl) C.m C.kp C.b .nil pass0 (pa_cons (pv 0) (pa_cons (pe_lst (pa_cons pe_int (pa_cons pe_int (pa_cons pe_int (pa_cons pe_int (pa_cons pe_int (pa_cons pe_int pa_nil))))))) pa_nil))) pa_nil))
        (blkOk_by (own := [("k", 4)]) (N := ["bag", "rows", "names", "some", "k"]) (sc := defScope sGround) (by decide +kernel)) (fun _ _ _ _ _ => pg_name (i := 4) scGround.nd rfl (Or.inl rfl)) (fun _ _ _ _ _ => pts_nil)
        (fun _ _ _ _ _ => pe_call CN.G hr4 (by rfl) CN.m CN.kp CN.b .nil pass0 (pa_cons (pv 0) (pa_cons (pv 1) (pa_cons (pv 2) pa_nil)))))
      (pss_one (ps_ret (pe_callTy call_tuple_of (by rfl) T.tup (by decide +kernel) (pa_cons (pe_callB (cr_sortN rfl hu) (by rfl) T.sor (by decide +kernel)
        (pa_cons (pe_callTy (cr_setN rfl hu) (by rfl) T.set (by decide +kernel) (pa_cons (pv 3) pa_nil)) pa_nil)) pa_nil))))), ?_⟩
    have sz : ∀ {m : Nat}, m ≤ 900 → m ≤ sizeLine := fun h => Nat.le_of_lt (small1000 (by omega))
    refine ⟨_, rfl, sz (by show 6 ≤ 900; decide), fun q nq => ?_⟩
    have E0 : Ext bg H (upd H q (.lst [.int 1, .int 1, .int 1, .int 2, .int 2, .int 3])) := (Ext.of_same hB Same.refl').new nq
    have qb : q ≠ bg := fun z => hB.there (z ▸ nq)
    refine ⟨bg, q, _, rfl, E0.bag, qb, .inl upd_same, by decide, by decide, fun v H1 mv E1 => ?_⟩
    obtain ⟨z, rfl, z1, z3⟩ := ints_in (ns := [1, 1, 1, 2, 2, 3]) (lo := 1) (hi := 3) (by decide) mv
    have E01 := E0.trans E1
    refine ⟨z, rfl, by omega, by omega, fun D hD => lc_range (fun i G => Ext bg H G ∧ ∃ (as : List Addr) (g : List (List V)), as.length = i ∧ G D = some (.lst (as.map V.ref)) ∧ Paired (fun n its => G n = some (.tup its)) as g ∧ ∀ n ∈ g, NeedV rows names n) ?_ ?_ ?_⟩
    · exact ⟨E01.new hD, [], [], rfl, upd_same, .nil, fun _ z => nomatch z⟩
    · rintro i G hi ⟨E2, as, g, la, gD, pg, hg⟩
      refine ⟨rfl, ?_⟩
      unfold tYes
      dsimp only
      have Db : D ≠ bg := fun z => E01.bag.there (z ▸ hD)
      refine iteT ⟨_, rfl, _, rfl, _, rfl, bg, r, n, rows, names, rfl, E2.bag, rb, nb, E2.keep r _ rb er, E2.keep n _ nb en, r0, n0, r20, n20, fun p xs H3 E3 np ep hv => ?_⟩
      have pD : p ≠ D := fun z => by rw [z, gD] at np; cases np
      have gD3 := E3.keep D _ Db gD
      refine ⟨_, gD3, small1000 (by rw [List.length_map]; omega), ?_, as ++ [p], g ++ [xs], by rw [List.length_append, la]; rfl, by rw [upd_same, List.map_append]; rfl, ?_, ?_⟩
      · exact Ext.write hB (E2.trans E3) (newAt E01 hD)
      · exact paired_snoc (by rw [upd_ne pD]; exact ep) (Paired.mono' (fun a b c => ts_lst gD3 a _ (TSame.ext E2.bag E3 a _ c)) pg)
      · intro m hm
        rcases List.mem_append.mp hm with c | c
        · exact hg m c
        · rw [List.mem_singleton.mp c]; exact hv
    · rintro G ⟨E2, as, g, la, gD, pg, hg⟩
      have lg := paired_len pg
      refine ⟨_, rfl, order_needs (K := K) (w := w) (.inl (SqL.of gD)) pg hg (by omega) fun p g' H' S np hp sub pos le => ?_⟩
      refine k p g' H' (E2.trans (Ext.of_same E2.bag S)) (newAt E2 np) hp (pos (by omega)) (by omega) fun n m => hg n (sub n m)
end
end KaG


set_option maxRecDepth 100000
set_option maxHeartbeats 4000000
namespace KaG
open PySem PySem.Spec PyProof.Rows L2 KaN
/-- a kind, as drawn -/
def KdOk (rs ns : List Str) (k : Kd) : Prop := (1 ≤ k.keep ∧ k.keep ≤ 8 ∧ 0 ≤ k.bar ∧ k.bar ≤ 12 ∧ k.gs.length ≤ 4) ∧ ∀ g ∈ k.gs, 0 < g.length ∧ g.length ≤ 3 ∧ ∀ n ∈ g, NeedV rs ns n
theorem book_ok {rs ns : List Str} {ks : List Kd} (hr : Nms rs) (hn : Nms ns) (r0 : 0 < rs.length) (n0 : 0 < ns.length) (n5 : ns.length ≤ 5) (e : ks.map Kd.name = ns) (h : ∀ k ∈ ks, KdOk rs ns k) : BookOk rs ks := by
  have hl : ks.length = ns.length := by rw [← e, List.length_map]
  subst e
  exact ⟨hr, hn, r0, by omega, by omega, fun k m => (h k m).1, fun k m g mg => (h k m).2 g mg⟩
/-- a list of grounds -/
structure GsAt (H : Hp) (rs ns : List Str) (as : List Addr) (gs : List (List (List V))) : Prop where
  pr : Paired (fun a g => Grd H a g) as gs
  ok : ∀ g ∈ gs, 0 < g.length ∧ g.length ≤ 3 ∧ ∀ n ∈ g, NeedV rs ns n
theorem GsAt.ts {H H' : Hp} {rs ns : List Str} {as : List Addr} {gs : List (List (List V))} (h : GsAt H rs ns as gs) (s : TSame H H') : GsAt H' rs ns as gs := ⟨Paired.mono' (fun a b q => Grd.ts q s) h.pr, h.ok⟩
theorem GsAt.snoc {H : Hp} {rs ns : List Str} {as : List Addr} {gs : List (List (List V))} {a : Addr} {g : List (List V)} (h : GsAt H rs ns as gs) (e : Grd H a g) (o : 0 < g.length ∧ g.length ≤ 3 ∧ ∀ n ∈ g, NeedV rs ns n) : GsAt H rs ns (as ++ [a]) (gs ++ [g]) :=
  ⟨paired_snoc e h.pr, fun x m => by
    rcases List.mem_append.mp m with c | c
    · exact h.ok x c
    · rw [List.mem_singleton.mp c]; exact o⟩
theorem GsAt.nil {H : Hp} {rs ns : List Str} : GsAt H rs ns [] [] := ⟨.nil, fun _ z => nomatch z⟩
theorem paired_take {α β : Type} {R : α → β → Prop} : ∀ (n : Nat) {xs : List α} {ys : List β}, Paired R xs ys → Paired R (xs.take n) (ys.take n)
  | 0, _, _, _ => by rw [List.take_zero, List.take_zero]; exact .nil
  | n + 1, _, _, .nil => by rw [List.take_nil, List.take_nil]; exact .nil
  | n + 1, _, _, .cons h r => by rw [List.take_succ_cons, List.take_succ_cons]; exact .cons h (paired_take n r)
theorem GsAt.cut {H : Hp} {rs ns : List Str} {as : List Addr} {gs : List (List (List V))} (h : GsAt H rs ns as gs) (n : Nat) : GsAt H rs ns (as.take n) (gs.take n) := ⟨paired_take n h.pr, fun g m => h.ok g (List.mem_of_mem_take m)⟩
/-- the kinds so far -/
structure KsAt (H : Hp) (rs ns : List Str) (kas : List Addr) (ks : List Kd) : Prop where
  pr : Paired (fun a k => KdAt H a k) kas ks
  ok : ∀ k ∈ ks, KdOk rs ns k
theorem KsAt.ts {H H' : Hp} {rs ns : List Str} {kas : List Addr} {ks : List Kd} (h : KsAt H rs ns kas ks) (s : TSame H H') : KsAt H' rs ns kas ks := ⟨Paired.mono' (fun a b q => KdAt.ts q s) h.pr, h.ok⟩
theorem KsAt.snoc {H : Hp} {rs ns : List Str} {kas : List Addr} {ks : List Kd} {a : Addr} {k : Kd} (h : KsAt H rs ns kas ks) (e : KdAt H a k) (o : KdOk rs ns k) : KsAt H rs ns (kas ++ [a]) (ks ++ [k]) :=
  ⟨paired_snoc e h.pr, fun x m => by
    rcases List.mem_append.mp m with c | c
    · exact h.ok x c
    · rw [List.mem_singleton.mp c]; exact o⟩
theorem same_ts_new {H : Hp} {p : Addr} {o : HO} (h : H p = none) : TSame H (upd H p o) := TSame.of (same_upd h)
theorem TSame.tr {H H1 H2 : Hp} (s : TSame H H1) (t : TSame H1 H2) : TSame H H2 := fun b xs e => t b xs (s b xs e)
theorem grd_one {H : Hp} {a n : Addr} {its : List V} (e : H a = some (.tup [.ref n])) (e2 : H n = some (.tup its)) : Grd H a [its] := ⟨[n], e, .cons e2 .nil⟩
section
variable {P : Program} {w : World} {K : PySem.W.Frag} {mg : Str → Option Value} {base : Heap}
theorem scAny : FnScope ["bag", "kinds", "rows", "names", "found", "name", "grounds", "k"] ["bag", "kinds", "rows"] (defScope sAny) := ⟨rfl, rfl, rfl, by decide +kernel, rfl, by decide +kernel, by decide +kernel⟩
def spBook (H : Hp) (bg : Addr) (Q : VK) : Prop := ∀ (p : Addr) (rs : List Str) (ks : List Kd) (H' : Hp), Ext bg H H' → H p = none → rs.length ≤ 5 → BookAt H' p rs ks → BookOk rs ks → Q (.ref p) H'
def spAny : Sp := fun vs H Q _ => ∃ (bg : Addr) (n m : Int), vs = [.ref bg, .int n, .int m] ∧ Bag H bg ∧ 1 ≤ n ∧ n ≤ 5 ∧ 1 ≤ m ∧ m ≤ 5 ∧ spBook H bg Q
theorem ok_any {f fM fG fS fT : Addr} {fd fdM fdG fdS fdT : FuncData} (F : Fun K "_law_any_rulebook" "_law_any_rulebook" sAny f fd) (T : TxtC mg) (CN : Ct P w K mg base "_law_named" 3 ["bag", "many"] spNamed fM fdM) (CG : Ct P w K mg base "_law_ground" 5 ["bag", "rows", "names"] spGround fG fdG)
    (C : Ct P w K mg base "_law_some" 2 ["bag", "things"] spSome2 fS fdS) (CT : Ct P w K mg base "_law_take" 1 ["bag", "upto"] spTake fT fdT) : FnOk P w K mg base CX0 6 f fd ["bag", "kinds", "rows"] spAny := by
  refine F.ok scAny (fun vs H Q E h => ?_) (fun cdv A outer s H vs Q E hr h => ?_)
  · obtain ⟨bg, n, m, rfl, _⟩ := h
    rfl
  · obtain ⟨bg, n, m, rfl, hB, n1, n5, m1, m5, k⟩ := h
    have hr5 : Room 5 (A.deeper (envOfC "_law_any_rulebook" (defScope sAny) s.heap.objs.size f cdv)) := hr.mono (by decide)
    have hr3 : Room 3 (A.deeper (envOfC "_law_any_rulebook" (defScope sAny) s.heap.objs.size f cdv)) := hr.mono (by decide)
    have hr2 : Room 2 (A.deeper (envOfC "_law_any_rulebook" (defScope sAny) s.heap.objs.size f cdv)) := hr.mono (by decide)
    have hr1 : Room 1 (A.deeper (envOfC "_law_any_rulebook" (defScope sAny) s.heap.objs.size f cdv)) := hr.mono (by decide)
    have hu : (A.deeper (envOfC "_law_any_rulebook" (defScope sAny) s.heap.objs.size f cdv)).units + 64 < cLine := by have := hr.3; omega
    refine ⟨_, (pss_cons (ps_asg (pe_tup (pa_cons (pe_call CN.G hr3 (by rfl) CN.m CN.kp CN.b .nil pass0 (pa_cons (pv 0) (pa_cons (pe_op op_add pe_int (pe_call CT.G hr1 (by rfl) CT.m CT.kp CT.b .nil pass0 (pa_cons (pv 0) (pa_cons (pv 1) pa_nil)))) pa_nil)))
          (pa_cons (pe_call CN.G hr3 (by rfl) CN.m CN.kp CN.b .nil pass0 (pa_cons (pv 0) (pa_cons (pe_op op_add pe_int (pe_call CT.G hr1 (by rfl) CT.m CT.kp CT.b .nil pass0 (pa_cons (pv 0) (pa_cons (pv 2) pa_nil)))) pa_nil))) pa_nil)))
          (pg_tup (by rfl) (pgs_cons (pg_name (i := 3) scAny.nd rfl (Or.inr rfl)) (pgs_cons (pg_name (i := 2) scAny.nd rfl (Or.inr rfl)) pgs_nil))))
      (pss_cons (ps_set (i := 4) scAny.nd rfl (Or.inl rfl) (pe_lst pa_nil))
      (pss_cons (ps_for PassesOwn.never rfl (pi_tup (pv 3)) (pg_name (i := 5) scAny.nd rfl (Or.inl rfl))
        (pss_cons (ps_setLc (i := 6) (own := [("k", 7)]) (g := gName 7) (by rfl) scAny.nd rfl rfl (sw_true rfl rfl rfl (by decide +kernel))
            (pi_range1 rfl T.b.range (pa_cons (pe_call C.G hr2 (by rfl) C.m C.kp C.b .nil pass0 (pa_cons (pv 0) (pa_cons (pe_lst (pa_cons pe_int (pa_cons pe_int (pa_cons pe_int (pa_cons pe_int (pa_cons pe_int (pa_cons pe_int pa_nil))))))) pa_nil))) pa_nil))
            (blkOk_by (own := [("k", 7)]) (N := ["bag", "kinds", "rows", "names", "found", "name", "grounds", "k"]) (sc := defScope sAny) (by decide +kernel)) (fun _ _ _ _ _ => pg_name (i := 7) scAny.nd rfl (Or.inl rfl)) (fun _ _ _ _ _ => pts_nil)
            (fun _ _ _ _ _ => pe_call CG.G hr5 (by rfl) CG.m CG.kp CG.b .nil pass0 (pa_cons (pv 0) (pa_cons (pv 2) (pa_cons (pv 3) pa_nil)))))
        (pss_cons (ps_if (pt_cmpR op_eq (pe_call CT.G hr1 (by rfl) CT.m CT.kp CT.b .nil pass0 (pa_cons (pv 0) (pa_cons pe_int pa_nil))) pe_int (nomark _))
            (pss_one (ps_set (i := 6) scAny.nd rfl (Or.inl rfl) (pe_op op_cat (pe_slice sl_list (pv 6) po_none (po_some pe_int)) (pe_lst (pa_cons (pe_tup (pa_cons (pe_tup (pa_cons pe_str
              (pa_cons (pe_call C.G hr2 (by rfl) C.m C.kp C.b .nil pass0 (pa_cons (pv 0) (pa_cons (pv 2) pa_nil))) (pa_cons (pe_call CT.G hr1 (by rfl) CT.m CT.kp CT.b .nil pass0 (pa_cons (pv 0) (pa_cons pe_int pa_nil))) (pa_cons pe_int pa_nil))))) pa_nil)) pa_nil))))) pss_nil)
        (pss_one (ps_expr (pe_bm PySem.F.plainAttrs_list PySem.F.slot_list_append PySem.F.type_list_append mt_append (pv 4) (pa_cons (pe_tup (pa_cons (pv 5) (pa_cons (pe_op op_add pe_int (pe_call CT.G hr1 (by rfl) CT.m CT.kp CT.b .nil pass0 (pa_cons (pv 0) (pa_cons pe_int pa_nil))))
            (pa_cons (pe_call C.G hr2 (by rfl) C.m C.kp C.b .nil pass0 (pa_cons (pv 0) (pa_cons (pe_lst (pa_cons pe_int (pa_cons pe_int (pa_cons pe_int (pa_cons pe_int (pa_cons pe_int (pa_cons pe_int pa_nil))))))) pa_nil)))
            (pa_cons (pe_callTy call_tupOf (by rfl) T.tup (by decide +kernel) (pa_cons (pe_callB (cr_sortN rfl hu) (by rfl) T.sor (by decide +kernel) (pa_cons (pe_callTy (cr_setN rfl hu) (by rfl) T.set (by decide +kernel) (pa_cons (pv 6) pa_nil)) pa_nil)) pa_nil)) pa_nil))))) pa_nil)))))))
      (pss_one (ps_ret (pe_tup (pa_cons (pv 2) (pa_cons (pe_callTy call_tuple_of (by rfl) T.tup (by decide +kernel) (pa_cons (pv 4) pa_nil)) pa_nil)))))))), ?_⟩
    have sz : ∀ {m : Nat}, m ≤ 900 → m ≤ sizeLine := fun h => Nat.le_of_lt (small1000 (by omega))
    refine ⟨_, rfl, _, rfl, _, rfl, bg, _, rfl, hB, by omega, by omega, fun z1 H1 E1 a0 a1 => ?_⟩
    refine ⟨_, _, rfl, rfl, bg, _, rfl, E1.bag, by omega, by omega, fun nt ns H2 E2 nnt ent hns lns => ?_⟩
    have E12 := E1.trans E2
    refine ⟨_, rfl, _, rfl, _, rfl, bg, _, rfl, E12.bag, by omega, by omega, fun z2 H3 E3 b0 b1 => ?_⟩
    have E13 := E12.trans E3
    refine ⟨_, _, rfl, rfl, bg, _, rfl, E13.bag, by omega, by omega, fun rt rs H4 E4 nrt ert hrs lrs => ?_⟩
    have E14 := E13.trans E4
    have ntb : nt ≠ bg := fun z => (E1.bag.there) (z ▸ nnt)
    have rtb : rt ≠ bg := fun z => (E13.bag.there) (z ▸ nrt)
    have ent4 := E4.keep nt _ ntb (E3.keep nt _ ntb ent)
    refine ⟨sz (by show 2 ≤ 900; decide), fun t nt' => ?_⟩
    refine ⟨t, _, rfl, SqT.of upd_same, by rfl, _, _, rfl, _, _, rfl, rfl, ?_⟩
    have E15 := E14.new (o := .tup [.ref nt, .ref rt]) nt'
    have e1 := same_upd (o := .tup [.ref nt, .ref rt]) nt' _ _ ent4
    have e2 := same_upd (o := .tup [.ref nt, .ref rt]) nt' _ _ ert
    generalize upd H4 t (.tup [.ref nt, .ref rt]) = H5 at E15 e1 e2 ⊢
    refine ⟨Nat.zero_le _, fun p np => ?_⟩
    have nl : ns.length = (1 + z1).toNat := lns
    have rl : rs.length = (1 + z2).toNat := lrs
    have pH : H p = none := newAt E15 np
    have pb : p ≠ bg := fun z => hB.there (z ▸ pH)
    refine ⟨_, rfl, nt, rfl, ⟨_, SqT.of (same_upd np _ _ e1)⟩, for_tup (K := K) (a := nt) (xs := ns.map V.str) (fun i σ' G => (∃ x5 x6 x7 : Option V, σ' = [some (.ref bg), some (.int n), some (.ref rt), some (.ref nt), some (.ref p), x5, x6, x7]) ∧ Ext bg H G ∧ G nt = some (.tup (ns.map V.str)) ∧ G rt = some (.tup (rs.map V.str)) ∧
      ∃ (kas : List Addr) (ks : List Kd), G p = some (.lst (kas.map V.ref)) ∧ KsAt G rs ns kas ks ∧ ks.map Kd.name = ns.take i) ?_ ?_ ?_ ?_⟩
    · exact ⟨⟨_, _, _, rfl⟩, E15.new np, same_upd np _ _ e1, same_upd np _ _ e2, [], [], upd_same, ⟨.nil, fun _ z => nomatch z⟩, rfl⟩
    · rintro i σ' G _ ⟨_, _, g1, _⟩
      exact SqT.of g1
    · rintro i x σ' G hx ⟨⟨x5, x6, x7, rfl⟩, E6, g1, g2, kas, ks, gp, hk, en⟩
      rw [List.getElem?_map] at hx
      obtain ⟨nm, hnm, rfl⟩ := Option.map_eq_some_iff.mp hx
      refine ⟨_, rfl, sz (by show 6 ≤ 900; decide), fun q nq => ?_⟩
      have qb : q ≠ bg := fun z => E6.bag.there (z ▸ nq)
      have E7 := E6.new (o := .lst [.int 1, .int 2, .int 2, .int 3, .int 4, .int 0]) nq
      refine ⟨bg, q, _, rfl, E7.bag, qb, .inl upd_same, by decide, by decide, fun v H7 mv E8 => ?_⟩
      obtain ⟨z, rfl, z0, z4⟩ := ints_in (ns := [1, 2, 2, 3, 4, 0]) (lo := 0) (hi := 4) (by decide) mv
      have E68 := E7.trans E8
      have old : ∀ c o, c ≠ bg → G c = some o → H7 c = some o := fun c o cb e => E8.keep c o cb (same_upd nq _ _ e)
      have f1 := old nt _ ntb g1
      have f2 := old rt _ rtb g2
      have f3 := old p _ pb gp
      have hk7 : KsAt H7 rs ns kas ks := hk.ts ((same_ts_new nq).tr (TSame.ext E7.bag E8))
      refine ⟨z, rfl, by omega, by omega, fun D hD => lc_range (fun j G2 => Ext bg H7 G2 ∧ ∃ (as : List Addr) (gs : List (List (List V))), as.length = j ∧ G2 D = some (.lst (as.map V.ref)) ∧ GsAt G2 rs ns as gs) ?_ ?_ ?_⟩
      · exact ⟨(Ext.of_same E68.bag Same.refl').new hD, [], [], rfl, upd_same, GsAt.nil⟩
      · rintro j G2 hj ⟨E9, as, gs, la, gD, hg⟩
        refine ⟨rfl, ?_⟩
        unfold tYes
        dsimp only
        have Db : D ≠ bg := fun z => E68.bag.there (z ▸ hD)
        refine iteT ⟨_, rfl, _, rfl, _, rfl, bg, rt, nt, rs, ns, rfl, E9.bag, rtb, ntb, E9.keep rt _ rtb f2, E9.keep nt _ ntb f1, by omega, by omega, by omega, by omega, fun a g G3 E10 na ha p1 p2 p3 => ?_⟩
        have gD3 := E10.keep D _ Db gD
        refine ⟨_, gD3, small1000 (by rw [List.length_map]; omega), ?_, as ++ [a], gs ++ [g], by rw [List.length_append, la]; rfl, by rw [upd_same, List.map_append]; rfl, ?_⟩
        · exact Ext.write E68.bag (E9.trans E10) hD
        · exact ((hg.ts (TSame.ext E9.bag E10)).snoc ha ⟨p1, p2, p3⟩).ts (ts_lst gD3)
      · rintro G2 ⟨E9, as, gs, la, gD, hg⟩
        have pD : p ≠ D := fun z => by rw [← z, f3] at hD; cases hD
        have l4 : as.length ≤ 4 := by omega
        dsimp only [gName]
        refine seqGo (fun b D' => ∀ (ga : Addr) (bs : List Addr) (hs : List (List (List V))) (G4 : Hp), Ext bg H7 G4 → G4 ga = some (.lst (bs.map V.ref)) → GsAt G4 rs ns bs hs → bs.length ≤ 4 →
          b D' [some (.ref bg), some (.int n), some (.ref rt), some (.ref nt), some (.ref p), some (.str nm), some (.ref ga), x7] G4) (fun ga bs hs G4 E11 gg hgs lb => ?_) (fun rest => ?_)
        · have gp4 := E11.keep p _ pb f3
          refine ⟨_, rfl, .inl ⟨rfl, _, SqL.of gp4⟩, _, rfl, _, rfl, bg, 8, rfl, E11.bag, by decide, by decide, fun y1 G5 E12 c0 c1 => ?_⟩
          refine ⟨_, _, rfl, rfl, _, rfl, sz (by show 6 ≤ 900; decide), fun q2 nq2 => ?_⟩
          have E13 := E12.new (o := .lst [.int 0, .int 0, .int 1, .int 2, .int 5, .int 12]) nq2
          have q2b : q2 ≠ bg := fun z => E12.bag.there (z ▸ nq2)
          refine ⟨bg, q2, _, rfl, E13.bag, q2b, .inl upd_same, by decide, by decide, fun v2 G6 mv2 E14 => ?_⟩
          obtain ⟨bar, rfl, bar0, bar12⟩ := ints_in (ns := [0, 0, 1, 2, 5, 12]) (lo := 0) (hi := 12) (by decide) mv2
          have E15 := E13.trans E14
          have gab : ga ≠ bg := fun z => by
            obtain ⟨c, st, i, b2, ms, e, _⟩ := E11.bag
            rw [← z, gg] at e
            injection e with e; injection e with e
            match bs, e with
            | [], e => cases e
            | _ :: _, e => rw [List.map_cons] at e; injection e with e; cases e
          have hgs6 := hgs.ts (TSame.ext E11.bag E15)
          refine ⟨_, rfl, ?_⟩
          dsimp only [tCB, tCons, tNil]
          refine order_grounds (K := K) (w := w) (rows := rs) (names := ns) (.inl (SqL.of (E15.keep ga _ gab gg))) hgs6.pr (fun g m => ⟨(hgs6.ok g m).1, (hgs6.ok g m).2.2⟩) lb fun a2 bs2 gs2 G7 S na2 ea2 pr2 sub le => ?_
          have gp7 := S _ _ (E15.keep p _ pb gp4)
          refine ⟨sz (by show 4 ≤ 900; decide), fun ka nka => ?_⟩
          have S8 := same_upd (o := .tup [.str nm, .int (1 + y1), .int bar, .ref a2]) nka
          have hli := paired_len hk.pr
          have hik : ks.length = i := by
            have := congrArg List.length en
            rw [List.length_map, List.length_take] at this
            have hi := (List.getElem?_eq_some_iff.mp hnm).1
            omega
          have hi := (List.getElem?_eq_some_iff.mp hnm).1
          refine ⟨p, _, _, rfl, rfl, S8 _ _ gp7, small1000 (by rw [List.length_map]; omega), ?_⟩
          have E17 : Ext bg H7 (upd G7 ka (.tup [.str nm, .int (1 + y1), .int bar, .ref a2])) := ((E11.trans E15).trans (Ext.of_same E15.bag S)).new nka
          have T7 : TSame H7 (upd G7 ka (.tup [.str nm, .int (1 + y1), .int bar, .ref a2])) := TSame.ext E68.bag E17
          have tw := ts_lst (ys := kas.map V.ref ++ [.ref ka]) (S8 _ _ gp7)
          have lens : gs2.length ≤ 4 := by have := paired_len hgs.pr; omega
          refine ⟨⟨_, _, _, rfl⟩, Ext.write hB (E68.trans E17) pH, tw _ _ (T7 _ _ f1), tw _ _ (T7 _ _ f2), kas ++ [ka], ks ++ [⟨nm, 1 + y1, bar, gs2⟩], by rw [upd_same, List.map_append]; rfl, ?_, ?_⟩
          · refine (((hk7.ts T7).snoc ?_ ?_).ts tw)
            · exact ⟨a2, bs2, upd_same, S8 _ _ ea2, Paired.mono' (fun a b q => Grd.ts q (TSame.of S8)) pr2⟩
            · exact ⟨⟨by show 1 ≤ 1 + y1; omega, by show 1 + y1 ≤ 8; omega, bar0, bar12, lens⟩, fun g m => hgs.ok g (sub g m)⟩
          · rw [List.map_append, en, List.take_add_one, hnm]; rfl
        · have Db : D ≠ bg := fun z => E68.bag.there (z ▸ hD)
          refine ⟨_, rfl, bg, 3, rfl, E9.bag, by decide, by decide, fun y G3 E10 c0 c1 => ?_⟩
          have gD3 := E10.keep D _ Db gD
          have hg3 := hg.ts (TSame.ext E9.bag E10)
          have E93 := E9.trans E10
          refine ⟨rfl, _, rfl, ite2 (fun hc => ?_) fun hc => ?_⟩
          · refine ⟨_, rfl, _, rfl, _, _, rfl, SqL.of gD3, fun r nr => ?_⟩
            rw [cut_to _ 3 (by decide), ← List.map_take, show (3 : Int).toNat = 3 from rfl]
            have Er := E93.new (o := .lst ((as.take 3).map V.ref)) nr
            have hgr := hg3.ts (same_ts_new (o := .lst ((as.take 3).map V.ref)) nr)
            have rb : r ≠ bg := fun z => E93.bag.there (z ▸ nr)
            have gr : (upd G3 r (.lst ((as.take 3).map V.ref))) r = some (.lst ((as.take 3).map V.ref)) := upd_same
            have hrt := Er.keep rt _ rtb f2
            generalize upd G3 r (.lst ((as.take 3).map V.ref)) = G5 at Er hgr gr hrt ⊢
            refine ⟨_, rfl, _, rfl, bg, rt, rs.map V.str, rfl, Er.bag, rtb, .inr hrt, by rw [List.length_map]; omega, by rw [List.length_map]; omega, fun v2 G6 mv2 E12 => ?_⟩
            obtain ⟨x, rfl, hxr⟩ := strs_in mv2
            refine ⟨_, rfl, bg, 5, rfl, E12.bag, by decide, by decide, fun y2 G7 E13 d0 d1 => ?_⟩
            have E57 := E12.trans E13
            have gr7 := E57.keep r _ rb gr
            have hg7 := hgr.ts (TSame.ext Er.bag E57)
            have E97 := Er.trans E57
            refine ⟨sz (by show 4 ≤ 900; decide), fun na nna => ⟨sz (by show 1 ≤ 900; decide), fun ga nga => ⟨sz (by show 1 ≤ 900; decide), fun l nl2 => ?_⟩⟩⟩
            have S1 := same_upd (o := .tup [.str "row", .str x, .int y2, .int 9]) nna
            have S2 := KaG.Same.tr S1 (same_upd (o := .tup [.ref na]) nga)
            have S3 := KaG.Same.tr S2 (same_upd (o := .lst [.ref ga]) nl2)
            have h1 : (upd (upd (upd G7 na (.tup [.str "row", .str x, .int y2, .int 9])) ga (.tup [.ref na])) l (.lst [.ref ga])) na = some (.tup [.str "row", .str x, .int y2, .int 9]) := KaG.Same.tr (same_upd nga) (same_upd nl2) _ _ upd_same
            have h2 : (upd (upd (upd G7 na (.tup [.str "row", .str x, .int y2, .int 9])) ga (.tup [.ref na])) l (.lst [.ref ga])) ga = some (.tup [.ref na]) := same_upd nl2 _ _ upd_same
            have h3 : (upd (upd (upd G7 na (.tup [.str "row", .str x, .int y2, .int 9])) ga (.tup [.ref na])) l (.lst [.ref ga])) l = some (.lst [.ref ga]) := upd_same
            generalize upd (upd (upd G7 na (.tup [.str "row", .str x, .int y2, .int 9])) ga (.tup [.ref na])) l (.lst [.ref ga]) = G8 at S3 h1 h2 h3 ⊢
            refine ⟨_, _, _, _, rfl, rfl, S3 _ _ gr7, h3, sz (by rw [List.length_map, List.length_take]; show _ + 1 ≤ 900; omega), fun q3 nq3 => ?_⟩
            have S4 := KaG.Same.tr S3 (same_upd (o := .lst ((as.take 3).map V.ref ++ [.ref ga])) nq3)
            refine rest q3 (as.take 3 ++ [ga]) (gs.take 3 ++ [[[.str "row", .str x, .int y2, .int 9]]]) _ (E97.trans (Ext.of_same E97.bag S4)) (by rw [upd_same, List.map_append]; rfl) ?_ (by rw [List.length_append, List.length_take]; show _ + 1 ≤ 4; omega)
            refine ((hg7.ts (TSame.of S4)).cut 3).snoc (grd_one (same_upd nq3 _ _ h2) (same_upd nq3 _ _ h1)) ⟨by show 0 < 1; decide, by show 1 ≤ 3; decide, fun n2 m2 => ?_⟩
            rw [List.mem_singleton.mp m2]
            exact .row x y2 9 hxr d0 (by omega) (by decide) (by decide)
          · exact rest D as gs G3 E93 gD3 hg3 l4
    · rintro σ' G ⟨⟨x5, x6, x7, rfl⟩, E6, g1, g2, kas, ks, gp, hk, en⟩
      rw [List.length_map, List.take_length] at en
      refine ⟨_, rfl, _, rfl, p, _, rfl, .inl ⟨SqL.of gp, fun q nq => ?_⟩⟩
      refine ⟨sz (by show 2 ≤ 900; decide), fun b nb => ?_⟩
      have S1 := same_upd (o := .tup (kas.map V.ref)) nq
      have S2 := KaG.Same.tr S1 (same_upd (o := .tup [.ref rt, .ref q]) nb)
      refine k b rs ks _ (E6.trans (Ext.of_same E6.bag S2)) (newAt (E6.trans (Ext.of_same E6.bag S1)) nb) (by omega) ⟨rt, q, kas, upd_same, S2 _ _ g2, same_upd nb _ _ upd_same, (hk.ts (TSame.of S2)).pr⟩ ?_
      exact book_ok hrs hns (by omega) (by omega) (by omega) en hk.ok
end
end KaG


set_option maxRecDepth 100000
set_option maxHeartbeats 4000000
namespace KaG
open PySem PySem.Spec PyProof.Rows L2 KaN
theorem set_same {α : Type} : ∀ {l : List α} {j : Nat} {x : α}, l[j]? = some x → l.set j x = l
  | [], _, _, _ => rfl
  | y :: l, 0, x, e => by cases e; rfl
  | y :: l, j + 1, x, e => by rw [List.set_cons_succ, set_same (show l[j]? = some x from e)]
theorem at_str {ns : List Str} {z : Int} (h0 : 0 ≤ z) (h1 : z < ns.length) : ∃ x ∈ ns, atI (ns.map V.str) z = some (.str x) := by
  obtain ⟨j, rfl⟩ := Int.eq_ofNat_of_zero_le h0
  have hj : j < ns.length := by omega
  exact ⟨ns[j], List.getElem_mem hj, atI_nat (by rw [List.getElem?_map, List.getElem?_eq_getElem hj]; rfl)⟩
theorem ifGo {tt : TT} {b e : TS} {D : Ends} {σ : L2.St} {H : Hp} (R : Hp → Prop) (hb : ∀ M, R M → b D σ M) (he : ∀ M, R M → e D σ M) (hm : ∀ Q : Bool → Hp → Prop, (∀ c M, R M → Q c M) → tt σ H Q) : tIfS tt b e D σ H :=
  hm _ fun c M r => by
    cases c
    · exact iteF (he M r)
    · exact iteT (hb M r)
theorem pickGo {tt : TT} {ta tb : TE} {σ : L2.St} {H : Hp} {Q : VK} (R : V → Prop) (k : ∀ v, R v → Q v H) (ht : ∀ Q' : Bool → Hp → Prop, (∀ c, Q' c H) → tt σ H Q') (ha : ∀ Q' : VK, (∀ v, R v → Q' v H) → ta σ H Q') (hb : ∀ Q' : VK, (∀ v, R v → Q' v H) → tb σ H Q') : tIf tt ta tb σ H Q :=
  ht _ fun c => by
    cases c
    · exact iteF (hb _ k)
    · exact iteT (ha _ k)
/-- a kind while it is made: a list, with the list of its grounds -/
structure KlAt (H0 H : Hp) (bg p : Addr) (rs ns : List Str) (l : Addr) (d : Kd) (gl : Addr) (as : List Addr) : Prop where
  at_ : H l = some (.lst [.str d.name, .int d.keep, .int d.bar, .ref gl])
  gat : H gl = some (.lst (as.map V.ref))
  gs : GsAt H rs ns as d.gs
  ln : H0 l = none
  lb : l ≠ bg
  lp : l ≠ p
  gb : gl ≠ bg
  gp : gl ≠ p
abbrev Kl (H0 H : Hp) (bg p : Addr) (rs ns : List Str) (l : Addr) (d : Kd) : Prop := ∃ gl as, KlAt H0 H bg p rs ns l d gl as
theorem lst_ne {H : Hp} {a b : Addr} {xs : List Addr} {s : Str} {r : List V} (e : H a = some (.lst (xs.map V.ref))) (f : H b = some (.lst (.str s :: r))) : a ≠ b := fun z => by
  rw [z, f] at e
  injection e with e
  injection e with e
  cases xs with
  | nil => cases e
  | cons x xs => rw [List.map_cons] at e; injection e with e; cases e
theorem Kl.mono {H0 H H' : Hp} {bg p : Addr} {rs ns : List Str} {l : Addr} {d : Kd} (h : Kl H0 H bg p rs ns l d) (t : TSame H H') (k : ∀ b o, b ≠ bg → b ≠ p → H b = some o → H' b = some o) : Kl H0 H' bg p rs ns l d := by
  obtain ⟨gl, as, q⟩ := h
  exact ⟨gl, as, k _ _ q.lb q.lp q.at_, k _ _ q.gb q.gp q.gat, q.gs.ts t, q.ln, q.lb, q.lp, q.gb, q.gp⟩
def KlOk (m : Nat) (d : Kd) : Prop := 1 ≤ d.keep ∧ d.keep ≤ 8 ∧ 0 ≤ d.bar ∧ d.bar ≤ 12 ∧ d.gs.length ≤ m
structure FAt (H0 H : Hp) (bg p : Addr) (rs ns : List Str) (m : Nat) (ls : List Addr) (ds : List Kd) : Prop where
  at_ : H p = some (.lst (ls.map V.ref))
  pr : Paired (fun l d => Kl H0 H bg p rs ns l d) ls ds
  nd : ls.Nodup
  ok : ∀ d ∈ ds, KlOk m d
theorem FAt.ext {H0 H H' : Hp} {bg p : Addr} {rs ns : List Str} {m : Nat} {ls : List Addr} {ds : List Kd} (h : FAt H0 H bg p rs ns m ls ds) (pb : p ≠ bg) (hb : Bag H bg) (E : Ext bg H H') : FAt H0 H' bg p rs ns m ls ds :=
  ⟨E.keep _ _ pb h.at_, Paired.mono' (fun l d q => Kl.mono q (TSame.ext hb E) fun b o n1 _ e => E.keep b o n1 e) h.pr, h.nd, h.ok⟩
theorem paired_there {α β : Type} {R : α → β → Prop} {C : α → Prop} (hc : ∀ a b, R a b → C a) : ∀ {xs : List α} {ys : List β}, Paired R xs ys → ∀ a ∈ xs, C a
  | _, _, .nil, _, m => by cases m
  | _, _, .cons h r, a, m => by
    rcases List.mem_cons.mp m with c | c
    · rw [c]; exact hc _ _ h
    · exact paired_there hc r a c
theorem FAt.snoc {H0 H : Hp} {bg p : Addr} {rs ns : List Str} {m : Nat} {ls : List Addr} {ds : List Kd} {l : Addr} {d : Kd} (h : FAt H0 H bg p rs ns m ls ds) (q : Kl H0 H bg p rs ns l d) (o : KlOk m d) (n : l ∉ ls) : FAt H0 (upd H p (.lst (ls.map V.ref ++ [.ref l]))) bg p rs ns m (ls ++ [l]) (ds ++ [d]) :=
  ⟨by rw [upd_same, List.map_append]; rfl, Paired.mono' (fun l d q => Kl.mono q (ts_lst h.at_) fun b o _ n2 e => by rw [upd_ne n2]; exact e) (paired_snoc q h.pr),
    by rw [List.nodup_append]; exact ⟨h.nd, by simp, fun a m b m2 => by rw [List.mem_singleton.mp m2]; exact fun z => n (z ▸ m)⟩, fun x m => by
    rcases List.mem_append.mp m with c | c
    · exact h.ok x c
    · rw [List.mem_singleton.mp c]; exact o⟩
theorem paired_set {α β : Type} {R S : α → β → Prop} : ∀ {xs : List α} {ys : List β} (j : Nat) (y : β), Paired R xs ys → (∀ i x z, xs[i]? = some x → ys[i]? = some z → i ≠ j → R x z → S x z) → (∀ x, xs[j]? = some x → S x y) → Paired S xs (ys.set j y)
  | _, _, _, _, .nil, _, _ => .nil
  | _, _, 0, y, .cons h r, f, g => by
    rw [List.set_cons_zero]
    refine .cons (g _ rfl) ?_
    have go : ∀ {as : List α} {bs : List β} (n : Nat), Paired R as bs → (∀ (i : Nat) (x : α) (z : β), as[i]? = some x → bs[i]? = some z → R x z → S x z) → Paired S as bs := by
      intro as bs n q
      induction q with
      | nil => exact fun _ => .nil
      | cons h _ ih => exact fun f => .cons (f 0 _ _ rfl rfl h) (ih fun i x z e1 e2 => f (i + 1) x z e1 e2)
    exact go 0 r fun i x z e1 e2 => f (i + 1) x z e1 e2 (Nat.succ_ne_zero i)
  | _, _, j + 1, y, .cons h r, f, g => by
    rw [List.set_cons_succ]
    exact .cons (f 0 _ _ rfl rfl (Nat.succ_ne_zero j).symm h) (paired_set j y r (fun i x z e1 e2 n => f (i + 1) x z e1 e2 (by omega)) fun x e => g x e)
/-- the list of one kind's grounds exchanged -/
theorem FAt.put {H0 H : Hp} {bg p : Addr} {rs ns : List Str} {m : Nat} {ls : List Addr} {ds : List Kd} {l q : Addr} {d : Kd} {as : List Addr} {gs : List (List (List V))} {j : Nat} (h : FAt H0 H bg p rs ns m ls ds) (hl : ls[j]? = some l) (hd : ds[j]? = some d)
    (hq : H q = some (.lst (as.map V.ref))) (g : GsAt H rs ns as gs) (qb : q ≠ bg) (qp : q ≠ p) (n : gs.length ≤ m) :
    FAt H0 (upd H l (.lst [.str d.name, .int d.keep, .int d.bar, .ref q])) bg p rs ns m ls (ds.set j { d with gs := gs }) := by
  obtain ⟨d1, e1, gl, as1, k⟩ := paired_at h.pr hl
  rw [hd] at e1
  cases e1
  have tl : TSame H (upd H l (.lst [.str d.name, .int d.keep, .int d.bar, .ref q])) := ts_lst k.at_
  have ql : q ≠ l := lst_ne hq k.at_
  refine ⟨by rw [upd_ne k.lp.symm]; exact h.at_, paired_set j _ h.pr (fun i x z e1 e2 nij k2 => ?_) fun x e => ?_, h.nd, fun x hx => ?_⟩
  · obtain ⟨gl2, as2, k2⟩ := k2
    have xl : x ≠ l := fun z => by
      subst z
      have h1 := (List.getElem?_eq_some_iff.mp e1).1
      have h2 := (List.getElem?_eq_some_iff.mp hl).1
      exact nij ((List.getElem_inj (h₀ := h1) (h₁ := h2) h.nd).mp ((List.getElem?_eq_some_iff.mp e1).2.trans (List.getElem?_eq_some_iff.mp hl).2.symm))
    exact ⟨gl2, as2, by rw [upd_ne xl]; exact k2.at_, by rw [upd_ne (lst_ne k2.gat k.at_)]; exact k2.gat, k2.gs.ts tl, k2.ln, k2.lb, k2.lp, k2.gb, k2.gp⟩
  · rw [hl] at e
    cases e
    exact ⟨q, as, upd_same, by rw [upd_ne ql]; exact hq, g.ts tl, k.ln, k.lb, k.lp, qb, qp⟩
  · rcases List.mem_or_eq_of_mem_set hx with c | c
    · exact h.ok x c
    · rw [c]
      have o := h.ok d (List.mem_of_getElem? hd)
      exact ⟨o.1, o.2.1, o.2.2.1, o.2.2.2.1, n⟩
theorem FAt.wide {H0 H : Hp} {bg p : Addr} {rs ns : List Str} {m m' : Nat} {ls : List Addr} {ds : List Kd} (h : FAt H0 H bg p rs ns m ls ds) (n : m ≤ m') : FAt H0 H bg p rs ns m' ls ds :=
  ⟨h.at_, h.pr, h.nd, fun d x => let ⟨a, b, c, e, f⟩ := h.ok d x; ⟨a, b, c, e, Nat.le_trans f n⟩⟩
def rLstOf (K : PySem.W.Frag) : List V → Hp → VK → Prop := fun xs H Q => ∃ p ys, xs = [.ref p] ∧ (SqL K H p ys ∨ SqT K H p ys) ∧ ∀ l, H l = none → Q (.ref l) (upd H l (.lst ys))
theorem call_lstOf {X : Cx} : CallR X (.type "list") (rLstOf X.K) := call_list_of
section
variable {P : Program} {w : World} {K : PySem.W.Frag} {mg : Str → Option Value} {base : Heap}
abbrev nmPl : List Str := ["bag", "sort", "kinds", "names", "rows", "found", "ring", "k", "after", "tells", "tell", "giver", "grounds", "kind", "kept", "ground", "name", "keep", "bar"]
theorem scPl : FnScope nmPl ["bag", "sort", "kinds"] (defScope sPlanted) := ⟨rfl, rfl, rfl, by decide +kernel, rfl, by decide +kernel, by decide +kernel⟩
def spPl : Sp := fun vs H Q _ => ∃ (bg : Addr) (so : Str) (n : Int), vs = [.ref bg, .str so, .int n] ∧ Bag H bg ∧ (so = "ever" ∨ so = "longer" ∨ so = "gone" ∨ so = "none") ∧ 1 ≤ n ∧ n ≤ 5 ∧ spBook H bg Q
theorem ok_pl {f fM fG fO fS fT : Addr} {fd fdM fdG fdO fdS fdT : FuncData} (F : Fun K "_law_planted" "_law_planted" sPlanted f fd) (T : TxtC mg) (CN : Ct P w K mg base "_law_named" 3 ["bag", "many"] spNamed fM fdM) (CG : Ct P w K mg base "_law_ground" 5 ["bag", "rows", "names"] spGround fG fdG)
    (CO : Ct P w K mg base "_law_more_needs" 3 ["bag", "sort", "rows"] spMore fO fdO) (C : Ct P w K mg base "_law_some" 2 ["bag", "things"] spSome2 fS fdS) (CT : Ct P w K mg base "_law_take" 1 ["bag", "upto"] spTake fT fdT) : FnOk P w K mg base CX0 6 f fd ["bag", "sort", "kinds"] spPl := by
  refine F.ok scPl (fun vs H Q E h => ?_) (fun cdv A outer s H vs Q E hr h => ?_)
  · obtain ⟨bg, so, n, rfl, _⟩ := h
    rfl
  · obtain ⟨bg, so, n, rfl, hB, hso, n1, n5, k⟩ := h
    have hr5 : Room 5 (A.deeper (envOfC "_law_planted" (defScope sPlanted) s.heap.objs.size f cdv)) := hr.mono (by decide)
    have hr3 : Room 3 (A.deeper (envOfC "_law_planted" (defScope sPlanted) s.heap.objs.size f cdv)) := hr.mono (by decide)
    have hr2 : Room 2 (A.deeper (envOfC "_law_planted" (defScope sPlanted) s.heap.objs.size f cdv)) := hr.mono (by decide)
    have hr1 : Room 1 (A.deeper (envOfC "_law_planted" (defScope sPlanted) s.heap.objs.size f cdv)) := hr.mono (by decide)
    have hu : (A.deeper (envOfC "_law_planted" (defScope sPlanted) s.heap.objs.size f cdv)).units + 64 < cLine := by have := hr.3; omega
    have u1 : (A.deeper (envOfC "_law_planted" (defScope sPlanted) s.heap.objs.size f cdv)).units + 1 < cLine := by have := hr.3; omega
    refine ⟨_, (pss_cons (ps_asg (pe_tup (pa_cons (pe_call CN.G hr3 (by rfl) CN.m CN.kp CN.b .nil pass0 (pa_cons (pv 0) (pa_cons (pe_op op_add pe_int (pe_call CT.G hr1 (by rfl) CT.m CT.kp CT.b .nil pass0 (pa_cons (pv 0) (pa_cons (pv 2) pa_nil)))) pa_nil)))
          (pa_cons (pe_call CN.G hr3 (by rfl) CN.m CN.kp CN.b .nil pass0 (pa_cons (pv 0) (pa_cons pe_int pa_nil))) pa_nil)))
          (pg_tup (by rfl) (pgs_cons (pg_name (i := 3) scPl.nd rfl (Or.inr rfl)) (pgs_cons (pg_name (i := 4) scPl.nd rfl (Or.inr rfl)) pgs_nil))))
      (pss_cons (ps_par (i := 5) (j := 6) rfl scPl.nd rfl rfl (by decide) rfl rfl (pa_cons (pe_lst pa_nil) (pa_cons (pe_op op_add pe_int (pe_call CT.G hr1 (by rfl) CT.m CT.kp CT.b .nil pass0 (pa_cons (pv 0) (pa_cons (pe_callB call_len_seq (by rfl) T.b.len PySem.boot_len (pa_cons (pv 3) pa_nil)) pa_nil)))) pa_nil)) (by rfl))
      (pss_cons (ps_for PassesOwn.never rfl (pi_range1 rfl T.b.range (pa_cons (pe_callB call_len_seq (by rfl) T.b.len PySem.boot_len (pa_cons (pv 3) pa_nil)) pa_nil)) (pg_name (i := 7) scPl.nd rfl (Or.inl rfl))
        (pss_cons (ps_set (i := 8) scPl.nd rfl (Or.inl rfl) (pe_op op_add pe_int (pe_call CT.G hr1 (by rfl) CT.m CT.kp CT.b .nil pass0 (pa_cons (pv 0) (pa_cons pe_int pa_nil)))))
        (pss_cons (ps_set (i := 9) scPl.nd rfl (Or.inl rfl) (pe_disp (pps_cons pe_str (pe_op op_add (pv 8) (pe_call CT.G hr1 (by rfl) CT.m CT.kp CT.b .nil pass0 (pa_cons (pv 0) (pa_cons (pe_op op_sub pe_int (pv 8)) pa_nil))))
            (pps_cons pe_str (pe_call CT.G hr1 (by rfl) CT.m CT.kp CT.b .nil pass0 (pa_cons (pv 0) (pa_cons (pv 8) pa_nil))) (pps_cons pe_str pe_int (pps_cons pe_str pe_int pps_nil)))) rfl rfl (by decide) (by decide)))
        (pss_cons (ps_set (i := 10) scPl.nd rfl (Or.inl rfl) (pe_dget u1 (pv 9) (pv 1) (fun _ _ => rfl)))
        (pss_cons (ps_set (i := 11) scPl.nd rfl (Or.inl rfl) (pe_ifExp (pt_cmpR op_gt (pv 7) pe_int (nomark _)) (pe_ix ix_tup (pv 3) (pe_op op_sub (pv 7) pe_int) (fun _ _ => rfl)) (pe_ix ix_tup (pv 3) (pe_op op_sub (pv 6) pe_int) (fun _ _ => rfl))))
        (pss_cons (ps_if (PW.pt (pw_and (pt_cmpR op_eq (pv 1) pe_str (nomark _)) (pw_and1 (pt_cmpR op_eq (pv 7) pe_int (nomark _)))))
          (pss_one (ps_par (i := 8) (j := 10) rfl scPl.nd rfl rfl (by decide) rfl rfl (pa_cons (pe_op op_add pe_int (pe_call CT.G hr1 (by rfl) CT.m CT.kp CT.b .nil pass0 (pa_cons (pv 0) (pa_cons pe_int pa_nil)))) (pa_cons pe_int pa_nil)) (by rfl))) pss_nil)
        (pss_cons (ps_set (i := 12) scPl.nd rfl (Or.inl rfl) (pe_lst (pa_cons (pe_tup (pa_cons (pe_tup (pa_cons pe_str (pa_cons (pv 11) (pa_cons (pv 8) (pa_cons (pv 10) (pa_cons pe_int pa_nil)))))) pa_nil)) pa_nil)))
        (pss_cons (ps_if (PW.pt (pw_or (pt_cmpR op_eq (pv 7) pe_int (nomark _)) (pw_or1 (PW.pt (pw_and (pt_cmpR op_eq (pv 1) pe_str (nomark _)) (pw_and1 (pt_cmpR op_eq (pe_call CT.G hr1 (by rfl) CT.m CT.kp CT.b .nil pass0 (pa_cons (pv 0) (pa_cons pe_int pa_nil))) pe_int (nomark _))))))))
          (pss_one (ps_expr (pe_bm PySem.F.plainAttrs_list PySem.F.slot_list_append PySem.F.type_list_append mt_append (pv 12) (pa_cons (pe_tup (pa_cons (pe_tup (pa_cons pe_str (pa_cons (pe_ifExp (pt_cmpR op_ne (pv 1) pe_str (nomark _)) (pe_ix ix_tup (pv 4) pe_int (fun _ _ => rfl)) (pe_ix ix_tup (pv 4) pe_int (fun _ _ => rfl)))
              (pa_cons (pe_call CT.G hr1 (by rfl) CT.m CT.kp CT.b .nil pass0 (pa_cons (pv 0) (pa_cons pe_int pa_nil))) (pa_cons pe_int pa_nil))))) pa_nil)) pa_nil)))) pss_nil)
        (pss_cons (ps_setLc (i := 12) (own := [("ground", 15)]) (g := gName 15) (by rfl) scPl.nd rfl rfl (sw_true rfl rfl rfl (by decide +kernel)) (pi_list (pv 12))
            (blkOk_by (own := [("ground", 15)]) (N := nmPl) (sc := defScope sPlanted) (by decide +kernel)) (fun _ _ _ _ _ => pg_name (i := 15) scPl.nd rfl (Or.inl rfl)) (fun _ _ _ _ _ => pts_nil)
            (fun _ _ _ _ _ => pe_callTy (T := "tuple") (r := rTupOf K) call_tupOf (by rfl) T.tup (by decide +kernel) (pa_cons (pe_callB (id := "sorted") (r := rSortN K w) (cr_sortN rfl hu) (by rfl) T.sor (by decide +kernel) (pa_cons (pe_callTy (T := "set") (r := rSetN K w) (cr_setN rfl hu) (by rfl) T.set (by decide +kernel)
              (pa_cons (pe_op op_cat (pe_callTy (T := "list") (r := rLstOf K) call_lstOf (by rfl) T.b.list (by decide +kernel) (pa_cons (pv 15) pa_nil)) (pe_call CO.G hr3 (by rfl) CO.m CO.kp CO.b .nil pass0 (pa_cons (pv 0) (pa_cons (pv 1) (pa_cons (pv 4) pa_nil))))) pa_nil)) pa_nil)) pa_nil)))
        (pss_one (ps_expr (pe_bm PySem.F.plainAttrs_list PySem.F.slot_list_append PySem.F.type_list_append mt_append (pv 5) (pa_cons (pe_lst (pa_cons (pe_ix ix_tup (pv 3) (pv 7) (fun _ _ => rfl)) (pa_cons (pe_op op_sub pe_int (pe_call CT.G hr1 (by rfl) CT.m CT.kp CT.b .nil pass0 (pa_cons (pv 0) (pa_cons pe_int pa_nil))))
            (pa_cons (pe_call C.G hr2 (by rfl) C.m C.kp C.b .nil pass0 (pa_cons (pv 0) (pa_cons (pe_lst (pa_cons pe_int (pa_cons pe_int (pa_cons pe_int (pa_cons pe_int pa_nil))))) pa_nil))) (pa_cons (pv 12) pa_nil))))) pa_nil)))))))))))))
      (pss_cons (ps_for PassesOwn.never rfl (pi_list (pe_op op_rep (pv 5) (pe_callTy call_int1 (by rfl) T.b.int (by decide +kernel) (pa_cons (pe_cmpR op_eq (pv 1) pe_str (nomark _)) pa_nil)))) (pg_name (i := 13) scPl.nd rfl (Or.inl rfl))
        (pss_one (ps_asg (pe_op op_cat (pe_ix ix_list (pv 13) pe_int (fun _ _ => rfl)) (pe_lc (own := [("k", 7)]) (g := gName 7) (by rfl) scPl.nd (pi_range1 rfl T.b.range (pa_cons (pe_call CT.G hr1 (by rfl) CT.m CT.kp CT.b .nil pass0 (pa_cons (pv 0) (pa_cons pe_int pa_nil))) pa_nil))
            (blkOk_by (own := [("k", 7)]) (N := nmPl) (sc := defScope sPlanted) (by decide +kernel)) (fun _ _ _ _ _ => pg_name (i := 7) scPl.nd rfl (Or.inl rfl)) (fun _ _ _ _ _ => pts_nil)
            (fun _ _ _ _ _ => pe_call CG.G hr5 (by rfl) CG.m CG.kp CG.b .nil pass0 (pa_cons (pv 0) (pa_cons (pv 4) (pa_cons (pv 3) pa_nil)))))) (pg_sub (pv 13) pe_int set_list))))
      (pss_cons (ps_setLc (i := 14) (own := [("name", 16), ("keep", 17), ("bar", 18), ("grounds", 12)]) (g := gLst K 4 (gCons (gName 16) (gCons (gName 17) (gCons (gName 18) (gCons (gName 12) gNil))))) (by rfl) scPl.nd rfl rfl (sw_true rfl rfl rfl (by decide +kernel)) (pi_list (pv 5))
            (blkOk_by (own := [("name", 16), ("keep", 17), ("bar", 18), ("grounds", 12)]) (N := nmPl) (sc := defScope sPlanted) (by decide +kernel)) (fun _ _ _ _ _ => pg_lst (t := gCons (gName 16) (gCons (gName 17) (gCons (gName 18) (gCons (gName 12) gNil)))) rfl (pgs_cons (pg_name (i := 16) scPl.nd rfl (Or.inl rfl)) (pgs_cons (pg_name (i := 17) scPl.nd rfl (Or.inl rfl)) (pgs_cons (pg_name (i := 18) scPl.nd rfl (Or.inl rfl)) (pgs_cons (pg_name (i := 12) scPl.nd rfl (Or.inl rfl)) pgs_nil))))) (fun _ _ _ _ _ => pts_nil)
            (fun _ _ _ _ _ => pe_tup (pa_cons (pv 16) (pa_cons (pv 17) (pa_cons (pv 18) (pa_cons (pe_callTy (T := "tuple") (r := rTupOf K) call_tupOf (by rfl) T.tup (by decide +kernel) (pa_cons (pe_callB (id := "sorted") (r := rSortN K w) (cr_sortN rfl hu) (by rfl) T.sor (by decide +kernel) (pa_cons (pe_callTy (T := "set") (r := rSetN K w) (cr_setN rfl hu) (by rfl) T.set (by decide +kernel)
              (pa_cons (pe_slice (r := rSlL K) sl_list (pv 12) po_none (po_some pe_int)) pa_nil)) pa_nil)) pa_nil)) pa_nil))))))
      (pss_one (ps_ret (pe_tup (pa_cons (pv 4) (pa_cons (pe_callTy call_tuple_of (by rfl) T.tup (by decide +kernel) (pa_cons (pv 14) pa_nil)) pa_nil)))))))))), ?_⟩
    have sz : ∀ {m : Nat}, m ≤ 900 → m ≤ sizeLine := fun h => Nat.le_of_lt (small1000 (by omega))
    refine ⟨_, rfl, _, rfl, _, rfl, bg, _, rfl, hB, by omega, by omega, fun z1 H1 E1 a0 a1 => ?_⟩
    refine ⟨_, _, rfl, rfl, bg, _, rfl, E1.bag, by omega, by omega, fun nt ns H2 E2 nnt ent hns lns => ?_⟩
    have E12 := E1.trans E2
    refine ⟨_, rfl, bg, 2, rfl, E12.bag, by decide, by decide, fun rt rs H4 E4 nrt ert hrs lrs => ?_⟩
    have E14 := E12.trans E4
    have ntb : nt ≠ bg := fun z => E1.bag.there (z ▸ nnt)
    have rtb : rt ≠ bg := fun z => E12.bag.there (z ▸ nrt)
    have ent4 := E4.keep nt _ ntb ent
    have nl : ns.length = (1 + z1).toNat := lns
    have rl : rs.length = 2 := lrs
    refine ⟨sz (by show 2 ≤ 900; decide), fun t nt' => ?_⟩
    refine ⟨t, _, rfl, SqT.of upd_same, by rfl, _, _, rfl, _, _, rfl, rfl, ?_⟩
    have E15 := E14.new (o := .tup [.ref nt, .ref rt]) nt'
    have e1 := same_upd (o := .tup [.ref nt, .ref rt]) nt' _ _ ent4
    have e2 := same_upd (o := .tup [.ref nt, .ref rt]) nt' _ _ ert
    generalize upd H4 t (.tup [.ref nt, .ref rt]) = H5 at E15 e1 e2 ⊢
    refine ⟨Nat.zero_le _, fun p np => ?_⟩
    have pH : H p = none := newAt E15 np
    have pb : p ≠ bg := fun z => hB.there (z ▸ pH)
    have E16 := E15.new (o := .lst []) np
    have e16 := same_upd (o := .lst []) np _ _ e1
    have e26 := same_upd (o := .lst []) np _ _ e2
    have p6 : (upd H5 p (.lst [])) p = some (.lst []) := upd_same
    generalize upd H5 p (.lst []) = H6 at E16 e16 e26 p6 ⊢
    refine ⟨_, rfl, _, rfl, nt, _, rfl, .inr (SqT.of e16), bg, _, rfl, E16.bag, by rw [List.length_map]; omega, by rw [List.length_map]; omega, fun ring H7 E7 r0 r1 => ?_⟩
    rw [List.length_map] at r1
    refine ⟨_, _, rfl, rfl, _, _, rfl, ?_⟩
    have E17 := E16.trans E7
    have f1 := E7.keep nt _ ntb e16
    have f2 := E7.keep rt _ rtb e26
    have f3 := E7.keep p _ pb p6
    refine ⟨_, rfl, nt, _, rfl, .inr (SqT.of f1), _, rfl, by omega, by rw [List.length_map]; omega, for_range (fun i σ' G => (∃ x7 x8 x9 x10 x11 x12 x13 x14 x15 x16 x17 x18 : Option V, σ' = [some (.ref bg), some (.str so), some (.int n), some (.ref nt), some (.ref rt), some (.ref p), some (.int (1 + ring)), x7, x8, x9, x10, x11, x12, x13, x14, x15, x16, x17, x18]) ∧
      Ext bg H G ∧ G nt = some (.tup (ns.map V.str)) ∧ G rt = some (.tup (rs.map V.str)) ∧ ∃ (ls : List Addr) (ds : List Kd), FAt H G bg p rs ns 2 ls ds ∧ ds.map Kd.name = ns.take i) ?_ ?_ ?_⟩
    · exact ⟨⟨_, _, _, _, _, _, _, _, _, _, _, _, rfl⟩, E17, f1, f2, [], [], ⟨f3, .nil, List.nodup_nil, fun _ z => nomatch z⟩, rfl⟩
    · rintro i σ' G hi ⟨⟨x7, x8, x9, x10, x11, x12, x13, x14, x15, x16, x17, x18, rfl⟩, E8, g1, g2, ls, ds, hF, en⟩
      rw [Int.toNat_natCast, List.length_map] at hi
      refine ⟨_, rfl, bg, 3, rfl, E8.bag, by decide, by decide, fun a G1 E9 a0 a1 => ?_⟩
      refine ⟨_, _, rfl, rfl, fun dd hdd => ?_⟩
      have E10 := E9.new (o := .dK []) hdd
      have ddb : dd ≠ bg := fun z => E9.bag.there (z ▸ hdd)
      refine ⟨_, rfl, _, rfl, _, rfl, _, _, rfl, rfl, bg, _, rfl, E10.bag, by omega, by omega, fun b G2 E11 b0 b1 => ?_⟩
      refine ⟨_, _, rfl, rfl, _, rfl, _, rfl, bg, _, rfl, E11.bag, by omega, by omega, fun c G3 E12 c0 c1 => ?_⟩
      have E13 := E11.trans E12
      refine ⟨E13.keep dd _ ddb upd_same, [(Sum.inr "ever", .int (1 + a + b)), (Sum.inr "longer", .int c), (Sum.inr "gone", .int 0), (Sum.inr "none", .int 2)], rfl, by show 4 ≤ 15; decide, ?_⟩
      obtain ⟨tl, etl, t0, t4⟩ : ∃ tl : Int, valV (mergeK [] [((Sum.inr "ever" : Key), V.int (1 + a + b)), (Sum.inr "longer", .int c), (Sum.inr "gone", .int 0), (Sum.inr "none", .int 2)]) (Sum.inr so) = some (.int tl) ∧ 0 ≤ tl ∧ tl ≤ 4 := by
        rcases hso with rfl | rfl | rfl | rfl
        · exact ⟨_, rfl, by omega, by omega⟩
        · exact ⟨_, rfl, by omega, by omega⟩
        · exact ⟨_, rfl, by omega, by omega⟩
        · exact ⟨_, rfl, by omega, by omega⟩
      refine ⟨_, rfl, _, rfl, dd, .int tl, rfl, by rw [← etl]; exact DGet.k (k := Sum.inr so) upd_same, ?_⟩
      have E14 : Ext bg G (upd G3 dd (.dK (mergeK [] [((Sum.inr "ever" : Key), V.int (1 + a + b)), (Sum.inr "longer", .int c), (Sum.inr "gone", .int 0), (Sum.inr "none", .int 2)]))) := Ext.write E8.bag (E10.trans E13) (newAt E9 hdd)
      generalize upd G3 dd (.dK (mergeK [] [((Sum.inr "ever" : Key), V.int (1 + a + b)), (Sum.inr "longer", .int c), (Sum.inr "gone", .int 0), (Sum.inr "none", .int 2)])) = G4 at E14 ⊢
      have g14 := E14.keep nt _ ntb g1
      have g24 := E14.keep rt _ rtb g2
      dsimp only [gName]
      refine seqGo (fun b' D' => ∀ x : Str, x ∈ ns → b' D' [some (.ref bg), some (.str so), some (.int n), some (.ref nt), some (.ref rt), some (.ref p), some (.int (1 + ring)), some (.int (0 + (i : Int))), some (.int (1 + a)), some (.ref dd), some (.int tl), some (.str x), x12, x13, x14, x15, x16, x17, x18] G4) (fun x hx => ?_) (fun rest => ?_)
      · refine seqGo (fun b' D' => ∀ (af te : Int) (G5 : Hp), Ext bg G G5 → 1 ≤ af → af ≤ 9 → 0 ≤ te → te ≤ 4 → b' D' [some (.ref bg), some (.str so), some (.int n), some (.ref nt), some (.ref rt), some (.ref p), some (.int (1 + ring)), some (.int (0 + (i : Int))), some (.int af), some (.ref dd), some (.int te), some (.str x), x12, x13, x14, x15, x16, x17, x18] G5) (fun af te G5 E15 af1 af9 te0 te4 => ?_) (fun rest => ?_)
        · refine ⟨_, rfl, _, rfl, _, rfl, sz (by show 5 ≤ 900; decide), fun na nna => ⟨sz (by show 1 ≤ 900; decide), fun ga nga => ⟨sz (by show 1 ≤ 900; decide), fun gl ngl => ?_⟩⟩⟩
          have S1 := same_upd (o := .tup [.str "kind", .str x, .int af, .int te, .int 9]) nna
          have S2 := KaG.Same.tr S1 (same_upd (o := .tup [.ref na]) nga)
          have S3 := KaG.Same.tr S2 (same_upd (o := .lst [.ref ga]) ngl)
          have y1 : (upd (upd (upd G5 na (.tup [.str "kind", .str x, .int af, .int te, .int 9])) ga (.tup [.ref na])) gl (.lst [.ref ga])) na = some (.tup [.str "kind", .str x, .int af, .int te, .int 9]) := KaG.Same.tr (same_upd nga) (same_upd ngl) _ _ upd_same
          have y2 : (upd (upd (upd G5 na (.tup [.str "kind", .str x, .int af, .int te, .int 9])) ga (.tup [.ref na])) gl (.lst [.ref ga])) ga = some (.tup [.ref na]) := same_upd ngl _ _ upd_same
          have y3 : (upd (upd (upd G5 na (.tup [.str "kind", .str x, .int af, .int te, .int 9])) ga (.tup [.ref na])) gl (.lst [.ref ga])) gl = some (.lst [.ref ga]) := upd_same
          have gl0 : G5 gl = none := by
            cases e : G5 gl with
            | none => rfl
            | some u => rw [S2 _ _ e] at ngl; cases ngl
          generalize upd (upd (upd G5 na (.tup [.str "kind", .str x, .int af, .int te, .int 9])) ga (.tup [.ref na])) gl (.lst [.ref ga]) = G6 at S3 y1 y2 y3 ⊢
          have E16 := E15.trans (Ext.of_same E15.bag S3)
          have glb : gl ≠ bg := fun z => E15.bag.there (z ▸ gl0)
          have glG : G gl = none := newAt E15 gl0
          have gs6 : GsAt G6 rs ns [ga] [[[.str "kind", .str x, .int af, .int te, .int 9]]] := ⟨.cons (grd_one y2 y1) .nil, fun g m => by
            rw [List.mem_singleton.mp m]
            refine ⟨by show 0 < 1; decide, by show 1 ≤ 3; decide, fun n2 m2 => ?_⟩
            rw [List.mem_singleton.mp m2]
            exact .kind x af te 9 hx af1 af9 te0 te4 (by decide) (by decide)⟩
          dsimp only [gName]
          refine seqGo (fun b' D' => ∀ (as : List Addr) (gs : List (List (List V))) (G7 : Hp), Ext bg G G7 → G7 gl = some (.lst (as.map V.ref)) → GsAt G7 rs ns as gs → (∀ g ∈ gs, g.length = 1) → gs.length ≤ 2 →
            b' D' [some (.ref bg), some (.str so), some (.int n), some (.ref nt), some (.ref rt), some (.ref p), some (.int (1 + ring)), some (.int (0 + (i : Int))), some (.int af), some (.ref dd), some (.int te), some (.str x), some (.ref gl), x13, x14, x15, x16, x17, x18] G7) (fun as gs G7 E17 ygl hgs one le2 => ?_) (fun rest => ?_)
          · have lenas := paired_len hgs.pr
            refine ⟨_, rfl, gl, rfl, ⟨_, SqL.of ygl⟩, fun D hD => lc_list (K := K) (a := gl) (xs := as.map V.ref) (fun j M => Ext bg G7 M ∧ ∃ (bs : List Addr) (hs : List (List (List V))), M D = some (.lst (bs.map V.ref)) ∧ GsAt M rs ns bs hs ∧ bs.length = j) ?_ ?_ ?_ ?_⟩
            · exact ⟨(Ext.of_same E17.bag Same.refl').new hD, [], [], upd_same, GsAt.nil, rfl⟩
            · rintro j M _ ⟨E18, _⟩
              exact SqL.of (E18.keep gl _ glb ygl)
            · rintro j v M hv ⟨E18, bs, hs, mD, hh, lb⟩
              rw [List.getElem?_map] at hv
              obtain ⟨a2, ha2, rfl⟩ := Option.map_eq_some_iff.mp hv
              obtain ⟨g, hg, nsA, z1', z2'⟩ := paired_at hgs.pr ha2
              have og := hgs.ok g (List.mem_of_getElem? hg)
              have g1' := one g (List.mem_of_getElem? hg)
              have hj : j < as.length := (List.getElem?_eq_some_iff.mp ha2).1
              have ts7 := TSame.ext E17.bag E18
              have Db : D ≠ bg := fun z => E17.bag.there (z ▸ hD)
              refine ⟨rfl, ?_⟩
              unfold tYes
              dsimp only
              refine iteT ⟨_, rfl, a2, _, rfl, .inr (SqT.of (ts7 _ _ z1')), fun l nl' => ?_⟩
              have E19 := E18.new (o := .lst (nsA.map V.ref)) nl'
              have lb' : l ≠ bg := fun z => E18.bag.there (z ▸ nl')
              refine ⟨_, rfl, _, rfl, _, rfl, bg, rt, .str so, rs, rfl, E19.bag, rtb, (E17.trans E19).keep rt _ rtb g2, rl, fun p2 xs M2 E20 np2 ep2 hxs => ?_⟩
              have ml := E20.keep l _ lb' upd_same
              have E21 : Ext bg G7 M2 := E19.trans E20
              have mD2 : M2 D = some (.lst (bs.map V.ref)) := E20.keep D _ Db (same_upd nl' _ _ mD)
              obtain ⟨qs, its, ex, hq, lq⟩ : ∃ (qs : List Addr) (its : List (List V)), xs = qs.map V.ref ∧ Paired (fun n2 it => M2 n2 = some (.tup it)) qs its ∧ its.length ≤ 1 ∧ ∀ it ∈ its, NeedV rs ns it := by
                rcases hxs with e | ⟨q, it, e, _, hq, hn⟩
                · exact ⟨[], [], e, .nil, by decide, fun _ m => (by cases m)⟩
                · exact ⟨[q], [it], e, .cons hq .nil, Nat.le_refl _, fun it' m => by rw [List.mem_singleton.mp m]; exact hn ns⟩
              subst ex
              have pq := paired_len hq
              have pz := paired_len z2'
              refine ⟨l, p2, _, _, rfl, rfl, ml, ep2, sz (by rw [List.length_map, List.length_map]; omega), fun r nr => ?_⟩
              have S4 := same_upd (o := .lst (nsA.map V.ref ++ qs.map V.ref)) nr
              have ts8 : TSame G7 M2 := TSame.ext E17.bag E21
              dsimp only [tCB, tCons, tNil]
              have mem : ∀ n2 ∈ g ++ its, NeedV rs ns n2 := fun n2 m => (List.mem_append.mp m).elim (og.2.2 n2) (lq.2 n2)
              refine order_needs (K := K) (w := w) (rows := rs) (names := ns) (as := nsA ++ qs) (g := g ++ its) (by rw [List.map_append]; exact .inl (SqL.of upd_same))
                (paired_app (Paired.mono' (fun _ _ q => S4 _ _ (ts8 _ _ q)) z2') (Paired.mono' (fun _ _ q => S4 _ _ q) hq)) mem (by rw [List.length_append]; have := lq.1; omega) fun a3 g3 M3 S5 na3 ha3 sub3 pos3 le3 => ?_
              have S45 := KaG.Same.tr S4 S5
              have mD3 := S45 _ _ mD2
              rw [List.length_append] at pos3 le3
              refine ⟨_, mD3, small1000 (by rw [List.length_map]; omega), Ext.write E17.bag (E21.trans (Ext.of_same E21.bag S45)) hD, bs ++ [a3], hs ++ [g3], by rw [upd_same, List.map_append]; rfl, ?_, by rw [List.length_append, lb]; rfl⟩
              have ts9 : TSame M M3 := ((same_ts_new nl').tr (TSame.ext E19.bag E20)).tr (TSame.of S45)
              exact (((hh.ts ts9).snoc ha3 ⟨pos3 (by omega), by have := lq.1; omega, fun n2 m => mem n2 (sub3 n2 m)⟩)).ts (ts_lst mD3)
            · rintro M ⟨E18, bs, hs, mD, hh, lb⟩
              rw [List.length_map] at lb
              have E19 := E17.trans E18
              have hFm := hF.ext pb E8.bag E19
              have hni : ns[i]? = some ns[i] := List.getElem?_eq_getElem hi
              have Db : D ≠ bg := fun z => E17.bag.there (z ▸ hD)
              have Dp : D ≠ p := fun z => by rw [z, (hF.ext pb E8.bag E17).at_] at hD; cases hD
              refine ⟨_, rfl, .inl ⟨rfl, _, SqL.of hFm.at_⟩, _, rfl, _, rfl, nt, _, _, .str ns[i], rfl, rfl, SqT.of (E19.keep nt _ ntb g1), by rw [Int.zero_add]; exact atI_nat (by rw [List.getElem?_map, hni]; rfl), ?_⟩
              refine ⟨_, rfl, bg, 2, rfl, E18.bag, by decide, by decide, fun y1 M1 E20 c0 c1 => ?_⟩
              refine ⟨_, _, rfl, rfl, _, rfl, sz (by show 4 ≤ 900; decide), fun q2 nq2 => ?_⟩
              have E21 := E20.new (o := .lst [.int 0, .int 0, .int 1, .int 3]) nq2
              have q2b : q2 ≠ bg := fun z => E20.bag.there (z ▸ nq2)
              refine ⟨bg, q2, _, rfl, E21.bag, q2b, .inl upd_same, by decide, by decide, fun v2 M2 mv2 E22 => ?_⟩
              obtain ⟨bar, rfl, bar0, bar3⟩ := ints_in (ns := [0, 0, 1, 3]) (lo := 0) (hi := 3) (by decide) mv2
              have E23 := E21.trans E22
              refine ⟨_, rfl, sz (by show 4 ≤ 900; decide), fun l nl' => ?_⟩
              have E24 := E23.new (o := .lst [.str ns[i], .int (8 - y1), .int bar, .ref D]) nl'
              have hFz := hFm.ext pb E18.bag E24
              have mDz := E24.keep D _ Db mD
              have ltz : (upd M2 l (.lst [.str ns[i], .int (8 - y1), .int bar, .ref D])) l = some (.lst [.str ns[i], .int (8 - y1), .int bar, .ref D]) := upd_same
              have E25 := E8.trans (E19.trans E24)
              have lH : H l = none := newAt ((E8.trans E19).trans E23) nl'
              have lb' : l ≠ bg := fun z => hB.there (z ▸ lH)
              have lp' : l ≠ p := fun z => by rw [z, (hFm.ext pb E18.bag E23).at_] at nl'; cases nl'
              have lls : l ∉ ls := fun m => by
                have there := paired_there (C := fun l => M2 l ≠ none) (fun l d ⟨gl, as, q⟩ => by rw [q.at_]; exact fun z => nomatch z) (hFm.ext pb E18.bag E23).pr l m
                exact there nl'
              generalize upd M2 l (.lst [.str ns[i], .int (8 - y1), .int bar, .ref D]) = M3 at E24 hFz mDz ltz E25 ⊢
              have lds : ls.length ≤ 5 := by
                have h1 := paired_len hF.pr
                have h2 := congrArg List.length en
                rw [List.length_map, List.length_take] at h2
                omega
              refine ⟨p, _, _, rfl, rfl, hFz.at_, small1000 (by rw [List.length_map]; omega), ?_⟩
              have tsl := ts_lst (ys := ls.map V.ref ++ [.ref l]) hFz.at_
              have lenh := paired_len hh.pr
              refine ⟨⟨_, _, _, _, _, _, _, _, _, _, _, _, rfl⟩, Ext.write hB E25 pH, tsl _ _ (E24.keep nt _ ntb (E19.keep nt _ ntb g1)), tsl _ _ (E24.keep rt _ rtb (E19.keep rt _ rtb g2)), ls ++ [l], ds ++ [⟨ns[i], 8 - y1, bar, hs⟩], ?_, ?_⟩
              · refine hFz.snoc ⟨D, bs, ltz, mDz, hh.ts (TSame.ext E18.bag E24), lH, lb', lp', Db, Dp⟩ ⟨?_, ?_, bar0, ?_, ?_⟩ lls
                · show 1 ≤ 8 - y1; omega
                · show 8 - y1 ≤ 8; omega
                · show bar ≤ 12; omega
                · show hs.length ≤ 2; omega
              · rw [List.map_append, en, List.take_add_one, hni]; rfl
          · refine ifGo (fun M => Ext bg G6 M) (fun M EM => ?_) (fun M EM => ?_) (fun Q' q => ?_)
            · have g2M := (E16.trans EM).keep rt _ rtb g2
              have ygM := EM.keep gl _ glb y3
              refine ⟨_, rfl, .inl ⟨rfl, _, SqL.of ygM⟩, ?_⟩
              dsimp only [tCons, tTup, tC, tNil]
              refine pickGo (fun v => ∃ z ∈ rs, v = V.str z) (fun v ⟨xr, hxr, ev⟩ => ?_) (fun Q' q => ⟨_, rfl, rfl, _, rfl, q _⟩) (fun Q' q => ?_) (fun Q' q => ?_)
              · subst ev
                refine ⟨_, rfl, bg, 5, rfl, EM.bag, by decide, by decide, fun y2 M1 E17 d0 d1 => ?_⟩
                refine ⟨sz (by show 4 ≤ 900; decide), fun nb nnb => ⟨sz (by show 1 ≤ 900; decide), fun gb ngb => ?_⟩⟩
                have yg1 := E17.keep gl _ glb ygM
                have T1 := same_upd (o := .tup [.str "row", .str xr, .int y2, .int 9]) nnb
                have T2 := same_upd (o := .tup [.ref nb]) ngb
                have T12 := KaG.Same.tr T1 T2
                have yg2 := T12 _ _ yg1
                refine ⟨gl, _, _, rfl, rfl, yg2, small1000 (by show 1 ≤ 1000; decide), ?_⟩
                have tsl := ts_lst (ys := [V.ref ga] ++ [V.ref gb]) yg2
                have E18 := E17.trans (Ext.of_same E17.bag T12)
                have tsM : TSame M (upd (upd M1 nb (.tup [.str "row", .str xr, .int y2, .int 9])) gb (.tup [.ref nb])) := TSame.ext EM.bag E18
                refine rest [ga, gb] [[[.str "kind", .str x, .int af, .int te, .int 9]], [[.str "row", .str xr, .int y2, .int 9]]] _ (Ext.write E8.bag (E16.trans (EM.trans E18)) glG) upd_same ?_ (fun g m => ?_) (by show 2 ≤ 2; decide)
                · refine GsAt.ts (GsAt.snoc (as := [ga]) (gs := [[[.str "kind", .str x, .int af, .int te, .int 9]]]) ((gs6.ts (TSame.ext E16.bag EM)).ts tsM) (grd_one upd_same (T2 _ _ upd_same)) ⟨by show 0 < 1; decide, by show 1 ≤ 3; decide, fun n2 m2 => ?_⟩) tsl
                  rw [List.mem_singleton.mp m2]
                  exact .row xr y2 9 hxr d0 (by omega) (by decide) (by decide)
                · rcases List.mem_cons.mp m with c | c
                  · rw [c]; rfl
                  · rw [List.mem_singleton.mp c]; rfl
              · obtain ⟨z, hz, ez⟩ := at_str (ns := rs) (z := 0) (by decide) (by omega)
                exact ⟨_, rfl, rt, _, 0, .str z, rfl, rfl, SqT.of g2M, ez, q _ ⟨z, hz, rfl⟩⟩
              · obtain ⟨z, hz, ez⟩ := at_str (ns := rs) (z := 1) (by decide) (by omega)
                exact ⟨_, rfl, rt, _, 1, .str z, rfl, rfl, SqT.of g2M, ez, q _ ⟨z, hz, rfl⟩⟩
            · exact rest [ga] _ M (E16.trans EM) (EM.keep gl _ glb y3) (gs6.ts (TSame.ext E16.bag EM)) (fun g m => by rw [List.mem_singleton.mp m]; rfl) (by show 1 ≤ 2; decide)
            · have r0' : Ext bg G6 G6 := Ext.of_same E16.bag Same.refl'
              refine ⟨_, rfl, rfl, _, rfl, ite2 (fun h1 => q _ _ r0') fun h1 => ?_⟩
              refine ⟨_, rfl, rfl, _, rfl, ite2 (fun h2 => ?_) fun h2 => q _ _ r0'⟩
              exact ⟨_, rfl, bg, 3, rfl, E16.bag, by decide, by decide, fun y M E c0 c1 => ⟨rfl, _, rfl, q _ _ E⟩⟩
        · refine ifGo (fun M => M = G4) (fun M EM => ?_) (fun M EM => ?_) (fun Q' q => ?_)
          · subst EM
            refine ⟨_, rfl, bg, 2, rfl, E14.bag, by decide, by decide, fun y M E15 c0 c1 => ?_⟩
            refine ⟨_, _, rfl, rfl, _, _, rfl, ?_⟩
            exact rest (2 + y) 1 M (E14.trans E15) (by omega) (by omega) (by decide) (by decide)
          · subst EM
            exact rest (1 + a) tl M E14 (by omega) (by omega) t0 t4
          · refine ⟨_, rfl, rfl, _, rfl, ite2 (fun h1 => ?_) fun h1 => ?_⟩
            · exact ⟨_, rfl, rfl, _, rfl, q _ _ rfl⟩
            · exact q _ _ rfl
      · refine ⟨_, rfl, _, _, rfl, rfl, _, rfl, ite2 (fun hc => ?_) fun hc => ?_⟩
        · have hc2 : (0 : Int) < 0 + (i : Int) := by simpa using hc
          obtain ⟨x, hx, ex⟩ := at_str (ns := ns) (z := 0 + (i : Int) - 1) (by omega) (by omega)
          exact ⟨_, rfl, _, rfl, _, _, rfl, rfl, nt, _, _, .str x, rfl, rfl, SqT.of g14, ex, rest x hx⟩
        · obtain ⟨x, hx, ex⟩ := at_str (ns := ns) (z := 1 + ring - 1) (by omega) (by omega)
          exact ⟨_, rfl, _, rfl, _, _, rfl, rfl, nt, _, _, .str x, rfl, rfl, SqT.of g14, ex, rest x hx⟩
    · rintro σ' G ⟨⟨x7, x8, x9, x10, x11, x12, x13, x14, x15, x16, x17, x18, rfl⟩, E8, g1, g2, ls, ds, hF, en⟩
      rw [Int.toNat_natCast, List.length_map, List.take_length] at en
      have hll : ls.length ≤ 5 := by
        have h1 := paired_len hF.pr
        have h2 := congrArg List.length en
        rw [List.length_map] at h2
        omega
      refine ⟨_, rfl, _, rfl, rfl, .inr ⟨_, rfl, p, _, ls.map V.ref, rfl, rfl, hF.at_, ?_, ?_, ?_, fun c nc => ?_⟩⟩
      · split <;> decide
      · split <;> decide
      · rw [List.length_map]
        split
        · exact sz (by show _ * 1 ≤ 900; omega)
        · exact sz (by show _ * 0 ≤ 900; omega)
      obtain ⟨ls2, els2, sub2, nd2⟩ : ∃ ls2 : List Addr, (List.replicate (if decide (V.str so = V.str "ever") = true then (1 : Int) else 0).toNat (ls.map V.ref)).flatten = ls2.map V.ref ∧ (∀ l ∈ ls2, l ∈ ls) ∧ ls2.length ≤ 5 := by
        split
        · exact ⟨ls, by show (List.replicate 1 (ls.map V.ref)).flatten = _; simp, fun _ m => m, hll⟩
        · exact ⟨[], by show (List.replicate 0 (ls.map V.ref)).flatten = _; simp, fun _ m => (by cases m), by decide⟩
      rw [els2]
      have E9 := E8.new (o := .lst (ls2.map V.ref)) nc
      have j1 := same_upd (o := .lst (ls2.map V.ref)) nc _ _ g1
      have j2 := same_upd (o := .lst (ls2.map V.ref)) nc _ _ g2
      have jF := hF.ext pb E8.bag (Ext.of_same E8.bag (same_upd (o := .lst (ls2.map V.ref)) nc))
      have jc : (upd G c (.lst (ls2.map V.ref))) c = some (.lst (ls2.map V.ref)) := upd_same
      have cb : c ≠ bg := fun z => E8.bag.there (z ▸ nc)
      have cp : c ≠ p := fun z => by rw [z, hF.at_] at nc; cases nc
      generalize upd G c (.lst (ls2.map V.ref)) = G9 at E9 j1 j2 jF jc ⊢
      refine ⟨c, rfl, ⟨_, SqL.of jc⟩, for_list (K := K) (a := c) (xs := ls2.map V.ref) (fun i σ' J => (∃ x7 x8 x9 x10 x11 x12 x13 x14 x15 x16 x17 x18 : Option V, σ' = [some (.ref bg), some (.str so), some (.int n), some (.ref nt), some (.ref rt), some (.ref p), some (.int (1 + ring)), x7, x8, x9, x10, x11, x12, x13, x14, x15, x16, x17, x18]) ∧
        Ext bg H J ∧ J nt = some (.tup (ns.map V.str)) ∧ J rt = some (.tup (rs.map V.str)) ∧ J c = some (.lst (ls2.map V.ref)) ∧ ∃ ds2 : List Kd, FAt H J bg p rs ns (2 + 2 * i) ls ds2 ∧ ds2.map Kd.name = ns) ?_ ?_ ?_ ?_⟩
      · exact ⟨⟨_, _, _, _, _, _, _, _, _, _, _, _, rfl⟩, E9, j1, j2, jc, ds, jF, en⟩
      · rintro i σ' J _ ⟨_, _, _, _, jc, _⟩
        exact SqL.of jc
      · rintro i x σ' J hx ⟨⟨x7, x8, x9, x10, x11, x12, x13, x14, x15, x16, x17, x18, rfl⟩, E10, h1, h2, hc, ds2, hF2, en2⟩
        rw [List.getElem?_map] at hx
        obtain ⟨l, hl0, rfl⟩ := Option.map_eq_some_iff.mp hx
        have hi5 : i < ls2.length := (List.getElem?_eq_some_iff.mp hl0).1
        obtain ⟨j, hl⟩ := List.mem_iff_getElem?.mp (sub2 l (List.mem_of_getElem? hl0))
        obtain ⟨d, hd, gl, as, q⟩ := paired_at hF2.pr hl
        have od := hF2.ok d (List.mem_of_getElem? hd)
        have lenas := paired_len q.gs.pr
        refine ⟨_, rfl, l, _, 3, .ref gl, rfl, rfl, SqL.of q.at_, rfl, _, rfl, bg, 3, rfl, E10.bag, by decide, by decide, fun z J1 E11 z0 z1 => ?_⟩
        refine ⟨z, rfl, by omega, by omega, fun D hD => lc_range (fun y M => Ext bg J1 M ∧ ∃ (bs : List Addr) (gs : List (List (List V))), bs.length = y ∧ M D = some (.lst (bs.map V.ref)) ∧ GsAt M rs ns bs gs) ?_ ?_ ?_⟩
        · exact ⟨(Ext.of_same E11.bag Same.refl').new hD, [], [], rfl, upd_same, GsAt.nil⟩
        · rintro y M hy ⟨E12, bs, gs, lb, mD, hg⟩
          refine ⟨rfl, ?_⟩
          unfold tYes
          dsimp only
          have Db : D ≠ bg := fun z => E11.bag.there (z ▸ hD)
          refine iteT ⟨_, rfl, _, rfl, _, rfl, bg, rt, nt, rs, ns, rfl, E12.bag, rtb, ntb, E12.keep rt _ rtb (E11.keep rt _ rtb h2), E12.keep nt _ ntb (E11.keep nt _ ntb h1), by omega, by omega, by omega, by omega, fun a g M3 E13 na ha p1 p2 p3 => ?_⟩
          have mD3 := E13.keep D _ Db mD
          refine ⟨_, mD3, small1000 (by rw [List.length_map]; omega), ?_, bs ++ [a], gs ++ [g], by rw [List.length_append, lb]; rfl, by rw [upd_same, List.map_append]; rfl, ?_⟩
          · exact Ext.write E11.bag (E12.trans E13) hD
          · exact ((hg.ts (TSame.ext E12.bag E13)).snoc ha ⟨p1, p2, p3⟩).ts (ts_lst mD3)
        · rintro M ⟨E12, bs, gs, lb, mD, hg⟩
          have E13 := E11.trans E12
          have E14 := E10.trans E13
          have mgl := E13.keep gl _ q.gb q.gat
          have ml := E13.keep l _ q.lb q.at_
          have hF3 := hF2.ext pb E10.bag E13
          have lbs := paired_len hg.pr
          refine ⟨gl, D, _, _, rfl, rfl, mgl, mD, sz (by rw [List.length_map, List.length_map]; have := od.2.2.2.2; omega), fun r nr => ?_⟩
          have S1 := same_upd (o := .lst (as.map V.ref ++ bs.map V.ref)) nr
          have rb : r ≠ bg := fun z => E14.bag.there (z ▸ nr)
          have rp : r ≠ p := fun z => by rw [z, hF3.at_] at nr; cases nr
          have ml2 := S1 _ _ ml
          have gsx : GsAt (upd M r (.lst (as.map V.ref ++ bs.map V.ref))) rs ns (as ++ bs) (d.gs ++ gs) := by
            have w1 := (q.gs.ts (TSame.ext E10.bag E13)).ts (TSame.of S1)
            have w2 := hg.ts (TSame.of S1)
            exact ⟨paired_app w1.pr w2.pr, fun g m => (List.mem_append.mp m).elim (w1.ok g) (w2.ok g)⟩
          have hF4 := (hF3.ext pb E14.bag (Ext.of_same E14.bag S1)).wide (show 2 + 2 * i ≤ 2 + 2 * (i + 1) by omega)
          have lc : l ≠ c := (lst_ne (E13.keep c _ cb hc) ml).symm
          refine ⟨_, rfl, l, _, 3, 3, rfl, rfl, ml2, rfl, ?_⟩
          have fin := hF4.put (q := r) (as := as ++ bs) (gs := d.gs ++ gs) hl hd (by rw [upd_same, List.map_append]) gsx rb rp (by rw [List.length_append]; have := od.2.2.2.2; omega)
          have tsl := ts_lst (ys := [V.str d.name, .int d.keep, .int d.bar, .ref r]) ml2
          refine ⟨⟨_, _, _, _, _, _, _, _, _, _, _, _, rfl⟩, ?_, tsl _ _ (S1 _ _ (E13.keep nt _ ntb h1)), tsl _ _ (S1 _ _ (E13.keep rt _ rtb h2)), ?_, ds2.set j { d with gs := d.gs ++ gs }, fin, ?_⟩
          · exact Ext.write hB (E14.trans (Ext.of_same E14.bag S1)) q.ln
          · show upd _ l _ c = _
            rw [upd_ne lc.symm]
            exact S1 _ _ (E13.keep c _ cb hc)
          · rw [List.map_set, en2]
            have nsj : ns[j]? = some d.name := by rw [← en2, List.getElem?_map, hd]; rfl
            exact set_same nsj
      · rintro σ' J ⟨⟨x7, x8, x9, x10, x11, x12, x13, x14, x15, x16, x17, x18, rfl⟩, E10, h1, h2, hc, ds2, hF2, en2⟩
        rw [List.length_map] at hF2
        have dl : ds2.length = ns.length := by rw [← en2, List.length_map]
        refine ⟨_, rfl, p, rfl, ⟨_, SqL.of hF2.at_⟩, fun D hD => lc_list (K := K) (a := p) (xs := ls.map V.ref) (fun i M => Same J M ∧ ∃ (kas : List Addr) (ks : List Kd), M D = some (.lst (kas.map V.ref)) ∧ KsAt M rs ns kas ks ∧ ks.map Kd.name = ns.take i) ?_ ?_ ?_ ?_⟩
        · exact ⟨same_upd hD, [], [], upd_same, ⟨.nil, fun _ z => nomatch z⟩, rfl⟩
        · rintro i M _ ⟨S, _⟩
          exact SqL.of (S _ _ hF2.at_)
        · rintro i x M hx ⟨S, kas, ks, mD, hk, ek⟩
          rw [List.getElem?_map] at hx
          obtain ⟨l, hl, rfl⟩ := Option.map_eq_some_iff.mp hx
          obtain ⟨d, hd, gl, as, q⟩ := paired_at hF2.pr hl
          have od := hF2.ok d (List.mem_of_getElem? hd)
          refine ⟨l, _, rfl, SqL.of (S _ _ q.at_), rfl, _, _, rfl, _, _, rfl, _, _, rfl, _, _, rfl, rfl, rfl, ?_⟩
          unfold tYes
          dsimp only
          refine iteT ⟨_, rfl, _, rfl, _, rfl, _, rfl, _, rfl, _, _, rfl, SqL.of (S _ _ q.gat), fun r nr => ?_⟩
          rw [cut_to _ 4 (by decide), ← List.map_take, show (4 : Int).toNat = 4 from rfl]
          dsimp only [tCB, tCons, tNil]
          have gsr := ((q.gs.ts (TSame.of S)).cut 4).ts (same_ts_new (o := .lst ((as.take 4).map V.ref)) nr)
          refine order_grounds (K := K) (w := w) (rows := rs) (names := ns) (.inl (SqL.of upd_same)) gsr.pr (fun g m => ⟨(gsr.ok g m).1, (gsr.ok g m).2.2⟩) (by rw [List.length_take]; omega) fun a2 bs2 gs2 M2 S2 na2 ea2 pr2 sub le => ?_
          refine ⟨sz (by show 4 ≤ 900; decide), fun ka nka => ?_⟩
          have S01 : Same M M2 := KaG.Same.tr (same_upd nr) S2
          have S3 := same_upd (o := .tup [.str d.name, .int d.keep, .int d.bar, .ref a2]) nka
          have mD3 := S3 _ _ (S01 _ _ mD)
          have S03 := KaG.Same.tr S01 S3
          have nsi : ns[i]? = some d.name := by rw [← en2, List.getElem?_map, hd]; rfl
          have hik : ks.length ≤ 5 := by
            have := congrArg List.length ek
            rw [List.length_map, List.length_take] at this
            omega
          refine ⟨_, mD3, small1000 (by rw [List.length_map, paired_len hk.pr]; omega), ?_, kas ++ [ka], ks ++ [⟨d.name, d.keep, d.bar, gs2⟩], by rw [upd_same, List.map_append]; rfl, ?_, ?_⟩
          · exact fun b u e => by rw [upd_ne (ne_of_none e hD)]; exact S03 b u (S b u e)
          · refine ((hk.ts (TSame.of S03)).snoc ?_ ?_).ts (ts_lst mD3)
            · exact ⟨a2, bs2, upd_same, S3 _ _ ea2, Paired.mono' (fun a b z => Grd.ts z (TSame.of S3)) pr2⟩
            · refine ⟨⟨od.1, od.2.1, od.2.2.1, od.2.2.2.1, ?_⟩, fun g m => gsr.ok g (sub g m)⟩
              have := List.length_take (i := 4) (l := d.gs)
              show gs2.length ≤ 4
              omega
          · rw [List.map_append, ek, List.take_add_one, nsi]; rfl
        · rintro M ⟨S, kas, ks, mD, hk, ek⟩
          rw [List.length_map, ← paired_len hF2.pr |>.symm, dl, List.take_length] at ek
          refine ⟨_, rfl, _, rfl, D, _, rfl, .inl ⟨SqL.of mD, fun q nq => ?_⟩⟩
          refine ⟨sz (by show 2 ≤ 900; decide), fun b nb => ?_⟩
          have S1 := KaG.Same.tr S (same_upd (o := .tup (kas.map V.ref)) nq)
          have S2 := KaG.Same.tr S1 (same_upd (o := .tup [.ref rt, .ref q]) nb)
          have S3 := KaG.Same.tr (same_upd (o := .tup (kas.map V.ref)) nq) (same_upd (o := .tup [.ref rt, .ref q]) nb)
          refine k b rs ks _ (E10.trans (Ext.of_same E10.bag S2)) (newAt (E10.trans (Ext.of_same E10.bag S1)) nb) (by omega) ⟨rt, q, kas, upd_same, S2 _ _ h2, same_upd nb _ _ upd_same, (hk.ts (TSame.of S3)).pr⟩ ?_
          exact book_ok hrs hns (by omega) (by omega) (by omega) ek hk.ok
end
end KaG


set_option maxRecDepth 100000
set_option maxHeartbeats 4000000
namespace KaG
open PySem PySem.Spec PyProof.Rows L2 KaN
/-- the dict of least tells -/
def LdOk (kvs : List (Key × V)) (ns : List Str) : Prop := ∀ x ∈ ns, ∃ v : Int, valV kvs (Sum.inr x) = some (.int v) ∧ 1 ≤ v ∧ v ≤ 3
theorem ld_ok {kvs : List (Key × V)} {ns : List Str} (nd : ns.Nodup) (e : kvs.map (·.1) = ns.map Sum.inr) (h : ∀ kv ∈ kvs, ∃ v : Int, kv.2 = .int v ∧ 1 ≤ v ∧ v ≤ 3) : LdOk kvs ns := fun x hx => by
  have m : (Sum.inr x : Key) ∈ kvs.map (·.1) := by rw [e]; exact List.mem_map.mpr ⟨x, hx, rfl⟩
  obtain ⟨kv, hkv, ek⟩ := List.mem_map.mp m
  obtain ⟨v, ev, v1, v3⟩ := h kv hkv
  have nk : (kvs.map (·.1)).Nodup := by rw [e]; exact List.pairwise_map.mpr (nd.imp fun h z => h (Sum.inr.inj z))
  have q := valV_in nk hkv
  rw [ek, ev] at q
  exact ⟨v, q, v1, v3⟩
section
variable {P : Program} {w : World} {K : PySem.W.Frag} {mg : Str → Option Value} {base : Heap}
abbrev nmTh : List Str := ["bag", "kinds", "names", "rows", "name", "least", "found", "k", "grounds", "giver", "tell", "ground"]
theorem scTh : FnScope nmTh ["bag", "kinds"] (defScope sThreaded) := ⟨rfl, rfl, rfl, by decide +kernel, rfl, by decide +kernel, by decide +kernel⟩
def spTh : Sp := fun vs H Q _ => ∃ (bg : Addr) (n : Int), vs = [.ref bg, .int n] ∧ Bag H bg ∧ 1 ≤ n ∧ n ≤ 5 ∧ spBook H bg Q
theorem ok_th {f fM fX fS fT : Addr} {fd fdM fdX fdS fdT : FuncData} (F : Fun K "_law_threaded" "_law_threaded" sThreaded f fd) (T : TxtC mg) (CN : Ct P w K mg base "_law_named" 3 ["bag", "many"] spNamed fM fdM) (CX : Ct P w K mg base "_law_mixed" 2 ["bag", "things"] spMixed fX fdX)
    (C : Ct P w K mg base "_law_some" 2 ["bag", "things"] spSome2 fS fdS) (CT : Ct P w K mg base "_law_take" 1 ["bag", "upto"] spTake fT fdT) : FnOk P w K mg base CX0 6 f fd ["bag", "kinds"] spTh := by
  refine F.ok scTh (fun vs H Q E h => ?_) (fun cdv A outer s H vs Q E hr h => ?_)
  · obtain ⟨bg, n, rfl, _⟩ := h
    rfl
  · obtain ⟨bg, n, rfl, hB, n1, n5, k⟩ := h
    have hr3 : Room 3 (A.deeper (envOfC "_law_threaded" (defScope sThreaded) s.heap.objs.size f cdv)) := hr.mono (by decide)
    have hr2 : Room 2 (A.deeper (envOfC "_law_threaded" (defScope sThreaded) s.heap.objs.size f cdv)) := hr.mono (by decide)
    have hr1 : Room 1 (A.deeper (envOfC "_law_threaded" (defScope sThreaded) s.heap.objs.size f cdv)) := hr.mono (by decide)
    have hu : (A.deeper (envOfC "_law_threaded" (defScope sThreaded) s.heap.objs.size f cdv)).units + 64 < cLine := by have := hr.3; omega
    have u1 : (A.deeper (envOfC "_law_threaded" (defScope sThreaded) s.heap.objs.size f cdv)).units + 1 < cLine := by have := hr.3; omega
    refine ⟨_, (pss_cons (ps_asg (pe_tup (pa_cons (pe_call CN.G hr3 (by rfl) CN.m CN.kp CN.b .nil pass0 (pa_cons (pv 0) (pa_cons (pe_op op_add pe_int (pe_call CT.G hr1 (by rfl) CT.m CT.kp CT.b .nil pass0 (pa_cons (pv 0) (pa_cons (pv 1) pa_nil)))) pa_nil)))
          (pa_cons (pe_call CN.G hr3 (by rfl) CN.m CN.kp CN.b .nil pass0 (pa_cons (pv 0) (pa_cons pe_int pa_nil))) pa_nil)))
          (pg_tup (by rfl) (pgs_cons (pg_name (i := 2) scTh.nd rfl (Or.inl rfl)) (pgs_cons (pg_name (i := 3) scTh.nd rfl (Or.inr rfl)) pgs_nil))))
      (pss_cons (ps_par (i := 5) (j := 6) rfl scTh.nd rfl rfl (by decide) rfl rfl (pa_cons (pe_callTy (call_dictP rfl) (by rfl) T.dct (by decide +kernel) (pa_cons (pe_lc (own := [("name", 4)]) (g := gName 4) (by rfl) scTh.nd (pi_tup (pv 2))
          (blkOk_by (own := [("name", 4)]) (N := nmTh) (sc := defScope sThreaded) (by decide +kernel)) (fun _ _ _ _ _ => pg_name (i := 4) scTh.nd rfl (Or.inl rfl)) (fun _ _ _ _ _ => pts_nil)
          (fun _ _ _ _ _ => pe_tup (pa_cons (pv 4) (pa_cons (pe_op (r := rI0 fun i j => V.int (i + j)) op_add pe_int (pe_call CT.G hr1 (by rfl) CT.m CT.kp CT.b .nil pass0 (pa_cons (pv 0) (pa_cons pe_int pa_nil)))) pa_nil)))) pa_nil)) (pa_cons (pe_lst pa_nil) pa_nil)) (by rfl))
      (pss_cons (ps_for PassesOwn.never rfl (pi_range1 rfl T.b.range (pa_cons (pe_callB call_len_seq (by rfl) T.b.len PySem.boot_len (pa_cons (pv 2) pa_nil)) pa_nil)) (pg_name (i := 7) scTh.nd rfl (Or.inl rfl))
        (pss_cons (ps_par (i := 4) (j := 8) rfl scTh.nd rfl rfl (by decide) rfl rfl (pa_cons (pe_ix ix_tup (pv 2) (pv 7) (fun _ _ => rfl)) (pa_cons (pe_lst pa_nil) pa_nil)) (by rfl))
        (pss_cons (ps_for PassesOwn.never rfl (pi_list (pe_slice sl_list (pe_call CX.G hr2 (by rfl) CX.m CX.kp CX.b .nil pass0 (pa_cons (pv 0) (pa_cons (pv 2) pa_nil))) po_none (po_some (pe_call C.G hr2 (by rfl) C.m C.kp C.b .nil pass0 (pa_cons (pv 0) (pa_cons (pe_lst (pa_cons pe_int (pa_cons pe_int (pa_cons pe_int (pa_cons pe_int (pa_cons pe_int pa_nil)))))) pa_nil)))))) (pg_name (i := 9) scTh.nd rfl (Or.inl rfl))
          (pss_cons (ps_set (i := 10) scTh.nd rfl (Or.inl rfl) (pe_op op_add (pe_dget u1 (pv 5) (pv 4) (fun _ _ => rfl)) (pe_op op_mul (pe_call C.G hr2 (by rfl) C.m C.kp C.b .nil pass0 (pa_cons (pv 0) (pa_cons (pe_lst (pa_cons pe_int (pa_cons pe_int (pa_cons pe_int pa_nil)))) pa_nil)))
            (pe_callTy call_int1 (by rfl) T.b.int (by decide +kernel) (pa_cons (pe_cmpR op_lt (pe_dget u1 (pv 5) (pv 4) (fun _ _ => rfl)) pe_int (nomark _)) pa_nil)))))
          (pss_one (ps_expr (pe_bm PySem.F.plainAttrs_list PySem.F.slot_list_append PySem.F.type_list_append mt_append (pv 8) (pa_cons (pe_tup (pa_cons (pe_tup (pa_cons pe_str (pa_cons (pv 9) (pa_cons (pe_op op_add pe_int (pe_call CT.G hr1 (by rfl) CT.m CT.kp CT.b .nil pass0 (pa_cons (pv 0) (pa_cons (pe_dget u1 (pv 5) (pv 9) (fun _ _ => rfl)) pa_nil)))) (pa_cons (pv 10) (pa_cons pe_int pa_nil)))))) pa_nil)) pa_nil))))))
        (pss_cons (ps_if (PW.pt (pw_or (pt_cmpR op_eq (pv 7) pe_int (nomark _)) (pw_or1 (pt_cmpR op_eq (pe_call CT.G hr1 (by rfl) CT.m CT.kp CT.b .nil pass0 (pa_cons (pv 0) (pa_cons pe_int pa_nil))) pe_int (nomark _)))))
          (pss_one (ps_expr (pe_bm PySem.F.plainAttrs_list PySem.F.slot_list_append PySem.F.type_list_append mt_append (pv 8) (pa_cons (pe_tup (pa_cons (pe_tup (pa_cons pe_str (pa_cons (pe_ix ix_tup (pv 3) pe_int (fun _ _ => rfl)) (pa_cons (pe_call CT.G hr1 (by rfl) CT.m CT.kp CT.b .nil pass0 (pa_cons (pv 0) (pa_cons pe_int pa_nil))) (pa_cons pe_int pa_nil))))) pa_nil)) pa_nil)))) pss_nil)
        (pss_cons (ps_if (pt_cmpR op_eq (pe_call CT.G hr1 (by rfl) CT.m CT.kp CT.b .nil pass0 (pa_cons (pv 0) (pa_cons pe_int pa_nil))) pe_int (nomark _))
          (pss_one (ps_setLc (i := 8) (own := [("ground", 11)]) (g := gName 11) (by rfl) scTh.nd rfl rfl (sw_true rfl rfl rfl (by decide +kernel)) (pi_list (pv 8))
            (blkOk_by (own := [("ground", 11)]) (N := nmTh) (sc := defScope sThreaded) (by decide +kernel)) (fun _ _ _ _ _ => pg_name (i := 11) scTh.nd rfl (Or.inl rfl)) (fun _ _ _ _ _ => pts_nil)
            (fun _ _ _ _ _ => pe_callTy (T := "tuple") (r := rTupOf K) call_tupOf (by rfl) T.tup (by decide +kernel) (pa_cons (pe_callB (id := "sorted") (r := rSortN K w) (cr_sortN rfl hu) (by rfl) T.sor (by decide +kernel) (pa_cons (pe_callTy (T := "set") (r := rSetN K w) (cr_setN rfl hu) (by rfl) T.set (by decide +kernel)
              (pa_cons (pe_op (r := rCatT K) op_catT (pv 11) (pe_tup (pa_cons (pe_tup (pa_cons pe_str (pa_cons (pe_ix (r := rIxT K) ix_tup (pv 3) pe_int (fun _ _ => rfl)) (pa_cons pe_int (pa_cons pe_int pa_nil))))) pa_nil))) pa_nil)) pa_nil)) pa_nil)))) pss_nil)
        (pss_one (ps_expr (pe_bm PySem.F.plainAttrs_list PySem.F.slot_list_append PySem.F.type_list_append mt_append (pv 6) (pa_cons (pe_tup (pa_cons (pv 4) (pa_cons (pe_op op_add pe_int (pe_call CT.G hr1 (by rfl) CT.m CT.kp CT.b .nil pass0 (pa_cons (pv 0) (pa_cons pe_int pa_nil))))
            (pa_cons (pe_call C.G hr2 (by rfl) C.m C.kp C.b .nil pass0 (pa_cons (pv 0) (pa_cons (pe_lst (pa_cons pe_int (pa_cons pe_int (pa_cons pe_int (pa_cons pe_int (pa_cons pe_int (pa_cons pe_int pa_nil))))))) pa_nil)))
            (pa_cons (pe_callTy call_tupOf (by rfl) T.tup (by decide +kernel) (pa_cons (pe_callB (cr_sortN rfl hu) (by rfl) T.sor (by decide +kernel) (pa_cons (pe_callTy (cr_setN rfl hu) (by rfl) T.set (by decide +kernel) (pa_cons (pv 8) pa_nil)) pa_nil)) pa_nil)) pa_nil))))) pa_nil)))))))))
      (pss_one (ps_ret (pe_tup (pa_cons (pv 3) (pa_cons (pe_callTy call_tuple_of (by rfl) T.tup (by decide +kernel) (pa_cons (pv 6) pa_nil)) pa_nil)))))))), ?_⟩
    have sz : ∀ {m : Nat}, m ≤ 900 → m ≤ sizeLine := fun h => Nat.le_of_lt (small1000 (by omega))
    refine ⟨_, rfl, _, rfl, _, rfl, bg, _, rfl, hB, by omega, by omega, fun z1 H1 E1 a0 a1 => ?_⟩
    refine ⟨_, _, rfl, rfl, bg, _, rfl, E1.bag, by omega, by omega, fun nt ns H2 E2 nnt ent hns lns => ?_⟩
    have E12 := E1.trans E2
    refine ⟨_, rfl, bg, 2, rfl, E12.bag, by decide, by decide, fun rt rs H4 E4 nrt ert hrs lrs => ?_⟩
    have E14 := E12.trans E4
    have ntb : nt ≠ bg := fun z => E1.bag.there (z ▸ nnt)
    have rtb : rt ≠ bg := fun z => E12.bag.there (z ▸ nrt)
    have ent4 := E4.keep nt _ ntb ent
    have nl : ns.length = (1 + z1).toNat := lns
    have rl : rs.length = 2 := lrs
    refine ⟨sz (by show 2 ≤ 900; decide), fun t nt' => ?_⟩
    refine ⟨t, _, rfl, SqT.of upd_same, by rfl, _, _, rfl, _, _, rfl, rfl, ?_⟩
    have E15 := E14.new (o := .tup [.ref nt, .ref rt]) nt'
    have e1 := same_upd (o := .tup [.ref nt, .ref rt]) nt' _ _ ent4
    have e2 := same_upd (o := .tup [.ref nt, .ref rt]) nt' _ _ ert
    generalize upd H4 t (.tup [.ref nt, .ref rt]) = H5 at E15 e1 e2 ⊢
    refine ⟨_, rfl, nt, rfl, ⟨_, SqT.of e1⟩, fun D hD => lc_tup (K := K) (a := nt) (xs := ns.map V.str) (fun i G => Ext bg H5 G ∧ ∃ (qs : List Addr) (kvs : List (Key × V)), G D = some (.lst (qs.map V.ref)) ∧ Paired (fun q (kv : Key × V) => G q = some (.tup [kV kv.1, kv.2])) qs kvs ∧ kvs.map (·.1) = (ns.take i).map Sum.inr ∧ ∀ kv ∈ kvs, ∃ v : Int, kv.2 = .int v ∧ 1 ≤ v ∧ v ≤ 3) ?_ ?_ ?_ ?_⟩
    · exact ⟨(Ext.of_same E15.bag Same.refl').new hD, [], [], upd_same, .nil, rfl, fun _ z => (by cases z)⟩
    · rintro i G _ ⟨E6, _⟩
      exact SqT.of (E6.keep nt _ ntb e1)
    · rintro i x G hx ⟨E6, qs, kvs, gD, pq, ek, hv⟩
      rw [List.getElem?_map] at hx
      obtain ⟨nm, hnm, rfl⟩ := Option.map_eq_some_iff.mp hx
      have hi := (List.getElem?_eq_some_iff.mp hnm).1
      have Db : D ≠ bg := fun z => E15.bag.there (z ▸ hD)
      refine ⟨rfl, ?_⟩
      unfold tYes
      dsimp only
      refine iteT ⟨_, rfl, _, rfl, bg, 3, rfl, E6.bag, by decide, by decide, fun y G2 E7 c0 c1 => ?_⟩
      refine ⟨_, _, rfl, rfl, sz (by show 2 ≤ 900; decide), fun q nq => ?_⟩
      have gD2 := E7.keep D _ Db gD
      have S1 := same_upd (o := .tup [.str nm, .int (1 + y)]) nq
      have E8 := E7.trans (Ext.of_same E7.bag S1)
      have lq : qs.length ≤ 5 := by
        have h1 := paired_len pq
        have h2 := congrArg List.length ek
        rw [List.length_map, List.length_map, List.length_take] at h2
        omega
      have tsl := ts_lst (ys := qs.map V.ref ++ [V.ref q]) (S1 _ _ gD2)
      refine ⟨_, S1 _ _ gD2, small1000 (by rw [List.length_map]; omega), Ext.write E15.bag (E6.trans E8) hD, qs ++ [q], kvs ++ [(Sum.inr nm, .int (1 + y))], by rw [upd_same, List.map_append]; rfl, ?_, ?_, ?_⟩
      · refine paired_snoc (x := q) (y := ((Sum.inr nm : Key), V.int (1 + y))) ?_ (Paired.mono' (fun a kv h => tsl _ _ (TSame.ext E6.bag E8 _ _ h)) pq)
        exact tsl _ _ upd_same
      · rw [List.map_append, ek, List.take_add_one, hnm, Option.toList_some, List.map_append]; rfl
      · intro kv m
        rcases List.mem_append.mp m with c | c
        · exact hv kv c
        · rw [List.mem_singleton.mp c]; exact ⟨1 + y, rfl, by omega, by omega⟩
    · rintro G ⟨E6, qs, kvs, gD, pq, ek, hv⟩
      rw [List.length_map, List.take_length] at ek
      have nk : ((([] : List (Key × V)) ++ kvs).map (·.1)).Nodup := by
        rw [List.nil_append, ek]
        exact List.pairwise_map.mpr (hns.nd.imp fun h z => h (Sum.inr.inj z))
      refine ⟨D, qs, kvs, rfl, SqL.of gD, Paired.mono' (fun a kv h => SqT.of h) pq, fun ld nld => ?_⟩
      rw [merge_new _ _ nk, List.nil_append]
      have hld := ld_ok hns.nd ek hv
      have E7 := (E15.trans E6).new (o := .dK kvs) nld
      have f1 := same_upd (o := .dK kvs) nld _ _ (E6.keep nt _ ntb e1)
      have f2 := same_upd (o := .dK kvs) nld _ _ (E6.keep rt _ rtb e2)
      have fl : (upd G ld (.dK kvs)) ld = some (.dK kvs) := upd_same
      have ldb : ld ≠ bg := fun z => E6.bag.there (z ▸ nld)
      generalize upd G ld (.dK kvs) = G7 at E7 f1 f2 fl ⊢
      refine ⟨Nat.zero_le _, fun p np => ?_⟩
      have pH : H p = none := newAt E7 np
      have pb : p ≠ bg := fun z => hB.there (z ▸ pH)
      refine ⟨_, _, rfl, ?_⟩
      refine ⟨_, rfl, nt, _, rfl, .inr (SqT.of (same_upd np _ _ f1)), _, rfl, by omega, by rw [List.length_map]; omega, for_range (fun i σ' J => (∃ x4 x7 x8 x9 x10 x11 : Option V, σ' = [some (.ref bg), some (.int n), some (.ref nt), some (.ref rt), x4, some (.ref ld), some (.ref p), x7, x8, x9, x10, x11]) ∧
        Ext bg H J ∧ J nt = some (.tup (ns.map V.str)) ∧ J rt = some (.tup (rs.map V.str)) ∧ J ld = some (.dK kvs) ∧ ∃ (kas : List Addr) (ks : List Kd), J p = some (.lst (kas.map V.ref)) ∧ KsAt J rs ns kas ks ∧ ks.map Kd.name = ns.take i) ?_ ?_ ?_⟩
      · exact ⟨⟨_, _, _, _, _, _, rfl⟩, E7.new np, same_upd np _ _ f1, same_upd np _ _ f2, same_upd np _ _ fl, [], [], upd_same, ⟨.nil, fun _ z => nomatch z⟩, rfl⟩
      · rintro i σ' J hi ⟨⟨x4, x7, x8, x9, x10, x11, rfl⟩, E8, g1, g2, gl, kas, ks, gp, hk, en⟩
        rw [Int.toNat_natCast, List.length_map] at hi
        have hni : ns[i]? = some ns[i] := List.getElem?_eq_getElem hi
        obtain ⟨v, ev, v1, v3⟩ := hld ns[i] (List.getElem_mem hi)
        refine ⟨_, rfl, _, rfl, nt, _, _, .str ns[i], rfl, rfl, SqT.of g1, by rw [Int.zero_add]; exact atI_nat (by rw [List.getElem?_map, hni]; rfl), Nat.zero_le _, fun gr ngr => ⟨_, _, rfl, ?_⟩⟩
        have E9 : Ext bg J (upd J gr (.lst [])) := (Ext.of_same E8.bag Same.refl').new ngr
        have grb : gr ≠ bg := fun z => E8.bag.there (z ▸ ngr)
        have grp : gr ≠ p := fun z => by rw [z, gp] at ngr; cases ngr
        have gr0 : (upd J gr (.lst [])) gr = some (.lst []) := upd_same
        generalize upd J gr (.lst []) = J0 at E9 gr0 ⊢
        refine ⟨_, rfl, _, rfl, bg, nt, ns.map V.str, rfl, E9.bag, ntb, .inr (E9.keep nt _ ntb g1), by rw [List.length_map]; omega, fun m ys J1 E10 nm em pm => ?_⟩
        obtain ⟨zs, pz, rfl⟩ := perm_of_map pm ns rfl
        have mb : m ≠ bg := fun z => E9.bag.there (z ▸ nm)
        refine ⟨_, rfl, sz (by show 5 ≤ 900; decide), fun q nq => ?_⟩
        have E11 := E10.new (o := .lst [.int 1, .int 1, .int 2, .int 2, .int 3]) nq
        have qb : q ≠ bg := fun z => E10.bag.there (z ▸ nq)
        refine ⟨bg, q, _, rfl, E11.bag, qb, .inl upd_same, by decide, by decide, fun u J2 mu E12 => ?_⟩
        obtain ⟨z, rfl, z1', z3'⟩ := ints_in (ns := [1, 1, 2, 2, 3]) (lo := 1) (hi := 3) (by decide) mu
        have hm := E12.keep m _ mb (same_upd (o := .lst [.int 1, .int 1, .int 2, .int 2, .int 3]) nq _ _ em)
        refine ⟨z, rfl, _, _, rfl, SqL.of hm, fun r nr => ?_⟩
        rw [cut_to _ z (by omega), ← List.map_take]
        have lz : (zs.take z.toNat).length ≤ 3 := by rw [List.length_take]; omega
        have inz : ∀ x ∈ zs.take z.toNat, x ∈ ns := fun x hx => pz.mem_iff.mp (List.mem_of_mem_take hx)
        generalize zs.take z.toNat = zz at lz inz ⊢
        have E13 := ((E9.trans E11).trans E12).new (o := .lst (zz.map V.str)) nr
        have rb : r ≠ bg := fun z => E12.bag.there (z ▸ nr)
        have E9to := (E11.trans E12).new (o := .lst (zz.map V.str)) nr
        have gr1 := E9to.keep gr _ grb gr0
        have hr0 : (upd J2 r (.lst (zz.map V.str))) r = some (.lst (zz.map V.str)) := upd_same
        have rgr : r ≠ gr := fun z => by
          have := (E11.trans E12).keep gr _ grb gr0
          rw [← z, nr] at this; cases this
        have grH : J gr = none := ngr
        have rJ : J r = none := newAt ((E9.trans E11).trans E12) nr
        generalize upd J2 r (.lst (zz.map V.str)) = J3 at E13 gr1 hr0 ⊢
        refine ⟨r, rfl, ⟨_, SqL.of hr0⟩, for_list (K := K) (a := r) (xs := zz.map V.str) (fun j σ' M => (∃ x9 x10 x11 : Option V, σ' = [some (.ref bg), some (.int n), some (.ref nt), some (.ref rt), some (.str ns[i]), some (.ref ld), some (.ref p), some (.int (0 + (i : Int))), some (.ref gr), x9, x10, x11]) ∧
          Ext bg J M ∧ M r = some (.lst (zz.map V.str)) ∧ ∃ (as : List Addr) (gs : List (List (List V))), M gr = some (.lst (as.map V.ref)) ∧ GsAt M rs ns as gs ∧ as.length = j ∧ ∀ g ∈ gs, g.length = 1) ?_ ?_ ?_ ?_⟩
        · exact ⟨⟨_, _, _, rfl⟩, E13, hr0, [], [], gr1, GsAt.nil, rfl, fun _ z => (by cases z)⟩
        · rintro j σ' M _ ⟨_, _, hr, _⟩
          exact SqL.of hr
        · rintro j x σ' M hx ⟨⟨x9, x10, x11, rfl⟩, E14, hr, as, gs, mg', hg, la, one⟩
          rw [List.getElem?_map] at hx
          obtain ⟨gv, hgv, rfl⟩ := Option.map_eq_some_iff.mp hx
          have hj := (List.getElem?_eq_some_iff.mp hgv).1
          have gin := inz gv (List.mem_of_getElem? hgv)
          obtain ⟨v', ev', v1', v3''⟩ := hld gv gin
          have hl := E14.keep ld _ ldb gl
          refine ⟨_, rfl, _, rfl, ld, .int v, rfl, by rw [← ev]; exact DGet.k (k := Sum.inr ns[i]) hl, ?_⟩
          refine ⟨_, rfl, sz (by show 3 ≤ 900; decide), fun q nq => ?_⟩
          have E15 := (Ext.of_same E14.bag Same.refl' : Ext bg M M).new (o := .lst [.int 0, .int 0, .int 1]) nq
          have qb : q ≠ bg := fun z => E14.bag.there (z ▸ nq)
          refine ⟨bg, q, _, rfl, E15.bag, qb, .inl upd_same, by decide, by decide, fun u2 M2 mu2 E16 => ?_⟩
          obtain ⟨u, rfl, u0, u1'⟩ := ints_in (ns := [0, 0, 1]) (lo := 0) (hi := 1) (by decide) mu2
          have E17 := E15.trans E16
          have hl2 := E17.keep ld _ ldb hl
          refine ⟨_, rfl, _, rfl, ld, .int v, rfl, by rw [← ev]; exact DGet.k (k := Sum.inr ns[i]) hl2, _, _, rfl, rfl, .inr ⟨_, rfl, _, _, rfl, rfl, .inl ⟨by omega, by omega⟩, _, _, rfl, rfl, ?_⟩⟩
          have hte : 0 ≤ v + u * (if decide (v < 4) = true then 1 else 0) ∧ v + u * (if decide (v < 4) = true then 1 else 0) ≤ 4 := by
            split <;> omega
          dsimp only [gName]
          generalize v + u * (if decide (v < 4) = true then (1 : Int) else 0) = te at hte ⊢
          have mg2 := E17.keep gr _ grb mg'
          refine ⟨_, rfl, .inl ⟨rfl, _, SqL.of mg2⟩, _, rfl, _, rfl, _, rfl, _, rfl, ld, .int v', rfl, by rw [← ev']; exact DGet.k (k := Sum.inr gv) hl2, bg, v', rfl, E17.bag, by omega, by omega, fun y M3 E18 c0 c1 => ?_⟩
          refine ⟨_, _, rfl, rfl, _, rfl, sz (by show 5 ≤ 900; decide), fun na nna => ⟨sz (by show 1 ≤ 900; decide), fun ga nga => ?_⟩⟩
          have E19 := E17.trans E18
          have S1 := same_upd (o := .tup [.str "kind", .str gv, .int (1 + y), .int te, .int 9]) nna
          have S2 := same_upd (o := .tup [.ref na]) nga
          have S12 := KaG.Same.tr S1 S2
          have mg3 := S12 _ _ (E18.keep gr _ grb mg2)
          have E20 := E19.trans (Ext.of_same E19.bag S12)
          have E21 := E14.trans E20
          refine ⟨gr, _, _, rfl, rfl, mg3, small1000 (by rw [List.length_map]; omega), ?_⟩
          have tsl := ts_lst (ys := as.map V.ref ++ [V.ref ga]) mg3
          refine ⟨⟨_, _, _, rfl⟩, Ext.write E8.bag E21 ngr, by rw [upd_ne rgr]; exact E20.keep r _ rb hr, as ++ [ga], gs ++ [[[.str "kind", .str gv, .int (1 + y), .int te, .int 9]]], by rw [upd_same, List.map_append]; rfl, ?_, by rw [List.length_append, la]; rfl, fun g m => ?_⟩
          · refine (GsAt.snoc (hg.ts (TSame.ext E14.bag E20)) (grd_one upd_same (S2 _ _ upd_same)) ⟨by show 0 < 1; decide, by show 1 ≤ 3; decide, fun n2 m2 => ?_⟩).ts tsl
            rw [List.mem_singleton.mp m2]
            exact .kind gv (1 + y) te 9 gin (by omega) (by omega) hte.1 hte.2 (by decide) (by decide)
          · rcases List.mem_append.mp m with c | c
            · exact one g c
            · rw [List.mem_singleton.mp c]; rfl
        · rintro σ' M ⟨⟨x9, x10, x11, rfl⟩, E14, hr, as, gs, mg', hg, la, one⟩
          rw [List.length_map] at la
          dsimp only
          refine seqGo (fun b' D' => ∀ (as : List Addr) (gs : List (List (List V))) (M' : Hp), Ext bg J M' → M' gr = some (.lst (as.map V.ref)) → GsAt M' rs ns as gs → (∀ g ∈ gs, g.length = 1) → gs.length ≤ 4 →
            b' D' [some (.ref bg), some (.int n), some (.ref nt), some (.ref rt), some (.str ns[i]), some (.ref ld), some (.ref p), some (.int (0 + (i : Int))), some (.ref gr), x9, x10, x11] M') (fun as gs M E14 mg' hg one le4 => ?_) (fun rest => ?_)
          · refine seqGo (fun b' D' => ∀ (ga : Addr) (as : List Addr) (gs : List (List (List V))) (M' : Hp), Ext bg J M' → M' ga = some (.lst (as.map V.ref)) → ga ≠ bg → GsAt M' rs ns as gs → gs.length ≤ 4 →
              b' D' [some (.ref bg), some (.int n), some (.ref nt), some (.ref rt), some (.str ns[i]), some (.ref ld), some (.ref p), some (.int (0 + (i : Int))), some (.ref ga), x9, x10, x11] M') (fun ga bs hs M4 E11 gg gab hgs lb => ?_) (fun rest => ?_)
            · have gp4 := E11.keep p _ pb gp
              have lenb := paired_len hgs.pr
              refine ⟨_, rfl, .inl ⟨rfl, _, SqL.of gp4⟩, _, rfl, _, rfl, bg, 3, rfl, E11.bag, by decide, by decide, fun y1 G5 E12 c0 c1 => ?_⟩
              refine ⟨_, _, rfl, rfl, _, rfl, sz (by show 6 ≤ 900; decide), fun q2 nq2 => ?_⟩
              have E13 := E12.new (o := .lst [.int 0, .int 0, .int 1, .int 2, .int 3, .int 8]) nq2
              have q2b : q2 ≠ bg := fun z => E12.bag.there (z ▸ nq2)
              refine ⟨bg, q2, _, rfl, E13.bag, q2b, .inl upd_same, by decide, by decide, fun v2 G6 mv2 E14 => ?_⟩
              obtain ⟨bar, rfl, bar0, bar12⟩ := ints_in (ns := [0, 0, 1, 2, 3, 8]) (lo := 0) (hi := 8) (by decide) mv2
              have E15 := E13.trans E14
              have hgs6 := hgs.ts (TSame.ext E11.bag E15)
              refine ⟨_, rfl, ?_⟩
              dsimp only [tCB, tCons, tNil]
              refine order_grounds (K := K) (w := w) (rows := rs) (names := ns) (.inl (SqL.of (E15.keep ga _ gab gg))) hgs6.pr (fun g m => ⟨(hgs6.ok g m).1, (hgs6.ok g m).2.2⟩) (by omega) fun a2 bs2 gs2 G7 S na2 ea2 pr2 sub le => ?_
              have gp7 := S _ _ (E15.keep p _ pb gp4)
              refine ⟨sz (by show 4 ≤ 900; decide), fun ka nka => ?_⟩
              have S8 := same_upd (o := .tup [.str ns[i], .int (6 + y1), .int bar, .ref a2]) nka
              have hli := paired_len hk.pr
              have hik : ks.length = i := by
                have := congrArg List.length en
                rw [List.length_map, List.length_take] at this
                omega
              refine ⟨p, _, _, rfl, rfl, S8 _ _ gp7, small1000 (by rw [List.length_map]; omega), ?_⟩
              have E17 : Ext bg J (upd G7 ka (.tup [.str ns[i], .int (6 + y1), .int bar, .ref a2])) := ((E11.trans E15).trans (Ext.of_same E15.bag S)).new nka
              have T7 : TSame J (upd G7 ka (.tup [.str ns[i], .int (6 + y1), .int bar, .ref a2])) := TSame.ext E8.bag E17
              have tw := ts_lst (ys := kas.map V.ref ++ [.ref ka]) (S8 _ _ gp7)
              have ldp : ld ≠ p := fun z => by rw [z, gp] at gl; cases gl
              refine ⟨⟨_, _, _, _, _, _, rfl⟩, Ext.write hB (E8.trans E17) pH, tw _ _ (T7 _ _ g1), tw _ _ (T7 _ _ g2), by rw [upd_ne ldp]; exact E17.keep ld _ ldb gl, kas ++ [ka], ks ++ [⟨ns[i], 6 + y1, bar, gs2⟩], by rw [upd_same, List.map_append]; rfl, ?_, ?_⟩
              · refine (((hk.ts T7).snoc ?_ ?_).ts tw)
                · exact ⟨a2, bs2, upd_same, S8 _ _ ea2, Paired.mono' (fun a b q => Grd.ts q (TSame.of S8)) pr2⟩
                · exact ⟨⟨by show 1 ≤ 6 + y1; omega, by show 6 + y1 ≤ 8; omega, bar0, by show bar ≤ 12; omega, by show gs2.length ≤ 4; omega⟩, fun g m => hgs.ok g (sub g m)⟩
              · rw [List.map_append, en, List.take_add_one, hni]; rfl
            · refine ⟨_, rfl, bg, 4, rfl, E14.bag, by decide, by decide, fun y M1 E15 c0 c1 => ⟨rfl, _, rfl, ite2 (fun hc => ?_) fun hc => rest gr as gs M1 (E14.trans E15) (E15.keep gr _ grb mg') grb (hg.ts (TSame.ext E14.bag E15)) le4⟩⟩
              have E16 := E14.trans E15
              have mg1 := E15.keep gr _ grb mg'
              have hg1 := hg.ts (TSame.ext E14.bag E15)
              have lenas := paired_len hg1.pr
              refine ⟨_, rfl, gr, rfl, ⟨_, SqL.of mg1⟩, fun D hD => lc_list (K := K) (a := gr) (xs := as.map V.ref) (fun j M => Ext bg M1 M ∧ ∃ (bs : List Addr) (hs : List (List (List V))), M D = some (.lst (bs.map V.ref)) ∧ GsAt M rs ns bs hs ∧ bs.length = j) ?_ ?_ ?_ ?_⟩
              · exact ⟨(Ext.of_same E16.bag Same.refl').new hD, [], [], upd_same, GsAt.nil, rfl⟩
              · rintro j M _ ⟨E18, _⟩
                exact SqL.of (E18.keep gr _ grb mg1)
              · rintro j v M hv ⟨E18, bs, hs, mD, hh, lb⟩
                rw [List.getElem?_map] at hv
                obtain ⟨a2, ha2, rfl⟩ := Option.map_eq_some_iff.mp hv
                obtain ⟨g, hgg, nsA, w1, w2⟩ := paired_at hg1.pr ha2
                have og := hg1.ok g (List.mem_of_getElem? hgg)
                have one' := one g (List.mem_of_getElem? hgg)
                have hj : j < as.length := (List.getElem?_eq_some_iff.mp ha2).1
                have ts7 := TSame.ext E16.bag E18
                have Db : D ≠ bg := fun z => E16.bag.there (z ▸ hD)
                have pz := paired_len w2
                obtain ⟨z, hz, ez⟩ := at_str (ns := rs) (z := 1) (by decide) (by omega)
                refine ⟨rfl, ?_⟩
                unfold tYes
                dsimp only
                refine iteT ⟨_, rfl, _, rfl, rt, _, 1, .str z, rfl, rfl, SqT.of (ts7 _ _ (E16.keep rt _ rtb g2)), ez, sz (by show 4 ≤ 900; decide), fun na nna => ⟨sz (by show 1 ≤ 900; decide), fun ta nta => ?_⟩⟩
                have S1 := same_upd (o := .tup [.str "row", .str z, .int 1, .int 3]) nna
                have S2 := same_upd (o := .tup [.ref na]) nta
                have S12 := KaG.Same.tr S1 S2
                have y1 : (upd (upd M na (.tup [.str "row", .str z, .int 1, .int 3])) ta (.tup [.ref na])) na = some (.tup [.str "row", .str z, .int 1, .int 3]) := S2 _ _ upd_same
                have y2 : (upd (upd M na (.tup [.str "row", .str z, .int 1, .int 3])) ta (.tup [.ref na])) ta = some (.tup [.ref na]) := upd_same
                generalize upd (upd M na (.tup [.str "row", .str z, .int 1, .int 3])) ta (.tup [.ref na]) = M2 at S12 y1 y2 ⊢
                have mD2 := S12 _ _ mD
                have E21 : Ext bg M1 M2 := E18.trans (Ext.of_same E18.bag S12)
                have ts8 : TSame M1 M2 := TSame.ext E16.bag E21
                refine ⟨a2, ta, _, _, rfl, rfl, SqT.of (ts8 _ _ w1), SqT.of y2, ?_, sz (by rw [List.length_map]; show _ + 1 ≤ 900; omega), (fun e => by cases e), fun _ r nr => ?_⟩
                · intro e
                  have := congrArg List.length e
                  rw [List.length_map, List.length_nil] at this
                  omega
                have S4 := same_upd (o := .tup (nsA.map V.ref ++ [V.ref na])) nr
                dsimp only [tCB, tCons, tNil]
                have mem : ∀ n2 ∈ g ++ [[.str "row", .str z, .int 1, .int 3]], NeedV rs ns n2 := fun n2 m => (List.mem_append.mp m).elim (og.2.2 n2) fun m => by rw [List.mem_singleton.mp m]; exact .row z 1 3 hz (by decide) (by decide) (by decide) (by decide)
                refine order_needs (K := K) (w := w) (rows := rs) (names := ns) (as := nsA ++ [na]) (g := g ++ [[.str "row", .str z, .int 1, .int 3]]) (by rw [List.map_append]; exact .inr (SqT.of upd_same))
                  (paired_snoc (R := fun n2 it => (upd M2 r (.tup (nsA.map V.ref ++ [V.ref na]))) n2 = some (.tup it)) (S4 _ _ y1) (Paired.mono' (fun _ _ q => S4 _ _ (ts8 _ _ q)) w2)) mem (by rw [List.length_append]; show _ + 1 ≤ 4; omega) fun a3 g3 M3 S5 na3 ha3 sub3 pos3 le3 => ?_
                have S45 := KaG.Same.tr S4 S5
                have mD3 := S45 _ _ mD2
                rw [List.length_append] at pos3 le3
                have le3' : g3.length ≤ g.length + 1 := le3
                refine ⟨_, mD3, small1000 (by rw [List.length_map]; omega), Ext.write E16.bag (E21.trans (Ext.of_same E21.bag S45)) hD, bs ++ [a3], hs ++ [g3], by rw [upd_same, List.map_append]; rfl, ?_, by rw [List.length_append, lb]; rfl⟩
                have ts9 : TSame M M3 := TSame.of (KaG.Same.tr S12 S45)
                exact ((hh.ts ts9).snoc ha3 ⟨pos3 (by show 0 < _ + 1; omega), by omega, fun n2 m => mem n2 (sub3 n2 m)⟩).ts (ts_lst mD3)
              · rintro M ⟨E18, bs, hs, mD, hh, lb⟩
                rw [List.length_map] at lb
                have Db : D ≠ bg := fun z => E16.bag.there (z ▸ hD)
                have lh := paired_len hh.pr
                exact rest D bs hs M (E16.trans E18) mD Db hh (by omega)
          · refine ifGo (fun M' => Ext bg M M') (fun M' EM => ?_) (fun M' EM => ?_) (fun Q' q => ?_)
            · have g2M := (E14.trans EM).keep rt _ rtb g2
              have ygM := EM.keep gr _ grb mg'
              obtain ⟨z, hz, ez⟩ := at_str (ns := rs) (z := 0) (by decide) (by omega)
              have lg := paired_len hg.pr
              refine ⟨_, rfl, .inl ⟨rfl, _, SqL.of ygM⟩, _, rfl, rt, _, 0, .str z, rfl, rfl, SqT.of g2M, ez, _, rfl, bg, 5, rfl, EM.bag, by decide, by decide, fun y2 M1 E17 d0 d1 => ?_⟩
              refine ⟨sz (by show 4 ≤ 900; decide), fun nb nnb => ⟨sz (by show 1 ≤ 900; decide), fun gb ngb => ?_⟩⟩
              have yg1 := E17.keep gr _ grb ygM
              have T1 := same_upd (o := .tup [.str "row", .str z, .int y2, .int 9]) nnb
              have T2 := same_upd (o := .tup [.ref nb]) ngb
              have T12 := KaG.Same.tr T1 T2
              have yg2 := T12 _ _ yg1
              refine ⟨gr, _, _, rfl, rfl, yg2, small1000 (by rw [List.length_map]; omega), ?_⟩
              have tsl := ts_lst (ys := as.map V.ref ++ [V.ref gb]) yg2
              have E18 := E17.trans (Ext.of_same E17.bag T12)
              have E19 := EM.trans E18
              refine rest (as ++ [gb]) (gs ++ [[[.str "row", .str z, .int y2, .int 9]]]) _ (Ext.write E8.bag (E14.trans E19) ngr) (by rw [upd_same, List.map_append]; rfl) ?_ (fun g m => ?_) (by rw [List.length_append]; show _ + 1 ≤ 4; omega)
              · refine ((hg.ts (TSame.ext E14.bag E19)).snoc (grd_one upd_same (T2 _ _ upd_same)) ⟨by show 0 < 1; decide, by show 1 ≤ 3; decide, fun n2 m2 => ?_⟩).ts tsl
                rw [List.mem_singleton.mp m2]
                exact .row z y2 9 hz d0 (by omega) (by decide) (by decide)
              · rcases List.mem_append.mp m with c | c
                · exact one g c
                · rw [List.mem_singleton.mp c]; rfl
            · have lg := paired_len hg.pr
              exact rest as gs M' (E14.trans EM) (EM.keep gr _ grb mg') (hg.ts (TSame.ext E14.bag EM)) one (by omega)
            · have r0' : Ext bg M M := Ext.of_same E14.bag Same.refl'
              refine ⟨_, rfl, rfl, _, rfl, ite2 (fun h1 => q _ _ r0') fun h1 => ?_⟩
              exact ⟨_, rfl, bg, 4, rfl, E14.bag, by decide, by decide, fun y M E c0 c1 => ⟨rfl, _, rfl, q _ _ E⟩⟩
      · rintro σ' J ⟨⟨x4, x7, x8, x9, x10, x11, rfl⟩, E8, g1, g2, gl, kas, ks, gp, hk, en⟩
        rw [Int.toNat_natCast, List.length_map, List.take_length] at en
        refine ⟨_, rfl, _, rfl, p, _, rfl, .inl ⟨SqL.of gp, fun q nq => ?_⟩⟩
        refine ⟨sz (by show 2 ≤ 900; decide), fun b nb => ?_⟩
        have S1 := same_upd (o := .tup (kas.map V.ref)) nq
        have S2 := KaG.Same.tr S1 (same_upd (o := .tup [.ref rt, .ref q]) nb)
        refine k b rs ks _ (E8.trans (Ext.of_same E8.bag S2)) (newAt (E8.trans (Ext.of_same E8.bag S1)) nb) (by omega) ⟨rt, q, kas, upd_same, S2 _ _ g2, same_upd nb _ _ upd_same, (hk.ts (TSame.of S2)).pr⟩ ?_
        exact book_ok hrs hns (by omega) (by omega) (by omega) en hk.ok
end
end KaG


set_option maxRecDepth 100000
set_option maxHeartbeats 4000000
namespace KaG
open PySem PySem.Spec PyProof.Rows L2 KaN
theorem tup_ne {H : Hp} {bg r : Addr} {xs : List V} (hb : Bag H bg) (e : H r = some (.tup xs)) : r ≠ bg := fun z => by
  obtain ⟨c, st, i, b, ns, e1, _⟩ := hb
  rw [← z, e] at e1
  cases e1
section
variable {P : Program} {w : World} {K : PySem.W.Frag} {mg : Str → Option Value} {base : Heap}
theorem scRb : FnScope ["bag", "kinds", "way", "found"] ["bag", "kinds"] (defScope sRulebook) := ⟨rfl, rfl, rfl, by decide +kernel, rfl, by decide +kernel, by decide +kernel⟩
def spRb : Sp := fun vs H Q _ => ∃ (bg : Addr) (n : Int), vs = [.ref bg, .int n] ∧ Bag H bg ∧ 1 ≤ n ∧ n ≤ 5 ∧ ∀ (t p : Addr) (x : V) (rs : List Str) (ks : List Kd) (H' : Hp), Ext bg H H' → H' t = some (.tup [.ref p, x]) → rs.length ≤ 5 → BookAt H' p rs ks → BookOk rs ks → Q (.ref t) H'
theorem ok_rb {f fX fS fT fA fP fH : Addr} {fd fdX fdS fdT fdA fdP fdH : FuncData} (F : Fun K "_law_rulebook" "_law_rulebook" sRulebook f fd) (T : TxtC mg) (CX : Ct P w K mg base "_law_mixed" 2 ["bag", "things"] spMixed fX fdX)
    (C : Ct P w K mg base "_law_some" 2 ["bag", "things"] spSome2 fS fdS) (CT : Ct P w K mg base "_law_take" 1 ["bag", "upto"] spTake fT fdT) (CA : Ct P w K mg base "_law_any_rulebook" 6 ["bag", "kinds", "rows"] spAny fA fdA)
    (CP : Ct P w K mg base "_law_planted" 6 ["bag", "sort", "kinds"] spPl fP fdP) (CH : Ct P w K mg base "_law_threaded" 6 ["bag", "kinds"] spTh fH fdH) : FnOk P w K mg base CX0 7 f fd ["bag", "kinds"] spRb := by
  refine F.ok scRb (fun vs H Q E h => ?_) (fun cdv A outer s H vs Q E hr h => ?_)
  · obtain ⟨bg, n, rfl, _⟩ := h
    rfl
  · obtain ⟨bg, n, rfl, hB, n1, n5, k⟩ := h
    have hr6 : Room 6 (A.deeper (envOfC "_law_rulebook" (defScope sRulebook) s.heap.objs.size f cdv)) := hr.mono (by decide)
    have hr2 : Room 2 (A.deeper (envOfC "_law_rulebook" (defScope sRulebook) s.heap.objs.size f cdv)) := hr.mono (by decide)
    have hr1 : Room 1 (A.deeper (envOfC "_law_rulebook" (defScope sRulebook) s.heap.objs.size f cdv)) := hr.mono (by decide)
    refine ⟨_, (pss_cons (ps_set (i := 2) scRb.nd rfl (Or.inl rfl) (pe_call CT.G hr1 (by rfl) CT.m CT.kp CT.b .nil pass0 (pa_cons (pv 0) (pa_cons pe_int pa_nil))))
      (pss_cons (ps_if (pt_cmpR op_lt (pv 2) pe_int (nomark _))
        (pss_cons (ps_set (i := 3) scRb.nd rfl (Or.inl rfl) (pe_call CA.G hr6 (by rfl) CA.m CA.kp CA.b .nil pass0 (pa_cons (pv 0) (pa_cons (pv 1) (pa_cons pe_int pa_nil)))))
        (pss_one (ps_ret (pe_tup (pa_cons (pv 3) (pa_cons (pe_callTy call_tuple_of (by rfl) T.tup (by decide +kernel) (pa_cons (pe_callB cr_sortedS (by rfl) T.sor (by decide +kernel)
          (pa_cons (pe_slice sl_list (pe_call CX.G hr2 (by rfl) CX.m CX.kp CX.b .nil pass0 (pa_cons (pv 0) (pa_cons (pe_ix ix_tup (pv 3) pe_int (fun _ _ => rfl)) pa_nil))) po_none
            (po_some (pe_call C.G hr2 (by rfl) C.m C.kp C.b .nil pass0 (pa_cons (pv 0) (pa_cons (pe_lst (pa_cons pe_int (pa_cons pe_int (pa_cons pe_int pa_nil)))) pa_nil))))) pa_nil)) pa_nil)) pa_nil)))))) pss_nil)
      (pss_cons (ps_if (pt_cmpR op_eq (pv 2) pe_int (nomark _))
        (pss_one (ps_set (i := 3) scRb.nd rfl (Or.inl rfl) (pe_call CH.G hr6 (by rfl) CH.m CH.kp CH.b .nil pass0 (pa_cons (pv 0) (pa_cons (pv 1) pa_nil)))))
        (pss_one (ps_set (i := 3) scRb.nd rfl (Or.inl rfl) (pe_call CP.G hr6 (by rfl) CP.m CP.kp CP.b .nil pass0 (pa_cons (pv 0) (pa_cons (pe_ix ix_list (pe_lst (pa_cons pe_str (pa_cons pe_str (pa_cons pe_str (pa_cons pe_str pa_nil))))) (pe_op op_sub (pv 2) pe_int) (fun _ _ => rfl)) (pa_cons (pv 1) pa_nil)))))))
      (pss_one (ps_ret (pe_tup (pa_cons (pv 3) (pa_cons (pe_slice sl_tupA (pe_ix ix_tup (pv 3) pe_int (fun _ _ => rfl)) po_none (po_some pe_int)) pa_nil)))))))), ?_⟩
    have sz : ∀ {m : Nat}, m ≤ 900 → m ≤ sizeLine := fun h => Nat.le_of_lt (small1000 (by omega))
    refine ⟨_, rfl, bg, 9, rfl, hB, by decide, by decide, fun z H1 E1 a0 a1 => ?_⟩
    refine ⟨_, rfl, _, _, rfl, rfl, _, rfl, ite2 (fun hc => ?_) fun hc => ?_⟩
    · refine ⟨_, rfl, _, rfl, bg, n, 3, rfl, E1.bag, n1, n5, by decide, by decide, fun p rs ks H2 E2 np lrs hA hO => ?_⟩
      obtain ⟨r, kt, kas, e1, e2, e3, pk⟩ := hA
      have rb : r ≠ bg := tup_ne E2.bag e2
      refine ⟨_, rfl, _, rfl, _, rfl, p, _, 0, .ref r, rfl, rfl, SqT.of e1, rfl, bg, r, rs.map V.str, rfl, E2.bag, rb, .inr e2, by rw [List.length_map]; omega, fun m ys H3 E3 nm em pm => ?_⟩
      obtain ⟨zs, pz, rfl⟩ := perm_of_map pm rs rfl
      have mb : m ≠ bg := fun z => E2.bag.there (z ▸ nm)
      refine ⟨_, rfl, sz (by show 3 ≤ 900; decide), fun q nq => ?_⟩
      have E4 := E3.new (o := .lst [.int 1, .int 1, .int 2]) nq
      have qb : q ≠ bg := fun z => E3.bag.there (z ▸ nq)
      refine ⟨bg, q, _, rfl, E4.bag, qb, .inl upd_same, by decide, by decide, fun u H4 mu E5 => ?_⟩
      obtain ⟨y, rfl, y1, y2⟩ := ints_in (ns := [1, 1, 2]) (lo := 1) (hi := 2) (by decide) mu
      have hm := E5.keep m _ mb (same_upd (o := .lst [.int 1, .int 1, .int 2]) nq _ _ em)
      refine ⟨y, rfl, _, _, rfl, SqL.of hm, fun l nl => ?_⟩
      rw [cut_to _ y (by omega), ← List.map_take]
      refine ⟨l, zs.take y.toNat, rfl, SqL.of upd_same, by rw [List.length_take]; omega, fun us t pu su nt => ?_⟩
      refine ⟨t, _, rfl, .inl ⟨SqL.of upd_same, fun l2 nl2 => ⟨sz (by show 2 ≤ 900; decide), fun b nb => ?_⟩⟩⟩
      have E6 := (((((E1.trans E2).trans (E4.trans E5)).new nl).new nt).new nl2).new (o := .tup [.ref p, .ref l2]) nb
      have Eb := ((((E4.trans E5).new nl).new nt).new nl2).new (o := .tup [.ref p, .ref l2]) nb
      exact k b p (.ref l2) rs ks _ E6 upd_same lrs (BookAt.ts ⟨r, kt, kas, e1, e2, e3, pk⟩ (TSame.ext E2.bag Eb)) hO
    · dsimp only [tNext]
      refine seqGo (fun b D => ∀ (p : Addr) (rs : List Str) (ks : List Kd) (H2 : Hp), Ext bg H H2 → rs.length ≤ 5 → BookAt H2 p rs ks → BookOk rs ks → b D [some (.ref bg), some (.int n), some (.int z), some (.ref p)] H2) (fun p rs ks H2 E2 lrs hA hO => ?_) (fun rest => ?_)
      · obtain ⟨r, kt, kas, e1, e2, e3, pk⟩ := hA
        refine ⟨_, rfl, _, rfl, p, _, 0, .ref r, rfl, rfl, SqT.of e1, rfl, ?_⟩
        refine ⟨_, rfl, r, _, rfl, SqT.of e2, fun hw => ?_, fun hw q nq => ?_⟩
        · refine ⟨sz (by show 2 ≤ 900; decide), fun b nb => ?_⟩
          exact k b p (.ref r) rs ks _ (E2.new nb) upd_same lrs (BookAt.ts ⟨r, kt, kas, e1, e2, e3, pk⟩ (same_ts_new nb)) hO
        · refine ⟨sz (by show 2 ≤ 900; decide), fun b nb => ?_⟩
          exact k b p (.ref q) rs ks _ ((E2.new nq).new nb) upd_same lrs (BookAt.ts ⟨r, kt, kas, e1, e2, e3, pk⟩ ((same_ts_new nq).tr (same_ts_new nb))) hO
      · refine ⟨_, rfl, rfl, _, rfl, ite2 (fun h8 => ?_) fun h8 => ?_⟩
        · refine ⟨_, rfl, _, rfl, bg, n, rfl, E1.bag, n1, n5, fun p rs ks H2 E2 np lrs hA hO => ?_⟩
          exact rest p rs ks H2 (E1.trans E2) lrs hA hO
        · refine ⟨_, rfl, sz (by show 4 ≤ 900; decide), fun l nl => ?_⟩
          have z4 : 4 ≤ z := by simpa using hc
          have z8 : z ≠ 8 := by simpa using h8
          have E2 := E1.new (o := .lst [.str "ever", .str "longer", .str "gone", .str "none"]) nl
          obtain ⟨so, eso, hso⟩ : ∃ so : Str, atI [V.str "ever", V.str "longer", V.str "gone", V.str "none"] (z - 4) = some (.str so) ∧ (so = "ever" ∨ so = "longer" ∨ so = "gone" ∨ so = "none") := by
            have : z = 4 ∨ z = 5 ∨ z = 6 ∨ z = 7 := by omega
            rcases this with rfl | rfl | rfl | rfl
            · exact ⟨_, rfl, .inl rfl⟩
            · exact ⟨_, rfl, .inr (.inl rfl)⟩
            · exact ⟨_, rfl, .inr (.inr (.inl rfl))⟩
            · exact ⟨_, rfl, .inr (.inr (.inr rfl))⟩
          refine ⟨_, rfl, _, _, rfl, rfl, l, _, _, .str so, rfl, rfl, SqL.of upd_same, eso, _, rfl, bg, so, n, rfl, E2.bag, hso, n1, n5, fun p rs ks H2 E3 np lrs hA hO => ?_⟩
          exact rest p rs ks H2 (E2.trans E3) lrs hA hO
end
end KaG


set_option maxRecDepth 100000
set_option maxHeartbeats 4000000
namespace KaG
open PySem PySem.Spec PyProof.Rows L2 KaN
section
variable {P : Program} {w : World} {K : PySem.W.Frag} {mg : Str → Option Value} {base : Heap}
def spRbS : Sp := fun vs H Q _ => ∃ (bg : Addr) (n : Int), vs = [.ref bg, .int n] ∧ Bag H bg ∧ 1 ≤ n ∧ n ≤ 5 ∧ ∀ (t p sa : Addr) (rs S : List Str) (ks : List Kd) (H' : Hp), Ext bg H H' → H' t = some (.tup [.ref p, .ref sa]) → H' sa = some (.tup (S.map V.str)) → S.length ≤ 5 → (∀ n ∈ S, n ∈ nmAll) → rs.length ≤ 5 → BookAt H' p rs ks → BookOk rs ks → Q (.ref t) H'
theorem ok_rbS {f fX fS fT fA fP fH : Addr} {fd fdX fdS fdT fdA fdP fdH : FuncData} (F : Fun K "_law_rulebook" "_law_rulebook" sRulebook f fd) (T : TxtC mg) (CX : Ct P w K mg base "_law_mixed" 2 ["bag", "things"] spMixed fX fdX)
    (C : Ct P w K mg base "_law_some" 2 ["bag", "things"] spSome2 fS fdS) (CT : Ct P w K mg base "_law_take" 1 ["bag", "upto"] spTake fT fdT) (CA : Ct P w K mg base "_law_any_rulebook" 6 ["bag", "kinds", "rows"] spAny fA fdA)
    (CP : Ct P w K mg base "_law_planted" 6 ["bag", "sort", "kinds"] spPl fP fdP) (CH : Ct P w K mg base "_law_threaded" 6 ["bag", "kinds"] spTh fH fdH) : FnOk P w K mg base CX0 7 f fd ["bag", "kinds"] spRbS := by
  refine F.ok scRb (fun vs H Q E h => ?_) (fun cdv A outer s H vs Q E hr h => ?_)
  · obtain ⟨bg, n, rfl, _⟩ := h
    rfl
  · obtain ⟨bg, n, rfl, hB, n1, n5, k⟩ := h
    have hr6 : Room 6 (A.deeper (envOfC "_law_rulebook" (defScope sRulebook) s.heap.objs.size f cdv)) := hr.mono (by decide)
    have hr2 : Room 2 (A.deeper (envOfC "_law_rulebook" (defScope sRulebook) s.heap.objs.size f cdv)) := hr.mono (by decide)
    have hr1 : Room 1 (A.deeper (envOfC "_law_rulebook" (defScope sRulebook) s.heap.objs.size f cdv)) := hr.mono (by decide)
    refine ⟨_, (pss_cons (ps_set (i := 2) scRb.nd rfl (Or.inl rfl) (pe_call CT.G hr1 (by rfl) CT.m CT.kp CT.b .nil pass0 (pa_cons (pv 0) (pa_cons pe_int pa_nil))))
      (pss_cons (ps_if (pt_cmpR op_lt (pv 2) pe_int (nomark _))
        (pss_cons (ps_set (i := 3) scRb.nd rfl (Or.inl rfl) (pe_call CA.G hr6 (by rfl) CA.m CA.kp CA.b .nil pass0 (pa_cons (pv 0) (pa_cons (pv 1) (pa_cons pe_int pa_nil)))))
        (pss_one (ps_ret (pe_tup (pa_cons (pv 3) (pa_cons (pe_callTy call_tuple_of (by rfl) T.tup (by decide +kernel) (pa_cons (pe_callB cr_sortedS (by rfl) T.sor (by decide +kernel)
          (pa_cons (pe_slice sl_list (pe_call CX.G hr2 (by rfl) CX.m CX.kp CX.b .nil pass0 (pa_cons (pv 0) (pa_cons (pe_ix ix_tup (pv 3) pe_int (fun _ _ => rfl)) pa_nil))) po_none
            (po_some (pe_call C.G hr2 (by rfl) C.m C.kp C.b .nil pass0 (pa_cons (pv 0) (pa_cons (pe_lst (pa_cons pe_int (pa_cons pe_int (pa_cons pe_int pa_nil)))) pa_nil))))) pa_nil)) pa_nil)) pa_nil)))))) pss_nil)
      (pss_cons (ps_if (pt_cmpR op_eq (pv 2) pe_int (nomark _))
        (pss_one (ps_set (i := 3) scRb.nd rfl (Or.inl rfl) (pe_call CH.G hr6 (by rfl) CH.m CH.kp CH.b .nil pass0 (pa_cons (pv 0) (pa_cons (pv 1) pa_nil)))))
        (pss_one (ps_set (i := 3) scRb.nd rfl (Or.inl rfl) (pe_call CP.G hr6 (by rfl) CP.m CP.kp CP.b .nil pass0 (pa_cons (pv 0) (pa_cons (pe_ix ix_list (pe_lst (pa_cons pe_str (pa_cons pe_str (pa_cons pe_str (pa_cons pe_str pa_nil))))) (pe_op op_sub (pv 2) pe_int) (fun _ _ => rfl)) (pa_cons (pv 1) pa_nil)))))))
      (pss_one (ps_ret (pe_tup (pa_cons (pv 3) (pa_cons (pe_slice sl_tupA (pe_ix ix_tup (pv 3) pe_int (fun _ _ => rfl)) po_none (po_some pe_int)) pa_nil)))))))), ?_⟩
    have sz : ∀ {m : Nat}, m ≤ 900 → m ≤ sizeLine := fun h => Nat.le_of_lt (small1000 (by omega))
    refine ⟨_, rfl, bg, 9, rfl, hB, by decide, by decide, fun z H1 E1 a0 a1 => ?_⟩
    refine ⟨_, rfl, _, _, rfl, rfl, _, rfl, ite2 (fun hc => ?_) fun hc => ?_⟩
    · refine ⟨_, rfl, _, rfl, bg, n, 3, rfl, E1.bag, n1, n5, by decide, by decide, fun p rs ks H2 E2 np lrs hA hO => ?_⟩
      obtain ⟨r, kt, kas, e1, e2, e3, pk⟩ := hA
      have rb : r ≠ bg := tup_ne E2.bag e2
      refine ⟨_, rfl, _, rfl, _, rfl, p, _, 0, .ref r, rfl, rfl, SqT.of e1, rfl, bg, r, rs.map V.str, rfl, E2.bag, rb, .inr e2, by rw [List.length_map]; omega, fun m ys H3 E3 nm em pm => ?_⟩
      obtain ⟨zs, pz, rfl⟩ := perm_of_map pm rs rfl
      have mb : m ≠ bg := fun z => E2.bag.there (z ▸ nm)
      refine ⟨_, rfl, sz (by show 3 ≤ 900; decide), fun q nq => ?_⟩
      have E4 := E3.new (o := .lst [.int 1, .int 1, .int 2]) nq
      have qb : q ≠ bg := fun z => E3.bag.there (z ▸ nq)
      refine ⟨bg, q, _, rfl, E4.bag, qb, .inl upd_same, by decide, by decide, fun u H4 mu E5 => ?_⟩
      obtain ⟨y, rfl, y1, y2⟩ := ints_in (ns := [1, 1, 2]) (lo := 1) (hi := 2) (by decide) mu
      have hm := E5.keep m _ mb (same_upd (o := .lst [.int 1, .int 1, .int 2]) nq _ _ em)
      refine ⟨y, rfl, _, _, rfl, SqL.of hm, fun l nl => ?_⟩
      rw [cut_to _ y (by omega), ← List.map_take]
      refine ⟨l, zs.take y.toNat, rfl, SqL.of upd_same, by rw [List.length_take]; omega, fun us t pu su nt => ?_⟩
      refine ⟨t, _, rfl, .inl ⟨SqL.of upd_same, fun l2 nl2 => ⟨sz (by show 2 ≤ 900; decide), fun b nb => ?_⟩⟩⟩
      have E6 := (((((E1.trans E2).trans (E4.trans E5)).new nl).new nt).new nl2).new (o := .tup [.ref p, .ref l2]) nb
      have Eb := ((((E4.trans E5).new nl).new nt).new nl2).new (o := .tup [.ref p, .ref l2]) nb
      have memu : ∀ n ∈ us, n ∈ rs := fun n m => pz.mem_iff.mp (List.mem_of_mem_take (pu.mem_iff.mp m))
      have lenu : us.length ≤ 5 := by
        have h1 := pu.length_eq
        have h2 := pz.length_eq
        rw [List.length_take] at h1
        omega
      exact k b p l2 rs us ks _ E6 upd_same (same_upd nb _ _ upd_same) lenu (fun n m => hO.rw.of n (memu n m)) lrs (BookAt.ts ⟨r, kt, kas, e1, e2, e3, pk⟩ (TSame.ext E2.bag Eb)) hO
    · dsimp only [tNext]
      refine seqGo (fun b D => ∀ (p : Addr) (rs : List Str) (ks : List Kd) (H2 : Hp), Ext bg H H2 → rs.length ≤ 5 → BookAt H2 p rs ks → BookOk rs ks → b D [some (.ref bg), some (.int n), some (.int z), some (.ref p)] H2) (fun p rs ks H2 E2 lrs hA hO => ?_) (fun rest => ?_)
      · obtain ⟨r, kt, kas, e1, e2, e3, pk⟩ := hA
        refine ⟨_, rfl, _, rfl, p, _, 0, .ref r, rfl, rfl, SqT.of e1, rfl, ?_⟩
        refine ⟨_, rfl, r, _, rfl, SqT.of e2, fun hw => ?_, fun hw q nq => ?_⟩
        · refine ⟨sz (by show 2 ≤ 900; decide), fun b nb => ?_⟩
          exact k b p r rs rs ks _ (E2.new nb) upd_same (same_upd nb _ _ e2) lrs hO.rw.of lrs (BookAt.ts ⟨r, kt, kas, e1, e2, e3, pk⟩ (same_ts_new nb)) hO
        · refine ⟨sz (by show 2 ≤ 900; decide), fun b nb => ?_⟩
          have ec : cutV (rs.map V.str) none (some 1) = (rs.take 1).map V.str := by rw [cut_to _ 1 (by decide), ← List.map_take]; rfl
          exact k b p q rs (rs.take 1) ks _ ((E2.new nq).new nb) upd_same (same_upd nb _ _ (by rw [upd_same, ec])) (by rw [List.length_take]; omega) (fun n m => hO.rw.of n (List.mem_of_mem_take m)) lrs (BookAt.ts ⟨r, kt, kas, e1, e2, e3, pk⟩ ((same_ts_new nq).tr (same_ts_new nb))) hO
      · refine ⟨_, rfl, rfl, _, rfl, ite2 (fun h8 => ?_) fun h8 => ?_⟩
        · refine ⟨_, rfl, _, rfl, bg, n, rfl, E1.bag, n1, n5, fun p rs ks H2 E2 np lrs hA hO => ?_⟩
          exact rest p rs ks H2 (E1.trans E2) lrs hA hO
        · refine ⟨_, rfl, sz (by show 4 ≤ 900; decide), fun l nl => ?_⟩
          have z4 : 4 ≤ z := by simpa using hc
          have z8 : z ≠ 8 := by simpa using h8
          have E2 := E1.new (o := .lst [.str "ever", .str "longer", .str "gone", .str "none"]) nl
          obtain ⟨so, eso, hso⟩ : ∃ so : Str, atI [V.str "ever", V.str "longer", V.str "gone", V.str "none"] (z - 4) = some (.str so) ∧ (so = "ever" ∨ so = "longer" ∨ so = "gone" ∨ so = "none") := by
            have : z = 4 ∨ z = 5 ∨ z = 6 ∨ z = 7 := by omega
            rcases this with rfl | rfl | rfl | rfl
            · exact ⟨_, rfl, .inl rfl⟩
            · exact ⟨_, rfl, .inr (.inl rfl)⟩
            · exact ⟨_, rfl, .inr (.inr (.inl rfl))⟩
            · exact ⟨_, rfl, .inr (.inr (.inr rfl))⟩
          refine ⟨_, rfl, _, _, rfl, rfl, l, _, _, .str so, rfl, rfl, SqL.of upd_same, eso, _, rfl, bg, so, n, rfl, E2.bag, hso, n1, n5, fun p rs ks H2 E3 np lrs hA hO => ?_⟩
          exact rest p rs ks H2 (E2.trans E3) lrs hA hO
end
end KaG


set_option maxRecDepth 100000
set_option maxHeartbeats 4000000
namespace KaG
open PySem PySem.Spec PyProof.Rows L2 KaC LamX NdefX
/-- for k in d, a dict that is locked -/
theorem for_keysL {d : Addr} {o : Obj} {kvs : List (Key × V)} {g : TG} {tb : TS} {D : Ends} {σ : L2.St} {H : Hp} (Pv : Nat → L2.St → Hp → Prop) (h0 : Pv 0 σ H) (hl : ∀ i σ H, i ≤ kvs.length → Pv i σ H → H d = some (.frz o (.dK kvs)))
    (hs : ∀ i k v σ H, kvs[i]? = some (k, v) → Pv i σ H → g (kV k) σ H fun σ2 H2 => tb { D with nx := Pv (i + 1), ct := Pv (i + 1), bk := D.nx } σ2 H2) (hd : ∀ σ H, Pv kvs.length σ H → D.nx σ H) :
    ∃ W : Nat → Nat → L2.St → Hp → Prop, (∃ m, W 0 m σ H) ∧ ∀ i m σ H, W i m σ H →
      ((Itk d o kvs).stop i H ∧ D.nx σ H) ∨ ((Itk d o kvs).go i H ∧ ∃ N : L2.St → Hp → Prop, (∀ σ' H', N σ' H' → ∃ m', m' < m ∧ W (i + 1) m' σ' H') ∧ ∀ x H', (Itk d o kvs).yld i H x H' → g x σ H' fun σ2 H2 => tb { D with nx := N, ct := N, bk := D.nx } σ2 H2) := by
  refine ⟨fun i m σ H => m = kvs.length - i ∧ i ≤ kvs.length ∧ Pv i σ H, ⟨_, rfl, Nat.zero_le _, h0⟩, fun i m σ H ⟨em, hi, p⟩ => ?_⟩
  have q := hl i σ H hi p
  rcases Nat.lt_or_ge i kvs.length with lt | ge
  · refine .inr ⟨⟨q, lt⟩, Pv (i + 1), fun σ' H' p' => ⟨kvs.length - (i + 1), by omega, rfl, lt, p'⟩, fun x H' ⟨e, k, v, y, z⟩ => ?_⟩
    subst e; subst z
    exact hs i k v σ _ y p
  · obtain rfl : i = kvs.length := by omega
    exact .inl ⟨⟨q, Nat.le_refl _⟩, hd σ H p⟩
theorem tabs_wr {T : List NTab} {H : Hp} {d : Addr} {u o : HO} (t : TabsN T H) (e : H d = some u) (n1 : ∀ ps, u ≠ .tbl ps) (n2 : ∀ c q, u ≠ CodeO c q) : TabsN T (upd H d o) := fun q hq => by
  obtain ⟨ps, h1, h2, h3⟩ := t q hq
  refine ⟨ps, by rw [upd_ne (fun z => by rw [z, e] at h1; exact n1 _ (Option.some.inj h1))]; exact h1, h2, fun pos cv hc => ?_⟩
  obtain ⟨c, e1, e2⟩ := h3 pos cv hc
  exact ⟨c, e1, by rw [upd_ne (fun z => by rw [z, e] at e2; exact n2 _ _ (Option.some.inj e2))]; exact e2⟩
theorem tabs_dk {T : List NTab} {H : Hp} {d : Addr} {kvs : List (Key × V)} {o : HO} (t : TabsN T H) (e : H d = some (.dK kvs)) : TabsN T (upd H d o) := tabs_wr t e (fun _ z => nomatch z) (fun _ _ z => by unfold CodeO at z; cases z)
theorem tabs_bag {T : List NTab} {H H' : Hp} {bg : Addr} (t : TabsN T H) (hb : Bag H bg) (E : Ext bg H H') : TabsN T H' := fun q hq => by
  obtain ⟨ps, h1, h2, h3⟩ := t q hq
  obtain ⟨c, st, i, b2, ns, e1, _⟩ := id hb
  refine ⟨ps, E.keep _ _ (fun z => by rw [z, e1] at h1; cases h1) h1, h2, fun pos cv hc => ?_⟩
  obtain ⟨c, g1, g2⟩ := h3 pos cv hc
  exact ⟨c, g1, E.keep _ _ (fun z => by rw [z, e1] at g2; unfold CodeO at g2; cases g2) g2⟩
/-! ### names in order -/
theorem rising_of : ∀ {r : List Str} {p : Str}, (∀ x ∈ r, leN p x) → r.Pairwise leN → risingS p r = true
  | [], _, _, _ => rfl
  | x :: r, p, h, .cons h1 h2 => by
    unfold risingS
    rw [Bool.and_eq_true, Bool.not_eq_true']
    exact ⟨h x List.mem_cons_self, rising_of h1 h2⟩
theorem pw_sortedS {ns : List Str} (h : ns.Pairwise leN) : sortedS ns = true := by
  cases h with
  | nil => rfl
  | cons h1 h2 => exact rising_of h1 h2
theorem sub_sorted {ns : List Str} {p : Str → Bool} (hn : ∀ x ∈ ns, x ∈ nmAll) (h : sortedS ns = true) : sortedS (ns.filter p) = true := pw_sortedS ((sortedS_pw hn h).sublist List.filter_sublist)
theorem IsL.srt {rows : List Str} {ks : List Kd} {J : Jn} {B : List Str} (hO : BookOk rows ks) (h : IsL (nmsOf ks) J B) : sortedS B = true := by
  rw [h.fl]
  exact sub_sorted hO.nm.of hO.nm.up
/-- the law's names, sorted, are the program's -/
theorem sort_is {rows : List Str} {ks : List Kd} {J : Jn} {F B ys : List Str} (hO : BookOk rows ks) (hC : Chs (nmsOf ks) J F) (hc : Clo (nmsOf ks) J F) (hB : IsL (nmsOf ks) J B) (p : ys.Perm F) (s : sortedS ys = true) : ys = B :=
  sorted_one (fun x m => hO.nm.of x (hB.sub x m)) (hB.srt hO) s (p.trans (hC.perm hO.nm.nd hc hB))
/-! ### data with bounds -/
theorem GdA.ixs {H : Hp} : ∀ {xs : List Nat}, (∀ i ∈ xs, i ≤ 60) → GdA H (ixV xs) (xs.map fun i : Nat => PyData.int (i : Int)) 0 20
  | [], _ => .nil
  | x :: r, h => .cons (.int (by omega) (by have := h x List.mem_cons_self; omega)) (GdA.ixs fun y m => h y (List.mem_cons_of_mem _ m))
def ixD (xs : List Nat) : PyData := .list (xs.map fun i : Nat => PyData.int (i : Int))
def ixT (xs : List Nat) : PyData := .tuple (xs.map fun i : Nat => PyData.int (i : Int))
theorem Gd.ixL {H : Hp} {l : Addr} {xs : List Nat} (e : H l = some (.lst (ixV xs))) (h : ∀ i ∈ xs, i ≤ 60) (hl : xs.length ≤ 5) : Gd H (.ref l) (ixD xs) 1 113 := Gd.lst e (GdA.ixs h) (c := 5) (by rw [ixV_len]; exact hl)
theorem Gd.ixU {H : Hp} {l : Addr} {xs : List Nat} (e : H l = some (.tup (ixV xs))) (h : ∀ i ∈ xs, i ≤ 60) (hl : xs.length ≤ 5) : Gd H (.ref l) (ixT xs) 1 113 := Gd.tup e (GdA.ixs h) (c := 5) (by rw [ixV_len]; exact hl)
theorem Gd.strsU {H : Hp} {l : Addr} {ns : List Str} (e : H l = some (.tup (ns.map V.str))) (hn : ∀ x ∈ ns, x ∈ nmAll) (hl : ns.length ≤ 5) : Gd H (.ref l) (.tuple (ns.map PyData.str)) 1 113 := Gd.tup e (GdA.strs hn) (c := 5) (by rw [List.length_map]; exact hl)
theorem Gd.pair {H : Hp} {p q : Addr} {w : Str} {xs : List Nat} (e : H p = some (.tup [.str w, .ref q])) (eq : H q = some (.tup (ixV xs))) (hw : w = "all" ∨ w = "one" ∨ w = "none") (h : ∀ i ∈ xs, i ≤ 60) (hl : xs.length ≤ 5) : Gd H (.ref p) (.tuple [.str w, ixT xs]) 2 233 := by
  have gw : Gd H (.str w) (.str w) 0 20 := by
    refine ⟨.str w, ?_, by simp [PyData.depth], ?_⟩
    · rcases hw with rfl | rfl | rfl <;> decide +kernel
    · rcases hw with rfl | rfl | rfl <;> decide +kernel
  exact Gd.tup e (.cons (gw.wk (m' := 1) (n' := 113)) (.cons (Gd.ixU eq h hl) .nil)) (c := 2) (Nat.le_refl 2)
theorem oldPl_w {S C A : List Str} {g : Gr} : (oldPl S C A g).1 = "all" ∨ (oldPl S C A g).1 = "one" ∨ (oldPl S C A g).1 = "none" := by
  unfold oldPl
  split
  · exact .inl rfl
  · split
    · exact .inr (.inl rfl)
    · exact .inr (.inr rfl)
theorem ats_lt {α : Type} {t : α → Bool} {xs : List α} : ∀ i ∈ ats t xs, i < xs.length := fun i m => by
  obtain ⟨x, h, _⟩ := ats_mem.mp m
  exact (List.getElem?_eq_some_iff.mp h).1
theorem oldPl_ix {S C A : List Str} {g : Gr} : (∀ i ∈ (oldPl S C A g).2, i < g.length) ∧ (oldPl S C A g).2.length ≤ g.length := by
  unfold oldPl
  split
  · exact ⟨ats_lt, forcedPl_le⟩
  · split
    · exact ⟨ats_lt, placesOn_le⟩
    · exact ⟨(fun _ z => nomatch z), Nat.zero_le _⟩
theorem oldPl_cg {S C C' A A' : List Str} {g : Gr} (hC : ∀ n, n ∈ C ↔ n ∈ C') (hA : ∀ n, n ∈ A ↔ n ∈ A') : oldPl S C A g = oldPl S C' A' g := by
  unfold oldPl
  rw [forcedPl_cg hC, placesOn_cg hA]
theorem Gd.two {H : Hp} {l : Addr} {v u : V} {x y : PyData} {m n : Nat} (e : H l = some (.lst [v, u])) (h1 : Gd H v x m n) (h2 : Gd H u y m n) : Gd H (.ref l) (.list [x, y]) (m + 1) (2 * (n + 2) + 3) := Gd.lst e (.cons h1 (.cons h2 .nil)) (c := 2) (Nat.le_refl 2)
theorem Gd.tri {H : Hp} {l : Addr} {v u t : V} {x y z : PyData} {m n : Nat} (e : H l = some (.lst [v, u, t])) (h1 : Gd H v x m n) (h2 : Gd H u y m n) (h3 : Gd H t z m n) : Gd H (.ref l) (.list [x, y, z]) (m + 1) (3 * (n + 2) + 3) := Gd.lst e (.cons h1 (.cons h2 (.cons h3 .nil))) (c := 3) (Nat.le_refl 3)
theorem ts_dk' {H : Hp} {p : Addr} {xs : List (Key × V)} {o : HO} (e : H p = some (.dK xs)) : TSame H (upd H p o) := fun b zs q => by
  rw [upd_ne (fun z => by rw [z, e] at q; cases q)]
  exact q
theorem kvs_nm {ks : List Kd} {ts : List Addr} {i : Nat} {k : Key} {v : V} (h : (kvsOf ks ts)[i]? = some (k, v)) : ∃ kd, kd ∈ ks ∧ k = Sum.inr kd.name := by
  unfold kvsOf at h
  rw [List.getElem?_map] at h
  obtain ⟨z, hz, e⟩ := Option.map_eq_some_iff.mp h
  cases e
  exact ⟨z.1, (List.of_mem_zip (List.mem_of_getElem? hz)).1, rfl⟩
theorem Ex.unlock {T : List NTab} {HB G : Hp} {d : Addr} {od : Obj} {kvs : List (Key × V)} (e : HB d = some (.dK kvs)) (x : Ex T (upd HB d (.frz od (.dK kvs))) G) : Ex T HB (upd G d (.dK kvs)) := by
  have gd : G d = some (.frz od (.dK kvs)) := x.ext d _ upd_same fun _ z => nomatch z
  refine ⟨fun b o q n => ?_, tabs_wr x.tab gd (fun _ z => nomatch z) (fun _ _ z => by unfold CodeO at z; cases z), fun b q => ?_⟩
  · by_cases z : b = d
    · rw [z] at q ⊢
      rw [upd_same, ← q, e]
    · rw [upd_ne z]
      exact x.ext b o (by rw [upd_ne z]; exact q) n
  · by_cases z : b = d
    · rw [z, upd_same] at q
      cases q
    · rw [upd_ne z] at q
      have := x.non b q
      rw [upd_ne z] at this
      exact this
end KaG


set_option maxRecDepth 100000
set_option maxHeartbeats 4000000
/-! _starts_of -/
namespace KaG
open PySem PySem.Spec PyProof.Rows L2 KaC KaN LamX NdefX KaU
def IsMx (x : Str → Int) (m : Int) (g : Gr) : Prop := (∀ it ∈ g, dN x (ndK it) ≤ m) ∧ ∃ it ∈ g, dN x (ndK it) = m
theorem isDay_of {ks : List Kd} {x : Str → Int} {n : Str} {ns : List Int} {day : Int} (h : Paired (IsMx x) ns (lvG ks n)) (h0 : ns = [] → day = NEV) (h1 : ns ≠ [] → day ∈ ns ∧ ∀ y ∈ ns, day ≤ y) : IsDay (lvN ks) x n day := by
  by_cases e : ns = []
  · subst e
    refine .inl ⟨h0 rfl, ?_⟩
    unfold lvN
    have := paired_len h
    rw [List.eq_nil_of_length_eq_zero this.symm]
    rfl
  · obtain ⟨m, le⟩ := h1 e
    refine .inr ⟨?_, fun g mg => ?_⟩
    · obtain ⟨i, hi⟩ := List.mem_iff_getElem?.mp m
      obtain ⟨g, hg, hm, _⟩ := paired_at h hi
      refine ⟨_, List.mem_map.mpr ⟨g, List.mem_of_getElem? hg, rfl⟩, fun d md => ?_⟩
      obtain ⟨it, mi, rfl⟩ := List.mem_map.mp md
      exact hm it mi
    · obtain ⟨g0, m0, rfl⟩ := List.mem_map.mp mg
      obtain ⟨i, hi⟩ := List.mem_iff_getElem?.mp m0
      obtain ⟨y, hy, _, it, mi, e2⟩ := paired_at2 h hi
      exact ⟨_, List.mem_map.mpr ⟨it, mi, rfl⟩, by rw [e2]; exact le y (List.mem_of_getElem? hy)⟩
/-- what is known of the starts at any moment -/
structure SF (ks : List Kd) (S : List Str) (f : Str → Option Int) : Prop where
  pi : PI (lvN ks) (fun n => decide (n ∈ cleanOf ks S)) (stX f)
  lt : ∀ n v, f n = some v → v < NEV
/-- and at the end -/
structure FS (ks : List Kd) (S : List Str) (f : Str → Option Int) : Prop where
  sf : SF ks S f
  pf : PF (nmsOf ks) (lvN ks) (stX f)
  hB : IsL (nmsOf ks) (jB ks) (bearOf ks)
  hC : IsL (nmsOf ks) (jC ks (bearOf ks) S) (cleanOf ks S)
noncomputable def f0 (C : List Str) : Str → Option Int := fun n => if n ∈ C then some ALW else none
theorem sf0 {ks : List Kd} {S : List Str} : SF ks S (f0 (cleanOf ks S)) := by
  have N2 : NEV = (2000000 : Int) := rfl
  have A2 : ALW = (-1000000 : Int) := rfl
  have x0 : ∀ n, stX (f0 (cleanOf ks S)) n = if n ∈ cleanOf ks S then ALW else NEV := fun n => by
    unfold stX f0
    split <;> rfl
  refine ⟨⟨fun n h => ?_, fun n h => ?_, fun n => ?_, fun n h lt => ?_⟩, fun n v h => ?_⟩
  · rw [x0, if_pos (of_decide_eq_true h)]
  · rw [x0, if_neg (of_decide_eq_false h)]
    decide
  · rw [x0]
    split <;> omega
  · rw [x0, if_neg (of_decide_eq_false h)] at lt
    omega
  · unfold f0 at h
    split at h
    · injection h with h
      omega
    · cases h
theorem stX_up {f : Str → Option Int} {n : Str} {v : Int} : stX (fUp f n v) = up (stX f) n v := by
  funext m
  unfold stX fUp up
  by_cases e : n = m
  · rw [if_pos e, if_pos e.symm]
    rfl
  · rw [if_neg e, if_neg fun z => e z.symm]
theorem SF.step {ks : List Kd} {S : List Str} {f : Str → Option Int} (h : SF ks S f) {n : Str} {day : Int} (hd : IsDay (lvN ks) (stX f) n day) (lt : day < stX f n) : SF ks S (fUp f n day) := by
  have le := h.pi.le n
  refine ⟨by rw [stX_up]; exact h.pi.step hd lt, fun m v e => ?_⟩
  unfold fUp at e
  split at e
  · injection e with e
    omega
  · exact h.lt m v e
theorem Ex.wrK {T : List NTab} {H H' : Hp} {p : Addr} {xs ys : List (Key × V)} (a : Ex T H H') (e : H' p = some (.dK xs)) (n : H p = none) : Ex T H (upd H' p (.dK ys)) := by
  refine ⟨fun b o q h => by rw [upd_ne (ne_of_none q n)]; exact a.ext b o q h, tabs_dk a.tab e, fun b h => ?_⟩
  by_cases z : b = p
  · rw [z, upd_same] at h
    cases h
  · rw [upd_ne z] at h
    exact a.non b h
theorem tYes_go {σ : L2.St} {H : Hp} {Q : Bool → Hp → Prop} (h : Q true H) : tYes σ H Q := h
theorem Ex.lock2 {T : List NTab} {H G : Hp} {d : Addr} {kvs : List (Key × V)} (o : Obj) (X : Ex T H G) (e : H d = some (.dK kvs)) : Ex T (upd H d (.frz o (.dK kvs))) (upd G d (.frz o (.dK kvs))) := by
  have eG := X.dk e
  refine ⟨fun b u q n => ?_, tabs_dk X.tab eG, fun b q => ?_⟩
  · by_cases z : b = d
    · rw [z] at q ⊢
      rw [upd_same] at q ⊢
      exact q
    · rw [upd_ne z] at q ⊢
      exact X.ext b u q n
  · by_cases z : b = d
    · rw [z, upd_same] at q
      cases q
    · rw [upd_ne z] at q ⊢
      exact X.non b q
section
variable {P : Program} {w : World} {K : PySem.W.Frag} {mg : Str → Option Value} {base : Heap}
abbrev sStarts : Stmt := top 21
abbrev nmSt : List Str := ["rulebook", "struck", "live", "starts", "falls", "name", "grounds", "index", "days", "ground", "need", "day"]
theorem scSt : FnScope nmSt ["rulebook", "struck", "live"] (defScope sStarts) := ⟨rfl, rfl, rfl, by decide +kernel, rfl, by decide +kernel, by decide +kernel⟩
abbrev scDay : Scope := { kind := .function, names := [(".0", .local), ("ground", .local), ("max", .globalImplicit), ("starts", .cell)], isGenerator := false, isCoroutine := false, more := [] }
def spStarts (T : List NTab) : Sp := fun vs H Q _ => ∃ (b sa d : Addr) (rows : List Str) (ks : List Kd) (S : List Str) (ls : List Addr), vs = [.ref b, .ref sa, .ref d] ∧ BookAt H b rows ks ∧ BookOk rows ks ∧ Sq2 H sa (S.map V.str) ∧ LiveH H d ks ls ∧ TabsN T H ∧
  ∀ (p : Addr) (f : Str → Option Int) (H' : Hp), Ex T H H' → H p = none → StA H' p f (nmsOf ks) → FS ks S f → Q (.ref p) H'
theorem ok_starts {T : List NTab} {f fC fK fD : Addr} {fd fdC fdK fdD : FuncData} (F : Fun K "_starts_of" "_starts_of" sStarts f fd) (Z : NvT mg)
    (CC : Ct P w K mg base "clean_kinds" 7 ["rulebook", "struck"] (spClean T) fC fdC) (CK : Ct P w K mg base "kind_of" 1 ["rulebook", "name"] spKindN fK fdK) (CD : Ct P w K mg base "day_of_need" 1 ["starts", "need"] spDayN fD fdD) : FnOk P w K mg base CX0 8 f fd ["rulebook", "struck", "live"] (spStarts T) := by
  refine F.ok scSt (fun vs H Q E h => ?_) (fun cdv A outer s H vs Q E hr h => ?_)
  · obtain ⟨b, sa, d, rows, ks, S, ls, rfl, _⟩ := h
    rfl
  · obtain ⟨b, sa, d, rows, ks, S, ls, rfl, hA, hO, hS, hL, hT, k⟩ := h
    have u1 := hu_of hr
    have hr1 : Room 1 (A.deeper (envOfC "_starts_of" (defScope sStarts) s.heap.objs.size f cdv)) := hr.mono (by decide)
    have hu : (A.deeper (envOfC "_starts_of" (defScope sStarts) s.heap.objs.size f cdv)).units + 64 < cLine := by have := hr.3; omega
    refine ⟨_, (pss_cons (ps_set (i := 3) scSt.nd rfl (Or.inr rfl) (pe_dc (own := [("name", 5)]) (g := gName 5) (by rfl) scSt.nd (pi_tup (pe_call CC.G hr (by rfl) CC.m CC.kp CC.b .nil pass0 (pa_cons (pv 0) (pa_cons (pv 1) pa_nil))))
        (blkOk_by (own := [("name", 5)]) (N := nmSt) (sc := defScope sStarts) (by decide +kernel)) (fun _ _ _ _ _ => pg_name (i := 5) scSt.nd rfl (Or.inl rfl)) (fun _ _ _ _ _ => pts_nil)
        (fun _ _ _ _ _ => pv 5) (fun _ _ _ _ _ => C8.pe_gc (by rfl) Z.alw)))
      (pss_cons (ps_set (i := 4) scSt.nd rfl (Or.inl rfl) pe_bl)
      (pss_cons (ps_while PassesOwn.never (pt_val (pv 4))
        (pss_cons (ps_set (i := 4) scSt.nd rfl (Or.inl rfl) pe_bl)
        (pss_one (ps_lock (ps_for PassesOwn.never rfl (pi_keys (pv 2)) (pg_name (i := 5) scSt.nd rfl (Or.inr rfl))
          (pss_cons (ps_setLc (i := 6) (own := [("index", 7)]) (g := gName 7) (te := tOp (rIxT K) (tOp (rIxT K) (tCall spKindN [] E0 (tCons (tVar 0) (tCons (tVar 5) tNil))) (tC (.int 3))) (tVar 7)) (by rfl) scSt.nd rfl rfl (sw_true rfl rfl rfl (by decide +kernel)) (pi_list (pe_dget u1 (pv 2) (pv 5) (fun _ _ => rfl)))
            (blkOk_by (own := [("index", 7)]) (N := nmSt) (sc := defScope sStarts) (by decide +kernel)) (fun _ _ _ _ _ => pg_name (i := 7) scSt.nd rfl (Or.inl rfl)) (fun _ _ _ _ _ => pts_nil)
            (fun _ _ _ _ _ => pe_ix (r := rIxT K) ix_tup (pe_ix (r := rIxT K) ix_tup (pe_call CK.G hr1 (by rfl) CK.m CK.kp CK.b .nil pass0 (pa_cons (pv 0) (pa_cons (pv 5) pa_nil))) pe_int (fun _ _ => rfl)) (pv 7) (fun _ _ => rfl)))
          (pss_cons (ps_setLc (i := 8) (own := [("ground", 9), ("need", 10)]) (g := gName 9) (by rfl) scSt.nd rfl rfl (sw_true rfl rfl rfl (by decide +kernel)) (pi_list (pv 6))
            (blkOk_by (own := [("ground", 9), ("need", 10)]) (N := nmSt) (sc := defScope sStarts) (by decide +kernel)) (fun _ _ _ _ _ => pg_name (i := 9) scSt.nd rfl (Or.inl rfl)) (fun _ _ _ _ _ => pts_nil)
            (fun _ _ _ _ _ => pe_callB (r := rMax K) (cr_max rfl) (by rfl) Z.max (by decide +kernel) (pa_cons (pe_lc (own := [("need", 10)]) (g := gName 10) (wi := iTup K (tVar 9)) (tt := tYes) (te := tCall spDayN [] E0 (tCons (tVar 3) (tCons (tVar 10) tNil))) (by rfl) scSt.nd (pi_tup (pv 9))
              (blkOk_by (own := [("need", 10)]) (N := nmSt) (sc := scDay) (by decide +kernel)) (fun _ _ _ _ _ => pg_name (i := 10) scSt.nd rfl (Or.inl rfl)) (fun _ _ _ _ _ => pts_nil)
              (fun _ _ _ _ _ => pe_call CD.G hr1 (by rfl) CD.m CD.kp CD.b .nil pass0 (pa_cons (pv 3) (pa_cons (pv 10) pa_nil)))) pa_nil)))
          (pss_cons (ps_set (i := 11) scSt.nd rfl (Or.inl rfl) (pe_minDf rfl hu (by rfl) Z.min (by decide) (by rfl) Z.nev (pa_cons (pv 8) pa_nil)))
          (pss_one (ps_if (pt_cmpR op_lt (pv 11) (pe_dget2 u1 (pv 3) (pv 5) (C8.pe_gc (by rfl) Z.nev) ⟨rfl, rfl, rfl, rfl⟩) (nomark _))
            (pss_cons (ps_dput u1 (pv 3) (pv 5) (pv 11) rfl) (pss_one (ps_set (i := 4) scSt.nd rfl (Or.inl rfl) pe_bl))) pss_nil))))))))))
      (pss_one (ps_ret (pv 3)))))), ?_⟩
    have sz : ∀ {m : Nat}, m ≤ 900 → m ≤ sizeLine := fun h => Nat.le_of_lt (small1000 (by omega))
    have hk5 := hO.k5
    have nd := hO.nm.nd
    have xl := hL.d
    refine ⟨_, rfl, _, rfl, b, sa, rows, ks, S, rfl, hA, hO, hS, hT, fun ca H1 X1 eca hB hC => ?_⟩
    refine ⟨ca, rfl, ⟨_, SqT.of eca⟩, fun D hD => dc_tup (K := K) (a := ca) (xs := (cleanOf ks S).map V.str) (fun i G => Same H1 G ∧ ∃ kvs g, G D = some (.dK kvs) ∧ DkF kvs g (nmsOf ks) ∧ ∀ m, g m = if m ∈ (cleanOf ks S).take i then some ALW else none) ?_ ?_ ?_ ?_⟩
    · exact ⟨same_upd hD, [], _, upd_same, DkF.nil, fun m => by rw [List.take_zero]; rfl⟩
    · rintro i G _ ⟨S, _⟩
      exact SqT.of (S _ _ eca)
    · rintro i x G hx ⟨SG, kvs, g, gD, hg, eg⟩
      rw [List.getElem?_map] at hx
      obtain ⟨n, hn, rfl⟩ := Option.map_eq_some_iff.mp hx
      have mn : n ∈ nmsOf ks := hC.sub n (List.mem_of_getElem? hn)
      have hl := hg.len
      rw [List.length_map] at hl
      refine ⟨rfl, ?_⟩
      unfold tYes
      dsimp only
      refine iteT ⟨_, rfl, _, Sum.inr n, rfl, gD, small1000 (by omega), fun b u e => by rw [upd_ne (ne_of_none e hD)]; exact SG b u e, _, _, upd_same, hg.put ALW mn, fun m => ?_⟩
      unfold fUp
      rw [eg, List.take_add_one, hn]
      by_cases e : n = m
      · subst e
        rw [if_pos rfl, if_pos (by simp)]
      · rw [if_neg e]
        have : (m ∈ (cleanOf ks S).take i ++ (some n).toList) ↔ m ∈ (cleanOf ks S).take i := by
          simp [Ne.symm e]
        by_cases z : m ∈ (cleanOf ks S).take i
        · rw [if_pos z, if_pos (this.mpr z)]
        · rw [if_neg z, if_neg fun y => z (this.mp y)]
    · rintro G0 ⟨SG, kvs0, g0, gD, hg0, eg0⟩
      rw [List.length_map, List.take_length] at eg0
      have e0 : g0 = f0 (cleanOf ks S) := by
        funext m
        rw [eg0]
        rfl
      subst e0
      have XG := X1.trs SG
      have Dn := X1.non D hD
      have Dd : D ≠ d := fun z => by rw [z, xl] at Dn; cases Dn
      let W : Nat → L2.St → Hp → Prop := fun m σ' G => ∃ (c : Bool) (f : Str → Option Int) (x5 x6 x7 x8 x9 x10 x11 : Option V), σ' = [some (.ref b), some (.ref sa), some (.ref d), some (.ref D), some (.bl c), x5, x6, x7, x8, x9, x10, x11] ∧ Ex T H G ∧ StA G D f (nmsOf ks) ∧ SF ks S f ∧ (c = false → PF (nmsOf ks) (lvN ks) (stX f)) ∧ m = sumN (nmsOf ks) (stX f) + (if c then 1 else 0)
      refine ⟨W, ⟨_, true, f0 (cleanOf ks S), _, _, _, _, _, _, _, rfl, XG, ⟨kvs0, gD, hg0⟩, sf0, (fun z => by cases z), rfl⟩, ?_⟩
      rintro m σ' G ⟨c, f, x5, x6, x7, x8, x9, x10, x11, rfl, X, St, sf, pf, rfl⟩
      refine ⟨_, rfl, c, rfl, ?_⟩
      cases c with
      | false =>
        refine iteF ⟨_, rfl, ?_⟩
        exact k D f G X Dn St ⟨sf, pf rfl, hB, hC⟩
      | true =>
        refine iteT ⟨fun σ' H' => ∃ m', m' < sumN (nmsOf ks) (stX f) + 1 ∧ W m' σ' H', fun _ _ h => h, ?_⟩
        refine ⟨d, _, X.dk xl, trivial, fun od => ?_⟩
        have XL := X.lock2 od xl
        have tdL : TSame H (upd H d (.frz od (.dK (kvsOf ks ls)))) := ts_dk' xl
        have hAL := hA.ts tdL
        have ldL : ∀ {a : Addr} {xs : List V}, H a = some (.lst xs) → upd H d (.frz od (.dK (kvsOf ks ls))) a = some (.lst xs) := fun e => by rw [upd_ne (fun z => by rw [z, xl] at e; cases e)]; exact e
        have LLL := Paired.mono' (fun _ _ q => ldL q) hL.l
        have hdL : upd H d (.frz od (.dK (kvsOf ks ls))) d = some (.frz od (.dK (kvsOf ks ls))) := upd_same
        have DnL : upd H d (.frz od (.dK (kvsOf ks ls))) D = none := by rw [upd_ne Dd]; exact Dn
        have unl : ∀ J, Ex T (upd H d (.frz od (.dK (kvsOf ks ls)))) J → Ex T H (upd J d (.dK (kvsOf ks ls))) := fun J x => Ex.unlock xl x
        obtain ⟨kvs, eD, dk⟩ := St.it
        have StL : StA (upd G d (.frz od (.dK (kvsOf ks ls)))) D f (nmsOf ks) := ⟨kvs, by rw [upd_ne Dd]; exact eD, dk⟩
        generalize upd H d (.frz od (.dK (kvsOf ks ls))) = HL at XL hAL LLL hdL DnL unl
        generalize upd G d (.frz od (.dK (kvsOf ks ls))) = GL at XL StL ⊢
        refine ⟨_, rfl, d, od, rfl, .inl ⟨kvsOf ks ls, XL.ext d _ hdL (fun _ z => nomatch z), for_keysL (fun j σ' J => ∃ (c : Bool) (f' : Str → Option Int) (x5 x6 x7 x8 x9 x10 x11 : Option V), σ' = [some (.ref b), some (.ref sa), some (.ref d), some (.ref D), some (.bl c), x5, x6, x7, x8, x9, x10, x11] ∧ Ex T HL J ∧ StA J D f' (nmsOf ks) ∧ SF ks S f' ∧
          (c = false → f' = f ∧ ∀ n ∈ (nmsOf ks).take j, ∀ g ∈ lvN ks n, ∃ q ∈ g, stX f n ≤ dN (stX f) q) ∧ (c = true → sumN (nmsOf ks) (stX f') < sumN (nmsOf ks) (stX f))) ?_ ?_ ?_ ?_⟩⟩
        · exact ⟨false, f, _, _, _, _, _, _, _, rfl, XL, StL, sf, fun _ => ⟨rfl, fun n m => by rw [List.take_zero] at m; cases m⟩, fun z => by cases z⟩
        · rintro j σ' J _ ⟨_, _, _, _, _, _, _, _, _, _, XJ, _⟩
          exact XJ.ext d _ hdL fun _ z => nomatch z
        · rintro j kk vv σ' J hkv ⟨c, f', x5, x6, x7, x8, x9, x10, x11, rfl, XJ, SJ, sfJ, c0, c1⟩
          have hnj : (nmsOf ks)[j]? = some (match kk with | Sum.inr n => n | _ => "") := by
            have h1 : ((kvsOf ks ls).map (·.1))[j]? = some kk := by rw [List.getElem?_map, hkv]; rfl
            rw [kvs_keysN hL.l, List.getElem?_map] at h1
            obtain ⟨n, hn, rfl⟩ := Option.map_eq_some_iff.mp h1
            exact hn
          obtain ⟨kd, mk, rfl⟩ := kvs_nm hkv
          have hnj : (nmsOf ks)[j]? = some kd.name := hnj
          have mnk : kd.name ∈ nmsOf ks := List.mem_of_getElem? hnj
          obtain ⟨ll, ev, ell⟩ := kvs_get nd LLL mk
          have ellJ := XJ.lst ell
          have hdJ := XJ.ext d _ hdL fun _ z => nomatch z
          have hAJ := hAL.ts XJ.ts
          have g4 := (hO.num kd mk).2.2.2.2
          have egs := gsOf_eq nd mk
          have lv := liveIx_le (ks := ks) (B := bearOf ks) (n := kd.name)
          rw [egs] at lv
          have lvl : (lvG ks kd.name).length = (liveIx ks (bearOf ks) kd.name).length := by unfold lvG; rw [List.length_map]
          refine ⟨_, rfl, _, rfl, d, .ref ll, rfl, .inl ⟨kvsOf ks ls, Sum.inr kd.name, .inr ⟨od, hdJ⟩, rfl, ev.symm⟩, ll, rfl, ⟨_, SqL.of ellJ⟩, fun L nL => lc_list (K := K) (a := ll) (xs := ixV (liveIx ks (bearOf ks) kd.name)) (fun i J2 => Same J J2 ∧ ∃ gas : List Addr, J2 L = some (.lst (gas.map V.ref)) ∧ Paired (fun ga g => Grd J2 ga g) gas ((lvG ks kd.name).take i)) ?_ ?_ ?_ ?_⟩
          · exact ⟨same_upd nL, [], upd_same, .nil⟩
          · rintro i J2 _ ⟨S2, _⟩
            exact SqL.of (S2 _ _ ellJ)
          · rintro i x J2 hx ⟨S2, gas, jL, pg⟩
            obtain ⟨i0, hi0, rfl⟩ := ixV_at hx
            obtain ⟨gr, hgr, _⟩ := ats_mem.mp (List.mem_of_getElem? hi0)
            have e1 : grAt ks kd.name i0 = gr := grAt_at hgr
            rw [egs] at hgr
            refine ⟨rfl, ?_⟩
            unfold tYes
            dsimp only
            refine iteT ⟨_, rfl, _, rfl, b, rows, ks, kd.name, rfl, hAJ.ts (TSame.of S2), nd, mnk, fun ka kd2 mk2 kn hk => ?_⟩
            obtain rfl := kd_one nd mk2 mk kn
            obtain ⟨gt, gas2, f1, f2, f3⟩ := hk
            obtain ⟨ga, hga, eGr⟩ := paired_at2 f3 hgr
            have lpg := paired_len pg
            rw [List.length_take] at lpg
            refine ⟨ka, _, 3, .ref gt, rfl, rfl, SqT.of f1, rfl, _, rfl, gt, _, _, .ref ga, rfl, rfl, SqT.of f2, atI_nat (by rw [List.getElem?_map, hga]; rfl), ?_⟩
            refine ⟨_, jL, small1000 (by rw [List.length_map]; omega), fun b u e => by rw [upd_ne (ne_of_none e nL)]; exact S2 b u e, gas ++ [ga], by rw [upd_same, List.map_append]; rfl, ?_⟩
            have tk : (lvG ks kd2.name).take (i + 1) = (lvG ks kd2.name).take i ++ [gr] := by
              rw [List.take_add_one]
              unfold lvG
              rw [List.getElem?_map, hi0, ← e1]
              rfl
            rw [tk]
            have tsl := ts_lst (ys := gas.map V.ref ++ [V.ref ga]) jL
            exact paired_snoc (Grd.ts eGr tsl) (Paired.mono' (fun _ _ q => Grd.ts q tsl) pg)
          · rintro J2 ⟨S2, gas, jL, pg⟩
            have ll' : (ixV (liveIx ks (bearOf ks) kd.name)).length = (lvG ks kd.name).length := by unfold ixV; rw [List.length_map, lvl]
            rw [ll', List.take_length] at pg
            have X2 := XJ.trs S2
            have SJ2 := SJ.same S2
            have lpg := paired_len pg
            refine ⟨_, rfl, L, rfl, ⟨_, SqL.of jL⟩, fun D2 nD2 => lc_list (K := K) (a := L) (xs := gas.map V.ref) (fun i J3 => Same J2 J3 ∧ ∃ ns : List Int, J3 D2 = some (.lst (ns.map V.int)) ∧ Paired (IsMx (stX f')) ns ((lvG ks kd.name).take i)) ?_ ?_ ?_ ?_⟩
            · exact ⟨same_upd nD2, [], upd_same, .nil⟩
            · rintro i J3 _ ⟨S3, _⟩
              exact SqL.of (S3 _ _ jL)
            · rintro i x J3 hx ⟨S3, ns, j3, pm⟩
              rw [List.getElem?_map] at hx
              obtain ⟨ga, hga, rfl⟩ := Option.map_eq_some_iff.mp hx
              obtain ⟨g, hg, nas, eg, pn⟩ := paired_at pg hga
              obtain ⟨_, gpos, gok⟩ := lvG_gr hO (List.mem_of_getElem? hg)
              have eg3 := S3 _ _ eg
              have lpn := paired_len pn
              have gl := gok.len
              have lpm := paired_len pm
              rw [List.length_take] at lpm
              refine ⟨rfl, tYes_go ?_⟩
              refine iteT ?_
              refine ⟨_, rfl, ga, rfl, ⟨_, SqT.of eg3⟩, fun D3 nD3 => ?_⟩
              dsimp only [tNil]
              refine lc_tup (K := K) (a := ga) (xs := nas.map V.ref) (fun q J4 => Same J3 J4 ∧ J4 D3 = some (.lst (((g.take q).map fun it => dN (stX f') (ndK it)).map V.int))) ?_ ?_ ?_ ?_
              · exact ⟨same_upd nD3, upd_same⟩
              · rintro q J4 _ ⟨S4, _⟩
                exact SqT.of (S4 _ _ eg3)
              · rintro q x J4 hx ⟨S4, j4⟩
                rw [List.getElem?_map] at hx
                obtain ⟨na, hna, rfl⟩ := Option.map_eq_some_iff.mp hx
                obtain ⟨it, hit, ena⟩ := paired_at pn hna
                refine ⟨rfl, ?_⟩
                unfold tYes
                dsimp only
                refine iteT ⟨_, rfl, _, rfl, D, na, f', nmsOf ks, it, rows, nmsOf ks, rfl, (SJ2.same S3).same S4, S4 _ _ (S3 _ _ ena), gok.nv it (List.mem_of_getElem? hit), ?_⟩
                refine ⟨_, j4, small1000 (by rw [List.length_map, List.length_map, List.length_take]; omega), fun b u e => by rw [upd_ne (ne_of_none e nD3)]; exact S4 b u e, ?_⟩
                rw [upd_same, List.take_add_one, hit, Option.toList_some, List.map_append, List.map_append]
                rfl
              · rintro J4 ⟨S4, j4⟩
                rw [List.length_map, lpn, List.take_length] at j4
                refine ⟨D3, _, rfl, SqL.of j4, by rw [List.length_map]; exact gpos, fun m mm hm => ?_⟩
                have j34 := S4 _ _ j3
                refine ⟨_, j34, small1000 (by rw [List.length_map]; omega), fun b u e => by rw [upd_ne (ne_of_none e nD2)]; exact S4 _ _ (S3 b u e), ns ++ [m], by rw [upd_same, List.map_append]; rfl, ?_⟩
                rw [List.take_add_one, hg]
                obtain ⟨it, mi, e⟩ := List.mem_map.mp mm
                exact paired_snoc (R := IsMx (stX f')) ⟨fun it mi => hm _ (List.mem_map.mpr ⟨it, mi, rfl⟩), it, mi, e⟩ pm
            · rintro J3 ⟨S3, ns, j3, pm⟩
              rw [List.length_map, lpg, List.take_length] at pm
              have X3 := X2.trs S3
              have SJ3 := SJ2.same S3
              refine ⟨_, rfl, D2, ns, rfl, SqL.of j3, ?_⟩
              refine fun day hd0 => ?_
              have hday : IsDay (lvN ks) (stX f') kd.name day := by
                rcases hd0 with ⟨e, e2⟩ | ⟨mm, hm⟩
                · exact isDay_of pm (fun _ => e2) fun z => absurd e z
                · exact isDay_of pm (fun z => by rw [z] at mm; cases mm) fun _ => ⟨mm, hm⟩
              clear hd0
              obtain ⟨kvs3, e3, dk3⟩ := SJ3.it
              have l3 := dk3.len
              rw [List.length_map] at l3
              refine ⟨_, rfl, _, rfl, D, rfl, .inl ⟨kvs3, .inl e3⟩, _, rfl, (f' kd.name).map V.int, ?_, day, stX f' kd.name, rfl, ?_, ?_⟩
              · rw [← dk3.g]
                exact DGet.k (k := Sum.inr kd.name) e3
              · unfold stX
                cases f' kd.name <;> rfl
              · refine ⟨_, rfl, ?_⟩
                refine ite2 (fun hc => ?_) fun hc => ?_
                · have lt : day < stX f' kd.name := of_decide_eq_true hc
                  refine ⟨_, rfl, _, rfl, _, rfl, D, _, rfl, DPut.k (k := Sum.inr kd.name) e3 (small1000 (by omega)), ?_⟩
                  have XW := X3.wrK (ys := putK kvs3 (Sum.inr kd.name) (.int day)) e3 DnL
                  refine ⟨true, fUp f' kd.name day, _, _, _, _, _, _, _, rfl, XW, ⟨_, upd_same, dk3.put day mnk⟩, sfJ.step hday lt, (fun z => by cases z), fun _ => ?_⟩
                  have lt2 := sumN_lt lt hday.nonneg (nmsOf ks) mnk
                  rw [← stX_up] at lt2
                  cases c with
                  | false =>
                    obtain ⟨rfl, _⟩ := c0 rfl
                    exact lt2
                  | true => exact Nat.lt_trans lt2 (c1 rfl)
                · have nlt : ¬ day < stX f' kd.name := fun z => hc (decide_eq_true z)
                  refine ⟨c, f', _, _, _, _, _, _, _, rfl, X3, ⟨kvs3, e3, dk3⟩, sfJ, fun z => ?_, c1⟩
                  obtain ⟨rfl, c0⟩ := c0 z
                  refine ⟨rfl, fun n mn => ?_⟩
                  rw [List.take_add_one, hnj] at mn
                  rcases List.mem_append.mp mn with y | y
                  · exact c0 n y
                  · have : n = kd.name := by simpa using y
                    rw [this]
                    exact hday.pf nlt
        · rintro σ' J ⟨c, f', x5, x6, x7, x8, x9, x10, x11, rfl, XJ, SJ, sfJ, c0, c1⟩
          have hdJ := XJ.ext d _ hdL fun _ z => nomatch z
          refine ⟨hdJ, ?_⟩
          obtain ⟨kvs', eD', dk'⟩ := SJ.it
          have SJ' : StA (upd J d (.dK (kvsOf ks ls))) D f' (nmsOf ks) := ⟨kvs', by rw [upd_ne Dd]; exact eD', dk'⟩
          have lk : (kvsOf ks ls).length = (nmsOf ks).length := by rw [kvs_len (paired_len hL.l), List.length_map]
          cases c with
          | false =>
            obtain ⟨rfl, c0⟩ := c0 rfl
            rw [lk, List.take_length] at c0
            exact ⟨_, (by show sumN (nmsOf ks) (stX f') + 0 < _; omega), false, f', _, _, _, _, _, _, _, rfl, unl J XJ, SJ', sfJ, fun _ => c0, rfl⟩
          | true =>
            have := c1 rfl
            exact ⟨_, (by show sumN (nmsOf ks) (stX f') + 1 < _; omega), true, f', _, _, _, _, _, _, _, rfl, unl J XJ, SJ', sfJ, (fun z => by cases z), rfl⟩
end
end KaG


set_option maxRecDepth 100000
set_option maxHeartbeats 4000000
/-! Changes.grounds_of, Changes.all_live -/
namespace KaG
open PySem PySem.Spec PyProof.Rows L2 KaC KaN LamX NdefX KaU
structure ChT (K : PySem.W.Frag) (mg : Str → Option Value) (C : Addr) : Prop where
  cl : Cls K C
  nR : NoAttr K C "rulebook"
  nS : NoAttr K C "struck"
  nL : NoAttr K C "live"
  nA : NoAttr K C "able"
  nT : NoAttr K C "starts"
  nE : NoAttr K C "settled"
  nK : NoAttr K C "keeps"
  mgC : mg "Changes" = some (.ref C)
/-- an object of Changes: its rulebook, its live indexes (locked or not) -/
structure ChAt (C : Addr) (H : Hp) (x b d : Addr) (ks : List Kd) (ls : List Addr) : Prop where
  it : ∃ dx fs, H x = some (.ins C dx fs) ∧ fs.lookup ("rulebook" : Str) = some (.ref b) ∧ fs.lookup ("live" : Str) = some (.ref d) ∧ fs.lookup ("grounds_of" : Str) = none ∧ fs.lookup ("all_live" : Str) = none
  d : Rd H d (.dK (kvsOf ks ls))
  l : Paired (fun (l : Addr) (k : Kd) => H l = some (.lst (ixV (liveIx ks (bearOf ks) k.name)))) ls ks
theorem same_unlock {H J : Hp} {d : Addr} {o u : HO} (e : H d = some u) (s : Same (upd H d o) J) : Same H (upd J d u) := fun b w q => by
  by_cases z : b = d
  · rw [z] at q ⊢
    rw [upd_same, ← q, e]
  · rw [upd_ne z]
    exact s b w (by rw [upd_ne z]; exact q)
theorem ts_fr {H : Hp} {p : Addr} {x : Obj} {u o : HO} (e : H p = some (.frz x u)) : TSame H (upd H p o) := fun b zs q => by
  rw [upd_ne (fun z => by rw [z, e] at q; cases q)]
  exact q
section
variable {K : PySem.W.Frag} {d a : Addr} {o : Obj} {kvs : List (Key × V)} {xs : List V} {Hs : Hp} {Qd : Hp → Prop}
theorem go_keys {F : V → Hp → (Hp → Prop) → Prop} (Pv : Nat → Hp → Prop) (h0 : Pv 0 Hs) (hl : ∀ i H, i ≤ kvs.length → Pv i H → H d = some (.frz o (.dK kvs))) (hs : ∀ i k v H, kvs[i]? = some (k, v) → Pv i H → F (kV k) H (Pv (i + 1))) (hd : ∀ H, Pv kvs.length H → Qd H) :
    ∃ W : Nat → Nat → Hp → Prop, (∃ m, W 0 m Hs) ∧ ∀ i m H, W i m H → ((Itk d o kvs).stop i H ∧ Qd H) ∨ ((Itk d o kvs).go i H ∧ ∃ N : Hp → Prop, (∀ H', N H' → ∃ m', m' < m ∧ W (i + 1) m' H') ∧ ∀ x H', (Itk d o kvs).yld i H x H' → F x H' N) := by
  refine ⟨fun i m H => m = kvs.length - i ∧ i ≤ kvs.length ∧ Pv i H, ⟨_, rfl, Nat.zero_le _, h0⟩, fun i m H ⟨em, hi, p⟩ => ?_⟩
  have q := hl i H hi p
  rcases Nat.lt_or_ge i kvs.length with lt | ge
  · refine .inr ⟨⟨q, lt⟩, Pv (i + 1), fun H' p' => ⟨kvs.length - (i + 1), by omega, rfl, lt, p'⟩, fun x H' ⟨e, k, v, y, z⟩ => ?_⟩
    subst e; subst z
    exact hs i k v _ y p
  · obtain rfl : i = kvs.length := by omega
    exact .inl ⟨⟨q, Nat.le_refl _⟩, hd H p⟩
theorem go_list {F : V → Hp → (Hp → Prop) → Prop} (Pv : Nat → Hp → Prop) (h0 : Pv 0 Hs) (hl : ∀ i H, i ≤ xs.length → Pv i H → SqL K H a xs) (hs : ∀ i x H, xs[i]? = some x → Pv i H → F x H (Pv (i + 1))) (hd : ∀ H, Pv xs.length H → Qd H) :
    ∃ W : Nat → Nat → Hp → Prop, (∃ m, W 0 m Hs) ∧ ∀ i m H, W i m H → ((Itl K a).stop i H ∧ Qd H) ∨ ((Itl K a).go i H ∧ ∃ N : Hp → Prop, (∀ H', N H' → ∃ m', m' < m ∧ W (i + 1) m' H') ∧ ∀ x H', (Itl K a).yld i H x H' → F x H' N) := by
  refine ⟨fun i m H => m = xs.length - i ∧ i ≤ xs.length ∧ Pv i H, ⟨_, rfl, Nat.zero_le _, h0⟩, fun i m H ⟨em, hi, p⟩ => ?_⟩
  have q := hl i H hi p
  rcases Nat.lt_or_ge i xs.length with lt | ge
  · refine .inr ⟨⟨xs, xs[i], q, List.getElem?_eq_getElem lt⟩, Pv (i + 1), fun H' p' => ⟨xs.length - (i + 1), by omega, rfl, lt, p'⟩, fun x H' ⟨e, y⟩ => ?_⟩
    subst e
    exact hs i x _ (y xs q) p
  · obtain rfl : i = xs.length := by omega
    exact .inl ⟨⟨xs, q, Nat.le_refl _⟩, hd H p⟩
end
section
variable {P : Program} {w : World} {K : PySem.W.Frag} {mg : Str → Option Value} {base : Heap}
abbrev sGof : Stmt := inClass (top 22) 1
abbrev nmGo : List Str := ["self", "name", "index"]
theorem scGo : FnScope nmGo ["self", "name"] (defScope sGof) := ⟨rfl, rfl, rfl, by decide +kernel, rfl, by decide +kernel, by decide +kernel⟩
def spGof (C : Addr) : Sp := fun vs H Q _ => ∃ (x b d : Addr) (n : Str) (rows : List Str) (ks : List Kd) (ls : List Addr), vs = [.ref x, .str n] ∧ ChAt C H x b d ks ls ∧ BookAt H b rows ks ∧ BookOk rows ks ∧ n ∈ nmsOf ks ∧
  ∀ (p : Addr) (gas : List Addr) (H' : Hp), Same H H' → H p = none → H' p = some (.lst (gas.map V.ref)) → Paired (fun ga g => Grd H' ga g) gas (lvG ks n) → Q (.ref p) H'
theorem ok_gof {C f fK : Addr} {fd fdK : FuncData} (F : Fun K "grounds_of" "Changes.grounds_of" sGof f fd) (Z : ChT K mg C) (CK : Ct P w K mg base "kind_of" 1 ["rulebook", "name"] spKindN fK fdK) : FnOk P w K mg base CX0 2 f fd ["self", "name"] (spGof C) := by
  refine F.ok scGo (fun vs H Q E h => ?_) (fun cdv A outer s H vs Q E hr h => ?_)
  · obtain ⟨x, b, d, n, rows, ks, ls, rfl, _⟩ := h
    rfl
  · obtain ⟨x, b, d, n, rows, ks, ls, rfl, hX, hA, hO, hn, k⟩ := h
    have u1 := hu_of hr
    refine ⟨_, (pss_one (ps_ret (pe_lc (own := [("index", 2)]) (g := gName 2) (te := tOp (rIxT K) (tOp (rIxT K) (tCall spKindN [] E0 (tCons (tFld K (tVar 0) "rulebook") (tCons (tVar 1) tNil))) (tC (.int 3))) (tVar 2)) (by rfl) scGo.nd (pi_list (pe_dget u1 (pe_fld (pv 0) rfl) (pv 1) (fun _ _ => rfl)))
            (blkOk_by (own := [("index", 2)]) (N := nmGo) (sc := defScope sGof) (by decide +kernel)) (fun _ _ _ _ _ => pg_name (i := 2) scGo.nd rfl (Or.inl rfl)) (fun _ _ _ _ _ => pts_nil)
            (fun _ _ _ _ _ => pe_ix (r := rIxT K) ix_tup (pe_ix (r := rIxT K) ix_tup (pe_call CK.G hr (by rfl) CK.m CK.kp CK.b .nil pass0 (pa_cons (pe_fld (pv 0) rfl) (pa_cons (pv 1) pa_nil))) pe_int (fun _ _ => rfl)) (pv 2) (fun _ _ => rfl))))), ?_⟩
    obtain ⟨⟨dx, fs, hx, hb, hd, _, _⟩, hR, hl⟩ := hX
    have nd := hO.nm.nd
    have hk5 := hO.k5
    obtain ⟨kd, mk, rfl⟩ := List.mem_map.mp hn
    obtain ⟨ll, ev, ell⟩ := kvs_get nd hl mk
    have g4 := (hO.num kd mk).2.2.2.2
    have egs := gsOf_eq nd mk
    have lv := liveIx_le (ks := ks) (B := bearOf ks) (n := kd.name)
    rw [egs] at lv
    have lvl : (lvG ks kd.name).length = (liveIx ks (bearOf ks) kd.name).length := by unfold lvG; rw [List.length_map]
    refine ⟨_, rfl, x, C, dx, fs, .ref d, rfl, hx, Z.cl, Z.nL, hd, _, rfl, d, .ref ll, rfl, .inl ⟨kvsOf ks ls, Sum.inr kd.name, hR, rfl, ev.symm⟩, ll, rfl, ⟨_, SqL.of ell⟩, fun L nL => lc_list (K := K) (a := ll) (xs := ixV (liveIx ks (bearOf ks) kd.name)) (fun i J2 => Same H J2 ∧ ∃ gas : List Addr, J2 L = some (.lst (gas.map V.ref)) ∧ Paired (fun ga g => Grd J2 ga g) gas ((lvG ks kd.name).take i)) ?_ ?_ ?_ ?_⟩
    · exact ⟨same_upd nL, [], upd_same, .nil⟩
    · rintro i J2 _ ⟨S2, _⟩
      exact SqL.of (S2 _ _ ell)
    · rintro i y J2 hy ⟨S2, gas, jL, pg⟩
      obtain ⟨i0, hi0, rfl⟩ := ixV_at hy
      obtain ⟨gr, hgr, _⟩ := ats_mem.mp (List.mem_of_getElem? hi0)
      have e1 : grAt ks kd.name i0 = gr := grAt_at hgr
      rw [egs] at hgr
      refine ⟨rfl, tYes_go (iteT ?_)⟩
      refine ⟨_, rfl, x, C, dx, fs, .ref b, rfl, S2 _ _ hx, Z.cl, Z.nR, hb, _, rfl, b, rows, ks, kd.name, rfl, hA.ts (TSame.of S2), nd, hn, fun ka kd2 mk2 kn hk => ?_⟩
      obtain rfl := kd_one nd mk2 mk kn
      obtain ⟨gt, gas2, f1, f2, f3⟩ := hk
      obtain ⟨ga, hga, eGr⟩ := paired_at2 f3 hgr
      have lpg := paired_len pg
      rw [List.length_take] at lpg
      refine ⟨ka, _, 3, .ref gt, rfl, rfl, SqT.of f1, rfl, _, rfl, gt, _, _, .ref ga, rfl, rfl, SqT.of f2, atI_nat (by rw [List.getElem?_map, hga]; rfl), ?_⟩
      refine ⟨_, jL, small1000 (by rw [List.length_map]; omega), fun b u e => by rw [upd_ne (ne_of_none e nL)]; exact S2 b u e, gas ++ [ga], by rw [upd_same, List.map_append]; rfl, ?_⟩
      have tk : (lvG ks kd2.name).take (i + 1) = (lvG ks kd2.name).take i ++ [gr] := by
        rw [List.take_add_one]
        unfold lvG
        rw [List.getElem?_map, hi0, ← e1]
        rfl
      rw [tk]
      have tsl := ts_lst (ys := gas.map V.ref ++ [V.ref ga]) jL
      exact paired_snoc (Grd.ts eGr tsl) (Paired.mono' (fun _ _ q => Grd.ts q tsl) pg)
    · rintro J2 ⟨S2, gas, jL, pg⟩
      have ll' : (ixV (liveIx ks (bearOf ks) kd.name)).length = (lvG ks kd.name).length := by unfold ixV; rw [List.length_map, lvl]
      rw [ll', List.take_length] at pg
      exact k L gas J2 S2 nL jL pg
abbrev sAllL : Stmt := inClass (top 22) 2
abbrev nmAl : List Str := ["self", "name", "ground"]
theorem scAlv : FnScope nmAl ["self"] (defScope sAllL) := ⟨rfl, rfl, rfl, by decide +kernel, rfl, by decide +kernel, by decide +kernel⟩
def spAllL (C : Addr) : Sp := fun vs H Q _ => ∃ (x b d : Addr) (rows : List Str) (ks : List Kd) (ls : List Addr), vs = [.ref x] ∧ ChAt C H x b d ks ls ∧ H d = some (.dK (kvsOf ks ls)) ∧ BookAt H b rows ks ∧ BookOk rows ks ∧
  ∀ (p : Addr) (gas : List Addr) (H' : Hp), Same H H' → H' p = some (.lst (gas.map V.ref)) → gas.length ≤ 20 → (∀ ga ∈ gas, ∃ g, Grd H' ga g ∧ GrOk rows (nmsOf ks) g) → Q (.ref p) H'
theorem ok_allL {C f fG : Addr} {fd fdG : FuncData} (F : Fun K "all_live" "Changes.all_live" sAllL f fd) (Z : ChT K mg C) (G : FnOk P w K mg base CX0 2 fG fdG ["self", "name"] (spGof C)) (mG : Meth K C "grounds_of" fG) (bG : Binds K fdG ["self", "name"] []) : FnOk P w K mg base CX0 3 f fd ["self"] (spAllL C) := by
  refine F.ok scAlv (fun vs H Q E h => ?_) (fun cdv A outer s H vs Q E hr h => ?_)
  · obtain ⟨x, b, d, rows, ks, ls, rfl, _⟩ := h
    rfl
  · obtain ⟨x, b, d, rows, ks, ls, rfl, hX, eD, hA, hO, k⟩ := h
    refine ⟨_, (pss_one (ps_ret (pe_lock (pe_lc2n [2] (own := [("name", 1), ("ground", 2)]) (g0 := gName 1) (g1 := gName 2) (w1 := iList K (tMeth C "grounds_of" (spGof C) [] E0 (tVar 0) (tCons (tVar 1) tNil))) (te := tVar 2)
      (by rfl) scAlv.nd (pi_keys (pe_fld (pv 0) rfl)) (blkOk_by (own := [("name", 1), ("ground", 2)]) (N := nmAl) (sc := defScope sAllL) (by decide +kernel)) (by decide)
      (fun _ _ _ _ _ => pg_name (i := 1) scAlv.nd rfl (Or.inl rfl)) (fun _ _ _ _ _ => pts_nil)
      (fun _ _ _ _ _ => pi_list (pe_meth (pv 0) Z.cl mG G hr bG .nil pass0 (pa_cons (pv 1) pa_nil)))
      (fun _ _ _ _ _ => pg_name (i := 2) scAlv.nd rfl (Or.inl rfl)) (fun _ _ _ _ _ => pts_nil)
      (fun _ _ _ _ _ => pv 2))))), ?_⟩
    obtain ⟨⟨dx, fs, hx, hb, hd, hg, _⟩, hR, hl⟩ := hX
    have nd := hO.nm.nd
    have hk5 := hO.k5
    refine ⟨d, _, eD, trivial, fun od => ?_⟩
    have dxd : x ≠ d := fun z => by rw [z, eD] at hx; cases hx
    have hxL : upd H d (.frz od (.dK (kvsOf ks ls))) x = some (.ins C dx fs) := by rw [upd_ne dxd]; exact hx
    have hdL : upd H d (.frz od (.dK (kvsOf ks ls))) d = some (.frz od (.dK (kvsOf ks ls))) := upd_same
    have hlL : Paired (fun (l : Addr) (k : Kd) => upd H d (.frz od (.dK (kvsOf ks ls))) l = some (.lst (ixV (liveIx ks (bearOf ks) k.name)))) ls ks := Paired.mono' (fun _ _ q => by rw [upd_ne (fun z => by rw [z, eD] at q; cases q)]; exact q) hl
    have hAL : BookAt (upd H d (.frz od (.dK (kvsOf ks ls)))) b rows ks := hA.ts (ts_dk' eD)
    have un : ∀ J, Same (upd H d (.frz od (.dK (kvsOf ks ls)))) J → Same H (upd J d (.dK (kvsOf ks ls))) := fun J s => same_unlock eD s
    have lk : (kvsOf ks ls).length = ks.length := kvs_len (paired_len hl)
    generalize upd H d (.frz od (.dK (kvsOf ks ls))) = HL at hxL hdL hlL hAL un ⊢
    refine ⟨_, rfl, x, C, dx, fs, .ref d, rfl, hxL, Z.cl, Z.nL, hd, d, od, rfl, .inl ⟨kvsOf ks ls, hdL, fun D hD => go_keys (fun i J => Same HL J ∧ ∃ gas : List Addr, J D = some (.lst (gas.map V.ref)) ∧ gas.length ≤ 4 * i ∧ ∀ ga ∈ gas, ∃ g, Grd J ga g ∧ GrOk rows (nmsOf ks) g) ?_ ?_ ?_ ?_⟩⟩
    · exact ⟨same_upd hD, [], upd_same, Nat.le_refl _, fun _ m => nomatch m⟩
    · rintro i J _ ⟨S, _⟩
      exact S _ _ hdL
    · rintro i kk vv J hkv ⟨S, gas, jD, lg, hgs⟩
      have hi : i < ks.length := by rw [← lk]; exact (List.getElem?_eq_some_iff.mp hkv).1
      obtain ⟨kd, mk, rfl⟩ := kvs_nm hkv
      have mnk : kd.name ∈ nmsOf ks := List.mem_map_of_mem mk
      have g4 := (hO.num kd mk).2.2.2.2
      have egs := gsOf_eq nd mk
      have lv := liveIx_le (ks := ks) (B := bearOf ks) (n := kd.name)
      rw [egs] at lv
      have lvl : (lvG ks kd.name).length = (liveIx ks (bearOf ks) kd.name).length := by unfold lvG; rw [List.length_map]
      refine ⟨rfl, tYes_go (iteT ?_)⟩
      refine ⟨_, rfl, x, dx, fs, rfl, S _ _ hxL, hg, _, rfl, x, b, d, kd.name, rows, ks, ls, rfl, ⟨⟨dx, fs, S _ _ hxL, hb, hd, hg, by assumption⟩, .inr ⟨od, S _ _ hdL⟩, Paired.mono' (fun _ _ q => S _ _ q) hlL⟩, hAL.ts (TSame.of S), hO, mnk, fun L gas2 J2 S2 nL jL pg => ?_⟩
      have lpg := paired_len pg
      have DL : L ≠ D := fun z => by rw [z, jD] at nL; cases nL
      refine ⟨L, rfl, ⟨_, SqL.of jL⟩, go_list (K := K) (a := L) (xs := gas2.map V.ref) (fun q J3 => Same HL J3 ∧ TSame J2 J3 ∧ J3 L = some (.lst (gas2.map V.ref)) ∧ ∃ gas : List Addr, J3 D = some (.lst (gas.map V.ref)) ∧ gas.length ≤ 4 * i + q ∧ ∀ ga ∈ gas, ∃ g, Grd J3 ga g ∧ GrOk rows (nmsOf ks) g) ?_ ?_ ?_ ?_⟩
      · exact ⟨KaG.Same.tr S S2, fun _ _ e => e, jL, gas, S2 _ _ jD, lg, fun ga m => by
          obtain ⟨g, h1, h2⟩ := hgs ga m
          exact ⟨g, Grd.ts h1 (TSame.of S2), h2⟩⟩
      · rintro q J3 _ ⟨_, _, j3, _⟩
        exact SqL.of j3
      · rintro q y J3 hy ⟨S3, t3, j3, gas3, jD3, lg3, hgs3⟩
        have hq := (List.getElem?_eq_some_iff.mp hy).1
        rw [List.length_map] at hq
        rw [List.getElem?_map] at hy
        obtain ⟨ga, hga, rfl⟩ := Option.map_eq_some_iff.mp hy
        obtain ⟨g, hgl, eg⟩ := paired_at pg hga
        have gok := (lvG_gr hO (List.mem_of_getElem? hgl)).2.2
        have tsl := ts_lst (ys := gas3.map V.ref ++ [V.ref ga]) jD3
        refine ⟨rfl, tYes_go (iteT ?_)⟩
        refine ⟨_, rfl, _, jD3, small1000 (by rw [List.length_map]; omega), fun b u e => by rw [upd_ne (ne_of_none e hD)]; exact S3 b u e, fun b u e => tsl _ _ (t3 b u e), by rw [upd_ne DL]; exact j3, gas3 ++ [ga], by rw [upd_same, List.map_append]; rfl, by rw [List.length_append, List.length_singleton]; omega, fun ga' m => ?_⟩
        rcases List.mem_append.mp m with z | z
        · obtain ⟨g', h1, h2⟩ := hgs3 ga' z
          exact ⟨g', Grd.ts h1 tsl, h2⟩
        · rw [List.mem_singleton.mp z]
          exact ⟨g, Grd.ts (Grd.ts eg t3) tsl, gok⟩
      · rintro J3 ⟨S3, t3, j3, gas3, jD3, lg3, hgs3⟩
        rw [List.length_map] at lg3
        exact ⟨S3, gas3, jD3, by omega, hgs3⟩
    · rintro J ⟨S, gas, jD, lg, hgs⟩
      have jd := S _ _ hdL
      have Dd : D ≠ d := fun z => by rw [z, hdL] at hD; cases hD
      refine ⟨jd, ?_⟩
      rw [lk] at lg
      exact k D gas _ (un J S) (by rw [upd_ne Dd]; exact jD) (by omega) fun ga m => by
        obtain ⟨g, h1, h2⟩ := hgs ga m
        exact ⟨g, Grd.ts h1 (ts_fr jd), h2⟩
end
end KaG


set_option maxRecDepth 100000
set_option maxHeartbeats 4000000
/-! Changes.__init__ -/
namespace KaG
open PySem PySem.Spec PyProof.Rows L2 KaC KaN LamX NdefX KaU
theorem putF_self {fs : List (Str × V)} {f : Str} {v : V} : (putF f v fs).lookup f = some v := by rw [lookup_putF, if_pos rfl]
theorem putF_more {fs : List (Str × V)} {f g : Str} {v : V} {r : Option V} (h : fs.lookup g = r) (ne : g ≠ f) : (putF f v fs).lookup g = r := by rw [lookup_putF, if_neg ne, h]
theorem putF_len {fs : List (Str × V)} {f : Str} {v : V} {n : Nat} (h : fs.length ≤ n) : (putF f v fs).length ≤ n + 1 := Nat.le_trans (length_putF f v fs) (Nat.succ_le_succ h)
theorem ts_ins {H : Hp} {p C dx : Addr} {fs : List (Str × V)} {o : HO} (e : H p = some (.ins C dx fs)) : TSame H (upd H p o) := fun b zs q => by
  rw [upd_ne (fun z => by rw [z, e] at q; cases q)]
  exact q
theorem tabs_ins {T : List NTab} {H : Hp} {d C dx : Addr} {fs : List (Str × V)} {o : HO} (t : TabsN T H) (e : H d = some (.ins C dx fs)) : TabsN T (upd H d o) := tabs_wr t e (fun _ z => nomatch z) (fun _ _ z => by unfold CodeO at z; cases z)
theorem Ex.wrI {T : List NTab} {H H' : Hp} {p C dx C' dx' : Addr} {fs fs' : List (Str × V)} (a : Ex T H H') (e : H' p = some (.ins C dx fs)) (n : H p = none) : Ex T H (upd H' p (.ins C' dx' fs')) := by
  refine ⟨fun b o q h => by rw [upd_ne (ne_of_none q n)]; exact a.ext b o q h, tabs_ins a.tab e, fun b h => ?_⟩
  by_cases z : b = p
  · rw [z, upd_same] at h
    cases h
  · rw [upd_ne z] at h
    exact a.non b h
structure FsR (fs : List (Str × V)) (b : Addr) (n : Nat) : Prop where
  len : fs.length ≤ n
  rb : fs.lookup ("rulebook" : Str) = some (.ref b)
  go : fs.lookup ("grounds_of" : Str) = none
  al : fs.lookup ("all_live" : Str) = none
theorem FsR.put {fs : List (Str × V)} {b : Addr} {n : Nat} (h : FsR fs b n) (f : Str) (v : V) (h1 : ("rulebook" : Str) ≠ f) (h2 : ("grounds_of" : Str) ≠ f) (h3 : ("all_live" : Str) ≠ f) : FsR (putF f v fs) b (n + 1) := ⟨putF_len h.len, putF_more h.rb h1, putF_more h.go h2, putF_more h.al h3⟩
theorem ins_dk {G : Hp} {x C dx : Addr} {fs : List (Str × V)} {o : HO} (e : G x = some (.ins C dx fs)) (b : Addr) (kvs : List (Key × V)) (h : G b = some (.dK kvs)) : upd G x o b = some (.dK kvs) := by
  rw [upd_ne (fun z => by rw [z, e] at h; cases h)]
  exact h
theorem ins_lst {G : Hp} {x C dx : Addr} {fs : List (Str × V)} {o : HO} (e : G x = some (.ins C dx fs)) (b : Addr) (xs : List V) (h : G b = some (.lst xs)) : upd G x o b = some (.lst xs) := by
  rw [upd_ne (fun z => by rw [z, e] at h; cases h)]
  exact h
theorem Ex.ins {T : List NTab} {H H' : Hp} (a : Ex T H H') {x C dx : Addr} {fs : List (Str × V)} (e : H x = some (.ins C dx fs)) : H' x = some (.ins C dx fs) := a.ext x _ e fun _ z => nomatch z
theorem StA.ins {H : Hp} {d : Addr} {f : Str → Option Int} {m : List Str} (h : StA H d f m) {x C dx : Addr} {fs : List (Str × V)} {o : HO} (e : H x = some (.ins C dx fs)) : StA (upd H x o) d f m := by
  obtain ⟨kvs, e2, r⟩ := h.it
  exact ⟨kvs, ins_dk e _ _ e2, r⟩
section
variable {P : Program} {w : World} {K : PySem.W.Frag} {mg : Str → Option Value} {base : Heap}
abbrev sChI : Stmt := inClass (top 22) 0
abbrev nmCi : List Str := ["self", "rulebook", "struck", "ground", "need", "kind"]
theorem scCi : FnScope nmCi ["self", "rulebook", "struck"] (defScope sChI) := ⟨rfl, rfl, rfl, by decide +kernel, rfl, by decide +kernel, by decide +kernel⟩
def spChI (C : Addr) (T : List NTab) : Sp := fun vs H Q _ => ∃ (x b sa dx : Addr) (rows : List Str) (ks : List Kd) (S : List Str) (H0 : Hp), vs = [.ref x, .ref b, .ref sa] ∧ H x = some (.ins C dx []) ∧ H0 x = none ∧ Ex T H0 H ∧ BookAt H0 b rows ks ∧ BookOk rows ks ∧ Sq2 H0 sa (S.map V.str) ∧
  ∀ (sd : Addr) (f : Str → Option Int) (fs : List (Str × V)) (H' : Hp), Ex T H0 H' → H' x = some (.ins C dx fs) → fs.lookup ("starts" : Str) = some (.ref sd) → StA H' sd f (nmsOf ks) → FS ks S f → Q .non H'
theorem ok_chI {T : List NTab} {C f fI fA fS fL fD : Addr} {fd fdI fdA fdS fdL fdD : FuncData} (F : Fun K "__init__" "Changes.__init__" sChI f fd) (Z : ChT K mg C) (N : NvT mg)
    (CI : Ct P w K mg base "live_indexes" 6 ["rulebook"] (spLiveIx T) fI fdI) (CA : Ct P w K mg base "able_kinds" 8 ["rulebook", "struck"] (spAble T) fA fdA) (CS : Ct P w K mg base "_starts_of" 8 ["rulebook", "struck", "live"] (spStarts T) fS fdS) (CD : Ct P w K mg base "day_of_need" 1 ["starts", "need"] spDayN fD fdD)
    (GL : FnOk P w K mg base CX0 3 fL fdL ["self"] (spAllL C)) (mL : Meth K C "all_live" fL) (bL : Binds K fdL ["self"] []) : FnOk P w K mg base CX0 9 f fd ["self", "rulebook", "struck"] (spChI C T) := by
  refine F.ok scCi (fun vs H Q E h => ?_) (fun cdv A outer s H vs Q E hr h => ?_)
  · obtain ⟨x, b, sa, dx, rows, ks, S, H0, rfl, _⟩ := h
    rfl
  · obtain ⟨x, b, sa, dx, rows, ks, S, H0, rfl, hx, nx, X, hA, hO, hS, k⟩ := h
    have u1 := hu_of hr
    have hr1 : Room 1 (A.deeper (envOfC "Changes.__init__" (defScope sChI) s.heap.objs.size f cdv)) := hr.mono (by decide)
    have hr3 : Room 3 (A.deeper (envOfC "Changes.__init__" (defScope sChI) s.heap.objs.size f cdv)) := hr.mono (by decide)
    have hr6 : Room 6 (A.deeper (envOfC "Changes.__init__" (defScope sChI) s.heap.objs.size f cdv)) := hr.mono (by decide)
    refine ⟨_, (pss_cons (ps_fld (pv 0) (pv 1) rfl) (pss_cons (ps_fld (pv 0) (pv 2) rfl)
      (pss_cons (ps_fld (pv 0) (pe_call CI.G hr6 (by rfl) CI.m CI.kp CI.b .nil pass0 (pa_cons (pv 1) pa_nil)) rfl)
      (pss_cons (ps_fld (pv 0) (pe_call CA.G hr (by rfl) CA.m CA.kp CA.b .nil pass0 (pa_cons (pv 1) (pa_cons (pv 2) pa_nil))) rfl)
      (pss_cons (ps_fld (pv 0) (pe_call CS.G hr (by rfl) CS.m CS.kp CS.b .nil pass0 (pa_cons (pv 1) (pa_cons (pv 2) (pa_cons (pe_fld (pv 0) rfl) pa_nil)))) rfl)
      (pss_cons (ps_fld (pv 0) (pe_callB (r := rMax K) (cr_max rfl) (by rfl) N.max (by decide +kernel) (pa_cons (pe_op op_cat (pe_lst (pa_cons pe_int pa_nil)) (pe_lc2n [4] (own := [("ground", 3), ("need", 4)]) (g0 := gName 3) (g1 := gName 4) (w1 := iTup K (tVar 3)) (te := tCall spDayN [] E0 (tCons (tFld K (tVar 0) "starts") (tCons (tVar 4) tNil)))
          (by rfl) scCi.nd (pi_list (pe_meth0 (pv 0) Z.cl mL GL hr3 bL .nil pass0)) (blkOk_by (own := [("ground", 3), ("need", 4)]) (N := nmCi) (sc := defScope sChI) (by decide +kernel)) (by decide)
          (fun _ _ _ _ _ => pg_name (i := 3) scCi.nd rfl (Or.inl rfl)) (fun _ _ _ _ _ => pts_nil)
          (fun _ _ _ _ _ => pi_tup (pv 3))
          (fun _ _ _ _ _ => pg_name (i := 4) scCi.nd rfl (Or.inl rfl)) (fun _ _ _ _ _ => pts_nil)
          (fun _ _ _ _ _ => pe_call CD.G hr1 (by rfl) CD.m CD.kp CD.b .nil pass0 (pa_cons (pe_fld (pv 0) rfl) (pa_cons (pv 4) pa_nil))))) pa_nil)) rfl)
      (pss_one (ps_fld (pv 0) (pe_dc (own := [("kind", 5)]) (g := gName 5) (by rfl) scCi.nd (pi_tup (pe_ix ix_tup (pv 1) pe_int (fun _ _ => rfl)))
          (blkOk_by (own := [("kind", 5)]) (N := nmCi) (sc := defScope sChI) (by decide +kernel)) (fun _ _ _ _ _ => pg_name (i := 5) scCi.nd rfl (Or.inl rfl)) (fun _ _ _ _ _ => pts_nil)
          (fun _ _ _ _ _ => pe_ix (r := rIxT K) ix_tup (pv 5) pe_int (fun _ _ => rfl)) (fun _ _ _ _ _ => pe_ix (r := rIxT K) ix_tup (pv 5) pe_int (fun _ _ => rfl))) rfl)))))))), ?_⟩
    have sz : ∀ {m : Nat}, m ≤ 900 → m ≤ sizeLine := fun h => Nat.le_of_lt (small1000 (by omega))
    have hk5 := hO.k5
    refine ⟨_, rfl, _, rfl, x, C, dx, [], rfl, hx, Z.cl, Z.nR, (by show 0 < 1000; decide), ?_⟩
    have R1 : FsR (putF "rulebook" (V.ref b) []) b 1 := ⟨putF_len (n := 0) (Nat.le_refl _), putF_self, putF_more rfl (by decide +kernel), putF_more rfl (by decide +kernel)⟩
    have X1 := X.wrI (C' := C) (dx' := dx) (fs' := putF "rulebook" (V.ref b) []) hx nx
    have hx1 : upd H x (.ins C dx (putF "rulebook" (V.ref b) [])) x = some (.ins C dx (putF "rulebook" (V.ref b) [])) := upd_same
    generalize upd H x (.ins C dx (putF "rulebook" (V.ref b) [])) = H1 at X1 hx1 ⊢
    generalize putF "rulebook" (V.ref b) [] = fs1 at R1 hx1 ⊢
    refine ⟨_, rfl, _, rfl, x, C, dx, fs1, rfl, hx1, Z.cl, Z.nS, (by have := R1.len; omega), ?_⟩
    have R2 := R1.put "struck" (V.ref sa) (by decide +kernel) (by decide +kernel) (by decide +kernel)
    have X2 := X1.wrI (C' := C) (dx' := dx) (fs' := putF "struck" (V.ref sa) fs1) hx1 nx
    have hx2 : upd H1 x (.ins C dx (putF "struck" (V.ref sa) fs1)) x = some (.ins C dx (putF "struck" (V.ref sa) fs1)) := upd_same
    generalize upd H1 x (.ins C dx (putF "struck" (V.ref sa) fs1)) = H2 at X2 hx2 ⊢
    generalize putF "struck" (V.ref sa) fs1 = fs2 at R2 hx2 ⊢
    clear hx1 X1 R1 hx
    refine ⟨_, rfl, b, rows, ks, rfl, hA.ts X2.ts, hO, X2.tab, fun d ls H3 X3 nd LD hB => ?_⟩
    have hx3 := X3.ins hx2
    have X03 := X2.tr X3
    refine ⟨_, rfl, x, C, dx, fs2, rfl, hx3, Z.cl, Z.nL, (by have := R2.len; omega), ?_⟩
    have R4 := R2.put "live" (V.ref d) (by decide +kernel) (by decide +kernel) (by decide +kernel)
    have L4 : (putF "live" (V.ref d) fs2).lookup ("live" : Str) = some (.ref d) := putF_self
    have X4 := X03.wrI (C' := C) (dx' := dx) (fs' := putF "live" (V.ref d) fs2) hx3 nx
    have LH4 : LiveH (upd H3 x (.ins C dx (putF "live" (V.ref d) fs2))) d ks ls := LD.h.keep (fun _ _ e => ins_dk hx3 _ _ e) (fun _ _ e => ins_lst hx3 _ _ e)
    have hx4 : upd H3 x (.ins C dx (putF "live" (V.ref d) fs2)) x = some (.ins C dx (putF "live" (V.ref d) fs2)) := upd_same
    generalize upd H3 x (.ins C dx (putF "live" (V.ref d) fs2)) = H4 at X4 hx4 LH4 ⊢
    generalize putF "live" (V.ref d) fs2 = fs4 at R4 hx4 L4 ⊢
    refine ⟨_, rfl, _, rfl, b, sa, rows, ks, S, rfl, hA.ts X4.ts, hO, X4.sq2 hS, X4.tab, fun ap H5 X5 eap hAb => ?_⟩
    have hx5 := X5.ins hx4
    have X05 := X4.tr X5
    refine ⟨_, rfl, x, C, dx, fs4, rfl, hx5, Z.cl, Z.nA, (by have := R4.len; omega), ?_⟩
    have R6 := R4.put "able" (V.ref ap) (by decide +kernel) (by decide +kernel) (by decide +kernel)
    have L6 : (putF "able" (V.ref ap) fs4).lookup ("live" : Str) = some (.ref d) := putF_more L4 (by decide +kernel)
    have X6 := X05.wrI (C' := C) (dx' := dx) (fs' := putF "able" (V.ref ap) fs4) hx5 nx
    have LH6 : LiveH (upd H5 x (.ins C dx (putF "able" (V.ref ap) fs4))) d ks ls := (LH4.ex X5).keep (fun _ _ e => ins_dk hx5 _ _ e) (fun _ _ e => ins_lst hx5 _ _ e)
    have hx6 : upd H5 x (.ins C dx (putF "able" (V.ref ap) fs4)) x = some (.ins C dx (putF "able" (V.ref ap) fs4)) := upd_same
    generalize upd H5 x (.ins C dx (putF "able" (V.ref ap) fs4)) = H6 at X6 hx6 LH6 ⊢
    generalize putF "able" (V.ref ap) fs4 = fs6 at R6 hx6 L6 ⊢
    clear LH4 hx4 L4 R4 hx5 X5 X05 eap X4 hx3 X03 X3 LD hx2 X2 R2
    refine ⟨_, rfl, _, rfl, _, rfl, x, C, dx, fs6, .ref d, rfl, hx6, Z.cl, Z.nL, L6, b, sa, d, rows, ks, S, ls, rfl, hA.ts X6.ts, hO, X6.sq2 hS, LH6, X6.tab, fun sd f H7 X7 nsd St FSf => ?_⟩
    have hx7 := X7.ins hx6
    have X07 := X6.tr X7
    refine ⟨_, rfl, x, C, dx, fs6, rfl, hx7, Z.cl, Z.nT, (by have := R6.len; omega), ?_⟩
    have R8 := R6.put "starts" (V.ref sd) (by decide +kernel) (by decide +kernel) (by decide +kernel)
    have L8 : (putF "starts" (V.ref sd) fs6).lookup ("live" : Str) = some (.ref d) := putF_more L6 (by decide +kernel)
    have T8 : (putF "starts" (V.ref sd) fs6).lookup ("starts" : Str) = some (.ref sd) := putF_self
    have X8 := X07.wrI (C' := C) (dx' := dx) (fs' := putF "starts" (V.ref sd) fs6) hx7 nx
    have St8 : StA (upd H7 x (.ins C dx (putF "starts" (V.ref sd) fs6))) sd f (nmsOf ks) := St.ins hx7
    have LH8 : LiveH (upd H7 x (.ins C dx (putF "starts" (V.ref sd) fs6))) d ks ls := (LH6.ex X7).keep (fun _ _ e => ins_dk hx7 _ _ e) (fun _ _ e => ins_lst hx7 _ _ e)
    have hx8 : upd H7 x (.ins C dx (putF "starts" (V.ref sd) fs6)) x = some (.ins C dx (putF "starts" (V.ref sd) fs6)) := upd_same
    generalize upd H7 x (.ins C dx (putF "starts" (V.ref sd) fs6)) = H8 at X8 hx8 LH8 St8 ⊢
    generalize putF "starts" (V.ref sd) fs6 = fs8 at R8 hx8 L8 T8 ⊢
    clear LH6 hx6 L6 R6 hx7 X7 X07 X6 St
    refine ⟨sz (by show 1 ≤ 900; decide), fun p0 np0 => ?_⟩
    have s0 := same_upd (o := .lst [V.int 0]) np0
    have ep0 : upd H8 p0 (.lst [V.int 0]) p0 = some (.lst [V.int 0]) := upd_same
    have X9 := X8.trs s0
    have hx9 := s0 _ _ hx8
    have LH9 := LH8.same s0
    have St9 := St8.same s0
    generalize upd H8 p0 (.lst [V.int 0]) = H9 at X9 hx9 LH9 St9 ep0 ⊢
    clear s0 LH8 hx8 X8 St8
    refine ⟨_, rfl, x, dx, fs8, rfl, hx9, R8.al, x, b, d, rows, ks, ls, rfl, ⟨⟨dx, fs8, hx9, R8.rb, L8, R8.go, R8.al⟩, .inl LH9.d, LH9.l⟩, LH9.d, hA.ts X9.ts, hO, fun L gas J S2 jL lg hgs => ?_⟩
    have hxJ := S2 _ _ hx9
    have StJ := St9.same S2
    refine ⟨L, rfl, ⟨_, SqL.of jL⟩, fun D hD => go_list (K := K) (a := L) (xs := gas.map V.ref) (fun i G => Same J G ∧ ∃ ns : List Int, G D = some (.lst (ns.map V.int)) ∧ ns.length ≤ 3 * i) ?_ ?_ ?_ ?_⟩
    · exact ⟨same_upd hD, [], upd_same, Nat.le_refl _⟩
    · rintro i G _ ⟨S3, _⟩
      exact SqL.of (S3 _ _ jL)
    · rintro i y G hy ⟨S3, ns, gD, ln⟩
      have hi := (List.getElem?_eq_some_iff.mp hy).1
      rw [List.length_map] at hi
      rw [List.getElem?_map] at hy
      obtain ⟨ga, hga, rfl⟩ := Option.map_eq_some_iff.mp hy
      obtain ⟨g, ⟨nas, eg, pn⟩, gok⟩ := hgs ga (List.mem_of_getElem? hga)
      have lpn := paired_len pn
      have gl := gok.len
      refine ⟨rfl, tYes_go (iteT ?_)⟩
      refine ⟨_, rfl, ga, rfl, ⟨_, SqT.of (S3 _ _ eg)⟩, KaC.go_tup (K := K) (a := ga) (xs := nas.map V.ref) (fun q G3 => Same J G3 ∧ ∃ ns : List Int, G3 D = some (.lst (ns.map V.int)) ∧ ns.length ≤ 3 * i + q) ?_ ?_ ?_ ?_⟩
      · exact ⟨S3, ns, gD, ln⟩
      · rintro q G3 _ ⟨S4, _⟩
        exact SqT.of (S4 _ _ eg)
      · rintro q y G3 hy ⟨S4, ns3, gD3, ln3⟩
        have hq := (List.getElem?_eq_some_iff.mp hy).1
        rw [List.length_map] at hq
        rw [List.getElem?_map] at hy
        obtain ⟨na, hna, rfl⟩ := Option.map_eq_some_iff.mp hy
        obtain ⟨it, hit, ena⟩ := paired_at pn hna
        refine ⟨rfl, tYes_go (iteT ?_)⟩
        refine ⟨_, rfl, x, C, dx, fs8, .ref sd, rfl, S4 _ _ hxJ, Z.cl, Z.nT, T8, _, rfl, sd, na, f, nmsOf ks, it, rows, nmsOf ks, rfl, StJ.same S4, S4 _ _ ena, gok.nv it (List.mem_of_getElem? hit), ?_⟩
        refine ⟨_, gD3, small1000 (by rw [List.length_map]; omega), fun b u e => by rw [upd_ne (ne_of_none e hD)]; exact S4 b u e, ns3 ++ [_], by rw [upd_same, List.map_append]; rfl, by rw [List.length_append, List.length_singleton]; omega⟩
      · rintro G3 ⟨S4, ns3, gD3, ln3⟩
        rw [List.length_map] at ln3
        exact ⟨S4, ns3, gD3, by omega⟩
    · rintro G ⟨S3, ns, gD, ln⟩
      rw [List.length_map] at ln
      have S23 := KaG.Same.tr S2 S3
      refine ⟨p0, D, _, _, rfl, rfl, S23 _ _ ep0, gD, sz (by rw [List.length_map]; show 1 + ns.length ≤ 900; omega), fun l nl => ?_⟩
      have sl := same_upd (o := .lst ([V.int 0] ++ ns.map V.int)) nl
      have S4 := KaG.Same.tr S23 sl
      have hx10 := S4 _ _ hx9
      refine ⟨l, 0 :: ns, rfl, SqL.of upd_same, Nat.succ_pos _, fun m mm hm => ?_⟩
      have X10 := X9.trs S4
      have St10 := St9.same S4
      generalize upd G l (.lst ([V.int 0] ++ ns.map V.int)) = H10 at hx10 X10 St10 ⊢
      refine ⟨_, rfl, x, C, dx, fs8, rfl, hx10, Z.cl, Z.nE, (by have := R8.len; omega), ?_⟩
      have R11 := R8.put "settled" (V.int m) (by decide +kernel) (by decide +kernel) (by decide +kernel)
      have T11 : (putF "settled" (V.int m) fs8).lookup ("starts" : Str) = some (.ref sd) := putF_more T8 (by decide +kernel)
      have X11 := X10.wrI (C' := C) (dx' := dx) (fs' := putF "settled" (V.int m) fs8) hx10 nx
      have St11 : StA (upd H10 x (.ins C dx (putF "settled" (V.int m) fs8))) sd f (nmsOf ks) := St10.ins hx10
      have hx11 : upd H10 x (.ins C dx (putF "settled" (V.int m) fs8)) x = some (.ins C dx (putF "settled" (V.int m) fs8)) := upd_same
      generalize upd H10 x (.ins C dx (putF "settled" (V.int m) fs8)) = H11 at X11 hx11 St11 ⊢
      generalize putF "settled" (V.int m) fs8 = fs11 at R11 hx11 T11 ⊢
      obtain ⟨r, kt, kas, e1, e2, e3, pk⟩ := hA.ts X11.ts
      have hlen := paired_len pk
      refine ⟨_, rfl, b, _, 1, .ref kt, rfl, rfl, SqT.of e1, rfl, kt, rfl, ⟨_, SqT.of e3⟩, fun D2 hD2 => dc_tup (K := K) (a := kt) (xs := kas.map V.ref) (fun i G => Same H11 G ∧ ∃ kvs, G D2 = some (.dK kvs) ∧ kvs.length ≤ i) ?_ ?_ ?_ ?_⟩
      · exact ⟨same_upd hD2, [], upd_same, Nat.le_refl _⟩
      · rintro i G _ ⟨S, _⟩
        exact SqT.of (S _ _ e3)
      · rintro i y G hy ⟨SG, kvs, gD2, lk⟩
        have hi := (List.getElem?_eq_some_iff.mp hy).1
        rw [List.length_map, hlen] at hi
        rw [List.getElem?_map] at hy
        obtain ⟨ka, ha, rfl⟩ := Option.map_eq_some_iff.mp hy
        obtain ⟨kd, hkd, gt, gas, f1, f2, f3⟩ := paired_at pk ha
        refine ⟨rfl, tYes_go (iteT ?_)⟩
        refine ⟨_, rfl, ka, _, 0, .str kd.name, rfl, rfl, SqT.of (SG _ _ f1), rfl, _, rfl, ka, _, 1, .int kd.keep, rfl, rfl, SqT.of (SG _ _ f1), rfl, _, Sum.inr kd.name, rfl, gD2, small1000 (by omega), fun b u e => by rw [upd_ne (ne_of_none e hD2)]; exact SG b u e, _, upd_same, Nat.le_trans (length_putK _ _ _) (Nat.succ_le_succ lk)⟩
      · rintro G ⟨SG, kvs, gD2, lk⟩
        refine ⟨_, rfl, x, C, dx, fs11, rfl, SG _ _ hx11, Z.cl, Z.nK, (by have := R11.len; omega), ?_⟩
        exact k sd f _ _ ((X11.trs SG).wrI (SG _ _ hx11) nx) upd_same (putF_more T11 (by decide +kernel)) ((St11.same SG).ins (SG _ _ hx11)) FSf
end
end KaG


set_option maxRecDepth 100000
set_option maxHeartbeats 4000000
/-! fresh_from -/
namespace KaG
open PySem PySem.Spec PyProof.Rows L2 KaC KaN LamX NdefX KaU
def frV (o : Option Int) : V := match o with
  | none => .non
  | some v => if v = ALW then .str "always" else .int v
section
variable {P : Program} {w : World} {K : PySem.W.Frag} {mg : Str → Option Value} {base : Heap}
abbrev sFresh : Stmt := top 24
abbrev nmFr : List Str := ["rulebook", "struck", "name", "starts"]
theorem scFr : FnScope nmFr ["rulebook", "struck", "name"] (defScope sFresh) := ⟨rfl, rfl, rfl, by decide +kernel, rfl, by decide +kernel, by decide +kernel⟩
def spFresh (T : List NTab) : Sp := fun vs H Q _ => ∃ (b sa : Addr) (n : Str) (rows : List Str) (ks : List Kd) (S : List Str), vs = [.ref b, .ref sa, .str n] ∧ BookAt H b rows ks ∧ BookOk rows ks ∧ Sq2 H sa (S.map V.str) ∧ TabsN T H ∧
  ∀ (f : Str → Option Int) (H' : Hp), Ex T H H' → FS ks S f → Q (frV (f n)) H'
theorem ok_fresh {T : List NTab} {C f fI : Addr} {fd fdI : FuncData} (F : Fun K "fresh_from" "fresh_from" sFresh f fd) (Z : ChT K mg C) (N : NvT mg) (M : Mk K C fI)
    (GI : FnOk P w K mg base CX0 9 fI fdI ["self", "rulebook", "struck"] (spChI C T)) (bI : Binds K fdI ["self", "rulebook", "struck"] []) : FnOk P w K mg base CX0 11 f fd ["rulebook", "struck", "name"] (spFresh T) := by
  refine F.ok scFr (fun vs H Q E h => ?_) (fun cdv A outer s H vs Q E hr h => ?_)
  · obtain ⟨b, sa, n, rows, ks, S, rfl, _⟩ := h
    rfl
  · obtain ⟨b, sa, n, rows, ks, S, rfl, hA, hO, hS, hT, k⟩ := h
    have u1 := hu_of hr
    refine ⟨_, (pss_cons (ps_set (i := 3) scFr.nd rfl (Or.inl rfl) (pe_fld (pe_make M GI hr (by rfl) Z.mgC bI .nil pass0 (pa_cons (pv 0) (pa_cons (pv 1) pa_nil))) rfl))
      (pss_cons (ps_if (pt_cmp (pc_dnotin u1 (pv 2) (pv 3))) (pss_one (ps_ret pe_non)) pss_nil)
      (pss_one (ps_ret (pe_ifExp (pt_cmpR (r := rEq) op_eq (pe_dget u1 (pv 3) (pv 2) (fun _ _ => rfl)) (C8.pe_gc (by rfl) N.alw) (nomark _)) pe_str (pe_dget u1 (pv 3) (pv 2) (fun _ _ => rfl))))))), ?_⟩
    refine ⟨_, rfl, _, rfl, fun x dx nx ndx nex => ?_⟩
    have s1 := same_upd (o := .own x) ndx
    have nx1 : upd H dx (.own x) x = none := by rw [upd_ne nex.symm]; exact nx
    have X0 : Ex T H (upd (upd H dx (.own x)) x (.ins C dx [])) := Ex.same hT (KaG.Same.tr s1 (same_upd nx1))
    refine ⟨x, b, sa, dx, rows, ks, S, H, rfl, upd_same, nx, X0, hA, hO, hS, fun sd f fs H' X hx lk St hF => ⟨rfl, ?_⟩⟩
    refine ⟨x, C, dx, fs, .ref sd, rfl, hx, Z.cl, Z.nT, lk, ?_⟩
    obtain ⟨kvs, eS, dk⟩ := St.it
    have hg : DGet H' sd (.str n) ((f n).map V.int) := by
      rw [← dk.g]
      exact DGet.k (k := Sum.inr n) eS
    have kk := k f H' X hF
    cases e : f n with
    | none =>
      rw [e] at hg kk
      refine ⟨_, rfl, _, rfl, sd, none, rfl, hg, _, rfl, ?_⟩
      exact iteT kk
    | some v =>
      rw [e] at hg kk
      refine ⟨_, rfl, _, rfl, sd, some (.int v), rfl, hg, _, rfl, ?_⟩
      refine iteF ?_
      refine ⟨_, rfl, _, rfl, sd, .int v, rfl, hg, ?_⟩
      refine ⟨rfl, _, rfl, ?_⟩
      refine ite2 (fun hc => ?_) fun hc => ?_
      · have ev : v = ALW := by
          have h1 : V.int v = V.int ALW := of_decide_eq_true hc
          injection h1
        have : frV (some v) = .str "always" := by
          unfold frV
          dsimp only
          rw [if_pos ev]
        rw [this] at kk
        exact kk
      · have ev : ¬ v = ALW := fun z => hc (decide_eq_true (by rw [z]))
        have : frV (some v) = .int v := by
          unfold frV
          dsimp only
          rw [if_neg ev]
        rw [this] at kk
        exact ⟨_, rfl, _, rfl, sd, .int v, rfl, hg, kk⟩
end
end KaG


set_option maxRecDepth 100000
set_option maxHeartbeats 4000000
namespace KaG
open PySem PySem.Spec PyProof.Rows L2 KaC
section
variable {P : Program} {w : World} {K : PySem.W.Frag} {mg : Str → Option Value} {base : Heap}
abbrev sLClean : Stmt := top 44
abbrev nmL3 : List Str := ["rulebook", "struck", "kinds", "live", "found", "turn", "name", "k", "needs", "bad", "need"]
theorem scL3 : FnScope nmL3 ["rulebook", "struck"] (defScope sLClean) := ⟨rfl, rfl, rfl, by decide +kernel, rfl, by decide +kernel, by decide +kernel⟩
theorem ok_lClean {f fK fL : Addr} {fd fdK fdL : FuncData} (F : Fun K "_law_clean" "_law_clean" sLClean f fd) (T : TxtC mg) (CK : Ct P w K mg base "_law_kinds_of" 1 ["rulebook"] spKindsO fK fdK) (CL : Ct P w K mg base "_law_live" 3 ["rulebook"] spLLive fL fdL) : FnOk P w K mg base CX0 4 f fd ["rulebook", "struck"] spLClean := by
  refine F.ok scL3 (fun vs H Q E h => ?_) (fun cdv A outer s H vs Q E hr h => ?_)
  · obtain ⟨b, sa, rows, ks, S, rfl, _⟩ := h
    rfl
  · obtain ⟨b, sa, rows, ks, S, rfl, hA, hO, hS, k⟩ := h
    have u1 := hu_of hr
    have hr1 : Room 1 (A.deeper (envOfC "_law_clean" (defScope sLClean) s.heap.objs.size f cdv)) := hr.mono (by decide)
    have hu : (A.deeper (envOfC "_law_clean" (defScope sLClean) s.heap.objs.size f cdv)).units + 64 < cLine := by have := hr.3; omega
    refine ⟨_, (pss_cons (ps_asg (pe_tup (pa_cons (pe_call CK.G hr1 (by rfl) CK.m CK.kp CK.b .nil pass0 (pa_cons (pv 0) pa_nil)) (pa_cons (pe_call CL.G hr (by rfl) CL.m CL.kp CL.b .nil pass0 (pa_cons (pv 0) pa_nil)) (pa_cons (pe_lst pa_nil) pa_nil)))) (pg_tup (by rfl) (pgs_cons (pg_name (i := 2) scL3.nd rfl (Or.inl rfl)) (pgs_cons (pg_name (i := 3) scL3.nd rfl (Or.inl rfl)) (pgs_cons (pg_name (i := 4) scL3.nd rfl (Or.inr rfl)) pgs_nil)))))
      (pss_cons (ps_for PassesOwn.never rfl (pi_range1 rfl T.b.range (pa_cons (pe_callB call_lenD (by rfl) T.b.len PySem.boot_len (pa_cons (pv 2) pa_nil)) pa_nil)) (pg_name (i := 5) scL3.nd rfl (Or.inl rfl))
        (pss_one (ps_for PassesOwn.never rfl (pi_list (pe_callB (call_sortedD (by rfl)) (by rfl) T.sor (by decide +kernel) (pa_cons (pv 2) pa_nil))) (pg_name (i := 6) scL3.nd rfl (Or.inl rfl))
          (pss_one (ps_for PassesOwn.never rfl (pi_list (pe_dget u1 (pv 3) (pv 6) (fun _ _ => rfl))) (pg_name (i := 7) scL3.nd rfl (Or.inl rfl))
            (pss_cons (ps_set (i := 8) scL3.nd rfl (Or.inl rfl) (pe_ix (r := rIxT K) ix_tup (pe_ix (r := rIxT K) ix_tup (pe_dget u1 (pv 2) (pv 6) (fun _ _ => rfl)) pe_int (fun _ _ => rfl)) (pv 7) (fun _ _ => rfl)))
            (pss_cons (ps_setLc (i := 9) (own := [("need", 10)]) (g := gName 10) (tt := tAnd (tTest (tOp rEq (tOp (rIxT K) (tVar 10) (tC (.int 0))) (tC (.str "kind")))) (tTest (tOp (rIn K true) (tOp (rIxT K) (tVar 10) (tC (.int 1))) (tVar 4)))) (by rfl) scL3.nd rfl rfl (sw_true rfl rfl rfl (by decide +kernel)) (pi_tup (pv 8)) (blkOk_by (own := [("need", 10)]) (N := nmL3) (sc := defScope sLClean) (by decide +kernel)) (fun _ _ _ _ _ => pg_name (i := 10) scL3.nd rfl (Or.inl rfl))
              (fun _ _ _ _ _ => pts_one (PW.pt (pw_and (pt_cmpR (r := rEq) op_eq (pe_ix (r := rIxT K) ix_tup (pv 10) pe_int (fun _ _ => rfl)) pe_str (nomark _)) (pw_and1 (pt_cmpR (r := rIn K true) op_notIn_seq (pe_ix (r := rIxT K) ix_tup (pv 10) pe_int (fun _ _ => rfl)) (pv 4) rfl)))))
              (fun _ _ _ _ _ => pv 10))
            (pss_cons (ps_set (i := 9) scL3.nd rfl (Or.inl rfl) (pe_op op_cat (pv 9) (pe_lc (own := [("need", 10)]) (g := gName 10) (tt := tAnd (tTest (tOp rEq (tOp (rIxT K) (tVar 10) (tC (.int 0))) (tC (.str "row")))) (tTest (tOp (rIn K false) (tOp (rIxT K) (tVar 10) (tC (.int 1))) (tVar 1)))) (by rfl) scL3.nd (pi_tup (pv 8)) (blkOk_by (own := [("need", 10)]) (N := nmL3) (sc := defScope sLClean) (by decide +kernel)) (fun _ _ _ _ _ => pg_name (i := 10) scL3.nd rfl (Or.inl rfl))
              (fun _ _ _ _ _ => pts_one (PW.pt (pw_and (pt_cmpR (r := rEq) op_eq (pe_ix (r := rIxT K) ix_tup (pv 10) pe_int (fun _ _ => rfl)) pe_str (nomark _)) (pw_and1 (pt_cmpR (r := rIn K false) op_in_seq (pe_ix (r := rIxT K) ix_tup (pv 10) pe_int (fun _ _ => rfl)) (pv 1) rfl)))))
              (fun _ _ _ _ _ => pv 10))))
            (pss_one (ps_expr (pe_bm PySem.F.plainAttrs_list PySem.F.slot_list_extend PySem.F.type_list_extend mt_extend (pv 4) (pa_cons (pe_op op_rep (pe_lst (pa_cons (pv 6) pa_nil)) (pe_callTy call_int1 (by rfl) T.b.int (by decide +kernel) (pa_cons (pe_and (pe_cmpR (op_eqD hu) (pv 9) (pe_lst pa_nil) (nomark _)) (pe_one (pe_cmpR (r := rIn K true) op_notIn_seq (pv 6) (pv 4) rfl))) pa_nil))) pa_nil))))))))))))
      (pss_one (ps_ret (pv 4))))), ?_⟩
    have sz : ∀ {m : Nat}, m ≤ 900 → m ≤ sizeLine := fun h => Nat.le_of_lt (small1000 (by omega))
    have hk5 := hO.k5
    have nd := hO.nm.nd
    refine ⟨_, rfl, b, rows, ks, rfl, hA, hO, fun d ts H1 S1 nd0 KD => ?_⟩
    refine ⟨_, rfl, b, rows, ks, rfl, hA.ts (TSame.of S1), hO, fun d2 ls H2 S2 nd2 LD => ?_⟩
    refine ⟨Nat.zero_le _, fun p np => ⟨sz (by show 3 ≤ 900; decide), fun t0 nt0 => ?_⟩⟩
    refine ⟨t0, _, rfl, SqT.of upd_same, by rfl, _, _, rfl, _, _, rfl, _, _, rfl, rfl, ?_⟩
    have S02 := KaG.Same.tr S1 S2
    have KD2 := KD.same S2
    have LH := LD.h
    have hS2 := hS.same S02
    have pH : H p = none := same_non S02 p np
    have s3 := KaG.Same.tr (same_upd (o := .lst []) np) (same_upd (o := .tup [.ref d, .ref d2, .ref p]) nt0)
    have ep : (upd (upd H2 p (.lst [])) t0 (.tup [.ref d, .ref d2, .ref p])) p = some (.lst (([] : List Str).map V.str)) := same_upd nt0 _ _ upd_same
    generalize upd (upd H2 p (.lst [])) t0 (.tup [.ref d, .ref d2, .ref p]) = H3 at s3 ep ⊢
    have lkv : (kvsOf ks ts).length = ks.length := kvs_len (paired_len KD.t)
    have wr : ∀ {G : Hp} {o : HO}, Same H2 G → Same H2 (upd G p o) := fun S b u e => by rw [upd_ne (ne_of_none e np)]; exact S b u e
    have mo := jC_mono ks (bearOf ks) S
    refine ⟨_, rfl, d, _, rfl, s3 _ _ KD2.d, _, rfl, by rw [lkv]; omega, by rw [lkv]; omega, for_range (n := ((kvsOf ks ts).length : Int).toNat) (fun t σ' G => (∃ x5 x6 x7 x8 x9 x10 : Option V, σ' = [some (.ref b), some (.ref sa), some (.ref d), some (.ref d2), some (.ref p), x5, x6, x7, x8, x9, x10]) ∧ Same H2 G ∧ ∃ F : List Str, G p = some (.lst (F.map V.str)) ∧ Chs (nmsOf ks) (jC ks (bearOf ks) S) F ∧ (Clo (nmsOf ks) (jC ks (bearOf ks) S) F ∨ t ≤ F.length)) ?_ ?_ ?_⟩
    · exact ⟨⟨_, _, _, _, _, _, rfl⟩, s3, [], ep, Chs.nil, .inr (Nat.zero_le _)⟩
    · rintro t σ' G ht ⟨⟨x5, x6, x7, x8, x9, x10, rfl⟩, SG, F, gp, hC, ho⟩
      refine ⟨_, rfl, d, kvsOf ks ts, ks.map Kd.name, rfl, .inl (SG _ _ KD2.d), kvs_keysN KD2.t, by rw [List.length_map]; omega, fun ys c pm srt nc => ?_⟩
      obtain rfl : ys = ks.map Kd.name := sorted_one hO.nm.of hO.nm.up srt pm
      have sc := same_upd (o := .lst ((ks.map Kd.name).map V.str)) nc
      have cp : c ≠ p := fun z => by rw [z, gp] at nc; cases nc
      have gp2 := sc _ _ gp
      have SG2 := KaG.Same.tr SG sc
      have ec : upd G c (.lst ((ks.map Kd.name).map V.str)) c = some (.lst ((ks.map Kd.name).map V.str)) := upd_same
      generalize upd G c (.lst ((ks.map Kd.name).map V.str)) = G2 at gp2 SG2 ec ⊢
      refine ⟨c, rfl, ⟨_, SqL.of ec⟩, for_list (K := K) (a := c) (xs := (ks.map Kd.name).map V.str) (fun j σ' J => (∃ x6 x7 x8 x9 x10 : Option V, σ' = [some (.ref b), some (.ref sa), some (.ref d), some (.ref d2), some (.ref p), some (.int (0 + (t : Int))), x6, x7, x8, x9, x10]) ∧ Same H2 J ∧ J c = some (.lst ((ks.map Kd.name).map V.str)) ∧ ∃ F : List Str, J p = some (.lst (F.map V.str)) ∧ Pg (nmsOf ks) (jC ks (bearOf ks) S) t j F) ?_ ?_ ?_ ?_⟩
      · exact ⟨⟨_, _, _, _, _, rfl⟩, SG2, ec, F, gp2, Pg.start hC ho⟩
      · rintro j σ' J _ ⟨_, _, e, _⟩
        exact SqL.of e
      · rintro j x σ' J hx ⟨⟨x6, x7, x8, x9, x10, rfl⟩, SJ, jc, F', jp, hP⟩
        rw [List.getElem?_map] at hx
        obtain ⟨n, hn, rfl⟩ := Option.map_eq_some_iff.mp hx
        have mn : n ∈ nmsOf ks := List.mem_of_getElem? hn
        obtain ⟨kd, mk, kn⟩ := List.mem_map.mp mn
        obtain ⟨l, ev, el⟩ := kvs_get nd LH.l mk
        obtain ⟨tl, ev2, gt, gas, y1, y2, y3⟩ := kvs_get nd KD2.t mk
        rw [kn] at ev el ev2
        have g4 := (hO.num kd mk).2.2.2.2
        have eg : gsOf ks n = kd.gs := by rw [← kn, gsOf_eq nd mk]
        refine ⟨_, rfl, _, rfl, d2, .ref l, rfl, by rw [← ev]; exact DGet.k (k := Sum.inr n) (SJ _ _ LH.d), l, rfl, ⟨_, SqL.of (SJ _ _ el)⟩, for_list (K := K) (a := l) (xs := ixV (liveIx ks (bearOf ks) n)) (fun i σ' J => (∃ x7 x8 x9 x10 : Option V, σ' = [some (.ref b), some (.ref sa), some (.ref d), some (.ref d2), some (.ref p), some (.int (0 + (t : Int))), some (.str n), x7, x8, x9, x10]) ∧ Same H2 J ∧ J c = some (.lst ((ks.map Kd.name).map V.str)) ∧ ∃ F : List Str, J p = some (.lst (F.map V.str)) ∧ Pk (nmsOf ks) (jC ks (bearOf ks) S) t j F n (liveIx ks (bearOf ks) n) (fun i F => (forcedPl S F (grAt ks n i)).isEmpty) i) ?_ ?_ ?_ ?_⟩
        · exact ⟨⟨_, _, _, _, rfl⟩, SJ, jc, F', jp, Pk.start hP⟩
        · rintro i σ' J _ ⟨_, SJ, _⟩
          exact SqL.of (SJ _ _ el)
        · rintro i x σ' J hx ⟨⟨x7, x8, x9, x10, rfl⟩, SJ, jc, F', jp, hP⟩
          obtain ⟨q, hq, rfl⟩ := ixV_at hx
          have mq := List.mem_of_getElem? hq
          obtain ⟨gr, hgr, _⟩ := ats_mem.mp mq
          rw [eg] at hgr
          obtain ⟨ga, hga, ns, e3, pg⟩ := paired_at2 y3 hgr
          have mg' := List.mem_of_getElem? hgr
          have gok := hO.gr mk mg'
          have l3 := gok.len
          have lg := paired_len pg
          have l5 : F'.length ≤ 5 := Nat.le_trans hP.ch.len (by rw [List.length_map]; exact hk5)
          have lq4 : q < 4 := Nat.lt_of_lt_of_le (List.getElem?_eq_some_iff.mp hgr).1 g4
          refine ⟨_, rfl, _, rfl, d, .ref tl, rfl, by rw [← ev2]; exact DGet.k (k := Sum.inr n) (SJ _ _ KD2.d), tl, _, 2, .ref gt, rfl, rfl, SqT.of (SJ _ _ y1), rfl, _, rfl, gt, _, _, .ref ga, rfl, rfl, SqT.of (SJ _ _ y2), atI_nat (by rw [List.getElem?_map, hga]; rfl), ?_⟩
          refine ⟨_, rfl, ga, rfl, ⟨_, SqT.of (SJ _ _ e3)⟩, fun D hD => lc_tup (K := K) (a := ga) (xs := ns.map V.ref) (fun m J2 => Same J J2 ∧ ∃ qs : List Addr, J2 D = some (.lst (qs.map V.ref)) ∧ Paired (fun a it => J2 a = some (.tup it)) qs ((gr.take m).filter (ndBk F'))) ?_ ?_ ?_ ?_⟩
          · exact ⟨same_upd hD, [], upd_same, .nil⟩
          · rintro m J2 _ ⟨S4, _⟩
            exact SqT.of (S4 _ _ (SJ _ _ e3))
          · rintro m x J2 hx ⟨S4, qs, jD, pq⟩
            rw [List.getElem?_map] at hx
            obtain ⟨na, hna, rfl⟩ := Option.map_eq_some_iff.mp hx
            obtain ⟨it, hit, en⟩ := paired_at pg hna
            have nv := gok.nv it (List.mem_of_getElem? hit)
            have enJ := S4 _ _ (SJ _ _ en)
            have lq : qs.length ≤ 3 := by
              have w1 := paired_len pq
              have w2 := List.length_filter_le (ndBk F') (gr.take m)
              rw [List.length_take] at w2
              omega
            have tk : gr.take (m + 1) = gr.take m ++ [it] := by rw [List.take_add_one, hit]; rfl
            refine ⟨rfl, ?_⟩
            cases nv with
            | row nm t u h =>
              refine ⟨_, rfl, na, _, 0, .str "row", rfl, rfl, SqT.of enJ, rfl, rfl, _, rfl, iteDF (by decide +kernel) (iteF ⟨S4, qs, jD, ?_⟩)⟩
              rw [tk, List.filter_append]
              have fk : List.filter (ndBk F') [[V.str "row", V.str nm, V.int t, V.int u]] = [] := rfl
              rw [fk, List.append_nil]
              exact pq
            | kind nm a t u h =>
              refine ⟨_, rfl, na, _, 0, .str "kind", rfl, rfl, SqT.of enJ, rfl, rfl, _, rfl, iteD (by decide +kernel) ⟨_, rfl, na, _, 1, .str nm, rfl, rfl, SqT.of enJ, rfl, _, rfl, p, F'.map V.str, rfl, .inl (SqL.of (S4 _ _ jp)), rfl, flat_strs, _, rfl, ?_⟩⟩
              rw [show (if true = true then !inV (V.str nm) (List.map V.str F') else inV (V.str nm) (List.map V.str F')) = !decide (nm ∈ F') by rw [if_pos rfl, inV_str]]
              refine ite2 (fun hc => ?_) fun hc => ?_
              · refine ⟨_, rfl, _, jD, small1000 (by rw [List.length_map]; omega), fun b u e => by rw [upd_ne (ne_of_none e hD)]; exact S4 b u e, qs ++ [na], by rw [upd_same, List.map_append]; rfl, ?_⟩
                rw [tk, List.filter_append, List.filter_cons_of_pos (p := ndBk F') (show ndBk F' [V.str "kind", V.str nm, V.int a, V.int t, V.int u] = true from hc)]
                have tsl := ts_lst (ys := qs.map V.ref ++ [V.ref na]) jD
                exact paired_snoc (R := fun a it => (upd J2 D (.lst (qs.map V.ref ++ [V.ref na]))) a = some (.tup it)) (tsl _ _ enJ) (Paired.mono' (fun _ _ z => tsl _ _ z) pq)
              · refine ⟨S4, qs, jD, ?_⟩
                rw [tk, List.filter_append, List.filter_cons_of_neg (p := ndBk F') (show ¬ ndBk F' [V.str "kind", V.str nm, V.int a, V.int t, V.int u] = true from hc), List.filter_nil, List.append_nil]
                exact pq
          · rintro J2 ⟨S4, qs, jD, pq⟩
            rw [List.length_map, lg, List.take_length] at pq
            have lq := paired_len pq
            have lf := List.length_filter_le (ndBk F') gr
            have SJ2 := KaG.Same.tr SJ S4
            refine ⟨_, rfl, _, rfl, ga, rfl, ⟨_, SqT.of (SJ2 _ _ e3)⟩, fun D2 hD2 => lc_tup (K := K) (a := ga) (xs := ns.map V.ref) (fun m J3 => Same J2 J3 ∧ ∃ qs2 : List Addr, J3 D2 = some (.lst (qs2.map V.ref)) ∧ Paired (fun a it => J3 a = some (.tup it)) qs2 ((gr.take m).filter (ndBr S))) ?_ ?_ ?_ ?_⟩
            · exact ⟨same_upd hD2, [], upd_same, .nil⟩
            · rintro m J3 _ ⟨S5, _⟩
              exact SqT.of (S5 _ _ (SJ2 _ _ e3))
            · rintro m x J3 hx ⟨S5, qs2, j2D, pq2⟩
              rw [List.getElem?_map] at hx
              obtain ⟨na, hna, rfl⟩ := Option.map_eq_some_iff.mp hx
              obtain ⟨it, hit, en⟩ := paired_at pg hna
              have nv := gok.nv it (List.mem_of_getElem? hit)
              have enJ := S5 _ _ (SJ2 _ _ en)
              have lq2 : qs2.length ≤ 3 := by
                have w1 := paired_len pq2
                have w2 := List.length_filter_le (ndBr S) (gr.take m)
                rw [List.length_take] at w2
                omega
              have tk : gr.take (m + 1) = gr.take m ++ [it] := by rw [List.take_add_one, hit]; rfl
              refine ⟨rfl, ?_⟩
              cases nv with
              | row nm t u h =>
                refine ⟨_, rfl, na, _, 0, .str "row", rfl, rfl, SqT.of enJ, rfl, rfl, _, rfl, iteD (by decide +kernel) ⟨_, rfl, na, _, 1, .str nm, rfl, rfl, SqT.of enJ, rfl, _, rfl, sa, S.map V.str, rfl, (hS2.same (KaG.Same.tr SJ2 S5)).in_, rfl, flat_strs, _, rfl, ?_⟩⟩
                rw [show (if false = true then !inV (V.str nm) (List.map V.str S) else inV (V.str nm) (List.map V.str S)) = decide (nm ∈ S) from inV_str]
                refine ite2 (fun hc => ?_) fun hc => ?_
                · refine ⟨_, rfl, _, j2D, small1000 (by rw [List.length_map]; omega), fun b u e => by rw [upd_ne (ne_of_none e hD2)]; exact S5 b u e, qs2 ++ [na], by rw [upd_same, List.map_append]; rfl, ?_⟩
                  rw [tk, List.filter_append, List.filter_cons_of_pos (p := ndBr S) (show ndBr S [V.str "row", V.str nm, V.int t, V.int u] = true from hc)]
                  have tsl := ts_lst (ys := qs2.map V.ref ++ [V.ref na]) j2D
                  exact paired_snoc (R := fun a it => (upd J3 D2 (.lst (qs2.map V.ref ++ [V.ref na]))) a = some (.tup it)) (tsl _ _ enJ) (Paired.mono' (fun _ _ z => tsl _ _ z) pq2)
                · refine ⟨S5, qs2, j2D, ?_⟩
                  rw [tk, List.filter_append, List.filter_cons_of_neg (p := ndBr S) (show ¬ ndBr S [V.str "row", V.str nm, V.int t, V.int u] = true from hc), List.filter_nil, List.append_nil]
                  exact pq2
              | kind nm a t u h =>
                refine ⟨_, rfl, na, _, 0, .str "kind", rfl, rfl, SqT.of enJ, rfl, rfl, _, rfl, iteDF (by decide +kernel) (iteF ⟨S5, qs2, j2D, ?_⟩)⟩
                rw [tk, List.filter_append]
                have fk : List.filter (ndBr S) [[V.str "kind", V.str nm, V.int a, V.int t, V.int u]] = [] := rfl
                rw [fk, List.append_nil]
                exact pq2
            · rintro J3 ⟨S5, qs2, j2D, pq2⟩
              rw [List.length_map, lg, List.take_length] at pq2
              have lq2 := paired_len pq2
              have lf2 := List.length_filter_le (ndBr S) gr
              have SJ3 := KaG.Same.tr SJ2 S5
              refine ⟨D, D2, _, _, rfl, rfl, S5 _ _ jD, j2D, sz (by rw [List.length_map, List.length_map]; omega), fun q3 nq3 => ?_⟩
              have pq' := Paired.mono' (fun a it (z : J2 a = some (.tup it)) => S5 _ _ z) pq
              have pqs := paired_app pq' pq2
              have s6 := same_upd (o := .lst (qs.map V.ref ++ qs2.map V.ref)) nq3
              have eq3 : upd J3 q3 (.lst (qs.map V.ref ++ qs2.map V.ref)) q3 = some (.lst ((qs ++ qs2).map V.ref)) := by rw [upd_same, List.map_append]
              have SJ4 := KaG.Same.tr SJ3 s6
              have S45 := KaG.Same.tr S4 (KaG.Same.tr S5 s6)
              have pqs4 := Paired.mono' (fun a it (z : J3 a = some (.tup it)) => s6 _ _ z) pqs
              generalize upd J3 q3 (.lst (qs.map V.ref ++ qs2.map V.ref)) = J4 at eq3 SJ4 S45 pqs4 ⊢
              have jp4 := S45 _ _ jp
              have jc4 := S45 _ _ jc
              refine ⟨_, rfl, .inl ⟨rfl, _, SqL.of jp4⟩, _, rfl, sz (by show 1 ≤ 900; decide), fun l2 nl2 => ?_⟩
              have s7 := same_upd (o := .lst [.str n]) nl2
              have el2 : upd J4 l2 (.lst [.str n]) l2 = some (.lst [.str n]) := upd_same
              generalize upd J4 l2 (.lst [.str n]) = J5 at s7 el2 ⊢
              refine ⟨_, rfl, Nat.zero_le _, fun z nz => ?_⟩
              have s8 := same_upd (o := .lst []) nz
              have S78 := KaG.Same.tr s7 s8
              have ez : upd J5 z (.lst []) z = some (.lst []) := upd_same
              have el3 := s8 _ _ el2
              generalize upd J5 z (.lst []) = J6 at s8 S78 ez el3 ⊢
              obtain ⟨ds, d1, d2', d3, d4⟩ := needs_dp (K := K) hO.rw.of hO.nm.of (Paired.mono' (fun a it (e : J4 a = some (.tup it)) => S78 _ _ e) pqs4) fun it m => by
                rcases List.mem_append.mp m with m | m
                · exact gok.nv it (List.mem_filter.mp m).1
                · exact gok.nv it (List.mem_filter.mp m).1
              refine ⟨.list ds, .list [], .lst (SqL.of (S78 _ _ eq3)) d1, .lst (SqL.of ez) .nil, shaped_list d2' (by omega), shaped_list (fun _ z => (by cases z)) (by simp [PyData.depthAll]), _, rfl, ?_⟩
              rw [eqv_empty, d4, bad_eq gok.nv]
              refine and_in 6 4 rfl rfl (.inl (SqL.of (S78 _ _ jp4))) fun c hc => ?_
              refine .inr ⟨_, rfl, l2, _, _, rfl, rfl, el3, ?_, ?_, ?_, fun e ne => ?_⟩
              · cases c <;> decide
              · cases c <;> decide
              · cases c
                · exact sz (by show 1 * 0 ≤ 900; decide)
                · exact sz (by show 1 * 1 ≤ 900; decide)
              · have Se : ∀ o, Same J4 (upd J6 e o) := fun o => KaG.Same.tr S78 (same_upd ne)
                have egr := grAt_eq eg hgr
                cases c with
                | false =>
                  refine ⟨p, e, _, _, rfl, rfl, Se _ _ _ jp4, upd_same, sz (by rw [List.length_map]; show F'.length + 0 ≤ 900; omega), ?_⟩
                  refine ⟨⟨_, _, _, _, rfl⟩, wr (KaG.Same.tr SJ4 (Se _)), by rw [upd_ne cp]; exact Se _ _ _ jc4, F', by rw [upd_same]; show some (HO.lst (_ ++ [])) = _; rw [List.append_nil], hP.skip hq fun y => ?_⟩
                  have y : (forcedPl S F' (grAt ks n q)).isEmpty = true := y
                  rw [egr] at y
                  rw [y, Bool.true_and] at hc
                  exact Classical.byContradiction fun z => by rw [decide_eq_false z] at hc; cases hc
                | true =>
                  have hc' := hc.symm
                  rw [Bool.and_eq_true, Bool.not_eq_true', decide_eq_false_iff_not] at hc'
                  refine ⟨p, e, _, _, rfl, rfl, Se _ _ _ jp4, upd_same, sz (by rw [List.length_map]; show F'.length + 1 ≤ 900; omega), ?_⟩
                  refine ⟨⟨_, _, _, _, rfl⟩, wr (KaG.Same.tr SJ4 (Se _)), by rw [upd_ne cp]; exact Se _ _ _ jc4, F' ++ [n], by rw [upd_same, List.map_append]; rfl, hP.add mo mn hc'.2 ?_⟩
                  exact List.any_eq_true.mpr ⟨q, mq, by rw [egr]; exact hc'.1⟩
        · rintro σ' J ⟨⟨x7, x8, x9, x10, rfl⟩, SJ, jc, F', jp, hP⟩
          rw [ixV_len] at hP
          exact ⟨⟨_, _, _, _, _, rfl⟩, SJ, jc, F', jp, hP.done (fun e => List.any_eq_true.mp e) hn⟩
      · rintro σ' J ⟨⟨x6, x7, x8, x9, x10, rfl⟩, SJ, jc, F', jp, hP⟩
        rw [List.length_map] at hP
        exact ⟨⟨_, _, _, _, _, _, rfl⟩, SJ, F', jp, hP.ch, hP.done⟩
    · rintro σ' G ⟨⟨x5, x6, x7, x8, x9, x10, rfl⟩, SG, F, gp, hC, ho⟩
      refine ⟨_, rfl, k p F G (KaG.Same.tr S02 SG) pH gp hC (hC.clo nd (ho.imp id fun z => ?_))⟩
      rw [lkv] at z
      rw [List.length_map]
      exact z
end
end KaG


set_option maxRecDepth 100000
set_option maxHeartbeats 4000000
/-! _law_fresh -/
namespace KaG
open PySem PySem.Spec PyProof.Rows L2 KaC KaN LamX NdefX KaU
noncomputable abbrev clF (ks : List Kd) (S : List Str) : Str → Bool := fun n => decide (n ∈ cleanOf ks S)
def yX (g : Str → Option Int) : Str → Int := fun n => (g n).getD 1000
theorem yX_up {g : Str → Option Int} {n : Str} {v : Int} : yX (fUp g n v) = up (yX g) n v := by
  funext m
  unfold yX fUp up
  by_cases e : n = m
  · rw [if_pos e, if_pos e.symm]
    rfl
  · rw [if_neg e, if_neg fun z => e z.symm]
/-- what the law tells of a kind -/
noncomputable def dueV (ks : List Kd) (S : List Str) (y : Str → Int) (n : Str) : V := open Classical in if n ∈ cleanOf ks S then .str "always" else if y n < 1000 then .int (y n) else .non
/-- the law's numbers are right -/
def YOk (ks : List Kd) (S : List Str) (y : Str → Int) : Prop := ∀ f, FS ks S f → ∀ n ∈ nmsOf ks, n ∉ cleanOf ks S → (stX f n < NEV → y n = stX f n ∧ y n < 1000) ∧ (¬ stX f n < NEV → ¬ y n < 1000)
theorem due_eq {ks : List Kd} {S : List Str} {y : Str → Int} (h : YOk ks S y) {f : Str → Option Int} (F : FS ks S f) {n : Str} (mn : n ∈ nmsOf ks) : dueV ks S y n = frV (f n) := by
  have N2 : NEV = (2000000 : Int) := rfl
  have A2 : ALW = (-1000000 : Int) := rfl
  unfold dueV
  by_cases c : n ∈ cleanOf ks S
  · rw [if_pos c]
    have hc := F.sf.pi.c n (decide_eq_true c)
    unfold stX at hc
    cases e : f n with
    | none =>
      rw [e] at hc
      have hc : NEV = ALW := hc
      omega
    | some v =>
      rw [e] at hc
      have hc : v = ALW := hc
      unfold frV
      dsimp only
      rw [if_pos hc]
  · rw [if_neg c]
    obtain ⟨h1, h2⟩ := h f F n mn c
    have z := F.sf.pi.z n (decide_eq_false c)
    cases e : f n with
    | none =>
      have hx : stX f n = NEV := by unfold stX; rw [e]; rfl
      rw [if_neg (h2 (by omega))]
      rfl
    | some v =>
      have hx : stX f n = v := by unfold stX; rw [e]; rfl
      have lt := F.sf.lt n v e
      obtain ⟨h3, h4⟩ := h1 (by omega)
      rw [if_pos h4]
      unfold frV
      dsimp only
      rw [if_neg (by omega), h3, hx]
theorem valV_nms {F : Str → V} {m : Str} : ∀ {ns : List Str}, valV (ns.map fun n => ((Sum.inr n : Key), F n)) (Sum.inr m) = if m ∈ ns then some (F m) else none
  | [] => rfl
  | n :: r => by
    rw [List.map_cons]
    by_cases e : n = m
    · subst e
      rw [valV_pos rfl, if_pos List.mem_cons_self]
    · rw [valV_neg (fun z => e (Sum.inr.inj z)), valV_nms]
      by_cases z : m ∈ r
      · rw [if_pos z, if_pos (List.mem_cons_of_mem _ z)]
      · rw [if_neg z, if_neg fun y => (List.mem_cons.mp y).elim (fun q => e q.symm) z]
def lawD (y : Str → Int) : List V → Int
  | [.str _, .str p, .int a, .int _, .int _] => y p + a
  | _ => 0
/-- the greatest of 0 and the days of the needs that count -/
theorem isV_of {ks : List Kd} {S F rows names : List Str} {y : Str → Int} {gr : Gr} {v : Int} (hn : ∀ it ∈ gr, NeedV rows names it) (hF : ∀ n, n ∈ F ↔ n ∈ cleanOf ks S) (mv : v ∈ 0 :: ((gr.filter (ndBk F)).map (lawD y))) (hv : ∀ u ∈ 0 :: ((gr.filter (ndBk F)).map (lawD y)), u ≤ v) : IsV (clF ks S) y (gr.map ndK) v := by
  refine ⟨hv 0 List.mem_cons_self, fun m b mb hc => ?_, ?_⟩
  · obtain ⟨it, mi, e⟩ := List.mem_map.mp mb
    have nv := hn it mi
    cases nv with
    | row n t u h => cases e
    | kind n a t u h =>
      injection e with e
      injection e with e1 e2
      subst e1
      subst e2
      have nF : n ∉ F := fun z => of_decide_eq_false hc ((hF n).mp z)
      refine hv _ (List.mem_cons_of_mem _ (List.mem_map.mpr ⟨_, List.mem_filter.mpr ⟨mi, ?_⟩, rfl⟩))
      show (!decide (n ∈ F)) = true
      rw [decide_eq_false nF]
      rfl
  · rcases List.mem_cons.mp mv with e | e
    · exact .inl e
    · obtain ⟨it, mi, rfl⟩ := List.mem_map.mp e
      obtain ⟨m1, m2⟩ := List.mem_filter.mp mi
      have nv := hn it m1
      cases nv with
      | row n t u h => cases m2
      | kind n a t u h =>
        have nF : ¬ n ∈ F := fun z => by
          have m2 : (!decide (n ∈ F)) = true := m2
          rw [decide_eq_true z] at m2
          cases m2
        exact .inr ⟨n, a, List.mem_map.mpr ⟨_, m1, rfl⟩, decide_eq_false fun z => nF ((hF n).mpr z), rfl⟩
theorem put_at {g : Str → Option Int} {n : Str} (h : g n ≠ none) : (g n).map V.int = some (.int (yX g n)) := by
  unfold yX
  cases e : g n with
  | none => exact absurd e h
  | some v => rfl
section
variable {P : Program} {w : World} {K : PySem.W.Frag} {mg : Str → Option Value} {base : Heap}
abbrev sLF : Stmt := top 45
abbrev nmL5 : List Str := ["rulebook", "struck", "kinds", "live", "clean", "found", "name", "turn", "k", "days", "need", "told"]
theorem scLFr : FnScope nmL5 ["rulebook", "struck"] (defScope sLF) := ⟨rfl, rfl, rfl, by decide +kernel, rfl, by decide +kernel, by decide +kernel⟩
def spLF : Sp := fun vs H Q _ => ∃ (b sa : Addr) (rows : List Str) (ks : List Kd) (S : List Str), vs = [.ref b, .ref sa] ∧ BookAt H b rows ks ∧ BookOk rows ks ∧ Sq2 H sa (S.map V.str) ∧
  ∀ (p : Addr) (y : Str → Int) (H' : Hp), Same H H' → H p = none → H' p = some (.dK ((nmsOf ks).map fun n => (Sum.inr n, dueV ks S y n))) → YOk ks S y → Q (.ref p) H'
theorem ok_LF {f fK fL fC : Addr} {fd fdK fdL fdC : FuncData} (F : Fun K "_law_fresh" "_law_fresh" sLF f fd) (T : TxtC mg) (N : NvT mg) (CK : Ct P w K mg base "_law_kinds_of" 1 ["rulebook"] spKindsO fK fdK) (CL : Ct P w K mg base "_law_live" 3 ["rulebook"] spLLive fL fdL)
    (CC : Ct P w K mg base "_law_clean" 4 ["rulebook", "struck"] spLClean fC fdC) : FnOk P w K mg base CX0 5 f fd ["rulebook", "struck"] spLF := by
  refine F.ok scLFr (fun vs H Q E h => ?_) (fun cdv A outer s H vs Q E hr h => ?_)
  · obtain ⟨b, sa, rows, ks, S, rfl, _⟩ := h
    rfl
  · obtain ⟨b, sa, rows, ks, S, rfl, hA, hO, hS, k⟩ := h
    have u1 := hu_of hr
    have hr1 : Room 1 (A.deeper (envOfC "_law_fresh" (defScope sLF) s.heap.objs.size f cdv)) := hr.mono (by decide)
    have hr3 : Room 3 (A.deeper (envOfC "_law_fresh" (defScope sLF) s.heap.objs.size f cdv)) := hr.mono (by decide)
    have hr4 : Room 4 (A.deeper (envOfC "_law_fresh" (defScope sLF) s.heap.objs.size f cdv)) := hr
    refine ⟨_, (pss_cons (ps_asg (pe_tup (pa_cons (pe_call CK.G hr1 (by rfl) CK.m CK.kp CK.b .nil pass0 (pa_cons (pv 0) pa_nil)) (pa_cons (pe_call CL.G hr3 (by rfl) CL.m CL.kp CL.b .nil pass0 (pa_cons (pv 0) pa_nil)) (pa_cons (pe_call CC.G hr4 (by rfl) CC.m CC.kp CC.b .nil pass0 (pa_cons (pv 0) (pa_cons (pv 1) pa_nil))) pa_nil)))) (pg_tup (by rfl) (pgs_cons (pg_name (i := 2) scLFr.nd rfl (Or.inl rfl)) (pgs_cons (pg_name (i := 3) scLFr.nd rfl (Or.inl rfl)) (pgs_cons (pg_name (i := 4) scLFr.nd rfl (Or.inr rfl)) pgs_nil)))))
      (pss_cons (ps_set (i := 5) scLFr.nd rfl (Or.inr rfl) (pe_callTy (call_dictP rfl) (by rfl) T.dct (by decide +kernel) (pa_cons (pe_lc (own := [("name", 6)]) (g := gName 6) (by rfl) scLFr.nd (pi_list (pe_callB (call_sortedD (by rfl)) (by rfl) T.sor (by decide +kernel) (pa_cons (pv 2) pa_nil)))
          (blkOk_by (own := [("name", 6)]) (N := nmL5) (sc := defScope sLF) (by decide +kernel)) (fun _ _ _ _ _ => pg_name (i := 6) scLFr.nd rfl (Or.inl rfl)) (fun _ _ _ _ _ => pts_nil)
          (fun _ _ _ _ _ => pe_tup (pa_cons (pv 6) (pa_cons pe_int pa_nil)))) pa_nil)))
      (pss_cons (ps_for PassesOwn.never rfl (pi_range1 rfl T.b.range (pa_cons (pe_op op_add (pe_callB call_lenD (by rfl) T.b.len PySem.boot_len (pa_cons (pv 2) pa_nil)) pe_int) pa_nil)) (pg_name (i := 7) scLFr.nd rfl (Or.inl rfl))
        (pss_one (ps_for PassesOwn.never rfl (pi_list (pe_callB (call_sortedD (by rfl)) (by rfl) T.sor (by decide +kernel) (pa_cons (pv 2) pa_nil))) (pg_name (i := 6) scLFr.nd rfl (Or.inl rfl))
          (pss_one (ps_for PassesOwn.never rfl (pi_list (pe_dget u1 (pv 3) (pv 6) (fun _ _ => rfl))) (pg_name (i := 8) scLFr.nd rfl (Or.inl rfl))
            (pss_cons (ps_setLc (i := 9) (own := [("need", 10)]) (g := gName 10) (tt := tAnd (tTest (tOp rEq (tOp (rIxT K) (tVar 10) (tC (.int 0))) (tC (.str "kind")))) (tTest (tOp (rIn K true) (tOp (rIxT K) (tVar 10) (tC (.int 1))) (tVar 4)))) (by rfl) scLFr.nd rfl rfl (sw_true rfl rfl rfl (by decide +kernel))
              (pi_tup (pe_ix (r := rIxT K) ix_tup (pe_ix (r := rIxT K) ix_tup (pe_dget u1 (pv 2) (pv 6) (fun _ _ => rfl)) pe_int (fun _ _ => rfl)) (pv 8) (fun _ _ => rfl))) (blkOk_by (own := [("need", 10)]) (N := nmL5) (sc := defScope sLF) (by decide +kernel)) (fun _ _ _ _ _ => pg_name (i := 10) scLFr.nd rfl (Or.inl rfl))
              (fun _ _ _ _ _ => pts_one (PW.pt (pw_and (pt_cmpR (r := rEq) op_eq (pe_ix (r := rIxT K) ix_tup (pv 10) pe_int (fun _ _ => rfl)) pe_str (nomark _)) (pw_and1 (pt_cmpR (r := rIn K true) op_notIn_seq (pe_ix (r := rIxT K) ix_tup (pv 10) pe_int (fun _ _ => rfl)) (pv 4) rfl)))))
              (fun _ _ _ _ _ => pv 10))
            (pss_one (ps_dput u1 (pv 5) (pv 6) (pe_callB (call_min2 rfl) (by rfl) N.min (by decide +kernel) (pa_cons (pe_dget u1 (pv 5) (pv 6) (fun _ _ => rfl)) (pa_cons (pe_callB (r := rMax K) (cr_max rfl) (by rfl) N.max (by decide +kernel) (pa_cons (pe_op op_cat (pe_lst (pa_cons pe_int pa_nil))
                (pe_lc (own := [("need", 10)]) (g := gName 10) (te := tOp (rI0 fun i j => V.int (i + j)) (tDGet (tVar 5) (tOp (rIxT K) (tVar 10) (tC (.int 1)))) (tOp (rIxT K) (tVar 10) (tC (.int 2)))) (by rfl) scLFr.nd (pi_list (pv 9)) (blkOk_by (own := [("need", 10)]) (N := nmL5) (sc := defScope sLF) (by decide +kernel)) (fun _ _ _ _ _ => pg_name (i := 10) scLFr.nd rfl (Or.inl rfl)) (fun _ _ _ _ _ => pts_nil)
                  (fun _ _ _ _ _ => pe_op (r := rI0 fun i j => V.int (i + j)) op_add (pe_dget u1 (pv 5) (pe_ix (r := rIxT K) ix_tup (pv 10) pe_int (fun _ _ => rfl)) (fun _ _ => rfl)) (pe_ix (r := rIxT K) ix_tup (pv 10) pe_int (fun _ _ => rfl))))) pa_nil)) pa_nil))) rfl))))))))
      (pss_cons (ps_set (i := 11) scLFr.nd rfl (Or.inl rfl) pe_dnewK)
      (pss_cons (ps_for PassesOwn.never rfl (pi_list (pe_callB (call_sortedD (by rfl)) (by rfl) T.sor (by decide +kernel) (pa_cons (pv 2) pa_nil))) (pg_name (i := 6) scLFr.nd rfl (Or.inl rfl))
          (pss_one (ps_dput u1 (pv 11) (pv 6) (pe_ifExp (pt_cmpR (r := rIn K false) op_in_seq (pv 6) (pv 4) rfl) pe_str (pe_ifExp (pt_cmpR op_lt (pe_dget u1 (pv 5) (pv 6) (fun _ _ => rfl)) pe_int (nomark _)) (pe_dget u1 (pv 5) (pv 6) (fun _ _ => rfl)) pe_non)) rfl)))
      (pss_one (ps_ret (pv 11)))))))), ?_⟩
    have sz : ∀ {m : Nat}, m ≤ 900 → m ≤ sizeLine := fun h => Nat.le_of_lt (small1000 (by omega))
    have hk5 := hO.k5
    have nd := hO.nm.nd
    refine ⟨_, rfl, b, rows, ks, rfl, hA, hO, fun d ts H1 S1 nd0 KD => ?_⟩
    refine ⟨_, rfl, b, rows, ks, rfl, hA.ts (TSame.of S1), hO, fun d2 ls H2 S2 nd2 LD => ?_⟩
    have S02 := KaG.Same.tr S1 S2
    refine ⟨_, rfl, _, rfl, b, sa, rows, ks, S, rfl, hA.ts (TSame.of S02), hO, hS.same S02, fun cp F H3 S3 ncp ecp hCh hClo => ?_⟩
    have hF : ∀ n, n ∈ F ↔ n ∈ cleanOf ks S := hCh.mem hClo (clean_isL ks S)
    have l5F : F.length ≤ 5 := Nat.le_trans hCh.len (by rw [List.length_map]; exact hk5)
    refine ⟨sz (by show 3 ≤ 900; decide), fun t0 nt0 => ?_⟩
    refine ⟨t0, _, rfl, SqT.of upd_same, by rfl, _, _, rfl, _, _, rfl, _, _, rfl, rfl, ?_⟩
    have s4 := same_upd (o := .tup [.ref d, .ref d2, .ref cp]) nt0
    have S04 := KaG.Same.tr (KaG.Same.tr S02 S3) s4
    have KD4 := (KD.same (KaG.Same.tr S2 S3)).same s4
    have LH4 := (LD.h.same S3).same s4
    have ec4 := s4 _ _ ecp
    generalize upd H3 t0 (.tup [.ref d, .ref d2, .ref cp]) = H4 at S04 KD4 LH4 ec4 ⊢
    clear s4 S3 ecp LD S2 KD S1 S02 nt0 ncp
    have lkv : (kvsOf ks ts).length = ks.length := kvs_len (paired_len KD4.t)
    refine ⟨_, rfl, d, kvsOf ks ts, ks.map Kd.name, rfl, .inl KD4.d, kvs_keysN KD4.t, by rw [List.length_map]; omega, fun ys c pm srt nc => ?_⟩
    obtain rfl : ys = ks.map Kd.name := sorted_one hO.nm.of hO.nm.up srt pm
    have sc := same_upd (o := .lst ((ks.map Kd.name).map V.str)) nc
    have ec : upd H4 c (.lst ((ks.map Kd.name).map V.str)) c = some (.lst ((ks.map Kd.name).map V.str)) := upd_same
    have S05 := KaG.Same.tr S04 sc
    have KD5 := KD4.same sc
    have LH5 := LH4.same sc
    have ec5 := sc _ _ ec4
    generalize upd H4 c (.lst ((ks.map Kd.name).map V.str)) = H5 at S05 KD5 LH5 ec5 ec ⊢
    clear sc S04 KD4 LH4 ec4 nc
    refine ⟨c, rfl, ⟨_, SqL.of ec⟩, fun D hD => lc_list (K := K) (a := c) (xs := (ks.map Kd.name).map V.str) (fun i G => Same H5 G ∧ ∃ ps : List Addr, G D = some (.lst (ps.map V.ref)) ∧ Paired (fun p (kv : Key × V) => G p = some (.tup [kV kv.1, kv.2])) ps (((nmsOf ks).take i).map fun n => ((Sum.inr n : Key), V.int 1000))) ?_ ?_ ?_ ?_⟩
    · exact ⟨same_upd hD, [], upd_same, .nil⟩
    · rintro i G _ ⟨SG, _⟩
      exact SqL.of (SG _ _ ec)
    · rintro i x G hx ⟨SG, ps, gD, pp⟩
      rw [List.getElem?_map] at hx
      obtain ⟨n, hn, rfl⟩ := Option.map_eq_some_iff.mp hx
      have lp := paired_len pp
      rw [List.length_map, List.length_take, List.length_map] at lp
      refine ⟨rfl, tYes_go (iteT ?_)⟩
      refine ⟨_, rfl, sz (by show 2 ≤ 900; decide), fun q nq => ?_⟩
      have sq := same_upd (o := .tup [.str n, .int 1000]) nq
      have eq : upd G q (.tup [.str n, .int 1000]) q = some (.tup [.str n, .int 1000]) := upd_same
      have gD2 := sq _ _ gD
      have SG2 := KaG.Same.tr SG sq
      have pp2 := Paired.mono' (fun p (kv : Key × V) (z : G p = some (.tup [kV kv.1, kv.2])) => sq _ _ z) pp
      generalize upd G q (.tup [.str n, .int 1000]) = G2 at eq gD2 SG2 pp2 ⊢
      have tsl := ts_lst (ys := ps.map V.ref ++ [V.ref q]) gD2
      refine ⟨_, gD2, small1000 (by rw [List.length_map]; omega), fun b u e => by rw [upd_ne (ne_of_none e hD)]; exact SG2 b u e, ps ++ [q], by rw [upd_same, List.map_append]; rfl, ?_⟩
      rw [List.take_add_one, hn, Option.toList_some, List.map_append]
      exact paired_snoc (R := fun p2 (kv : Key × V) => (upd G2 D (.lst (ps.map V.ref ++ [V.ref q]))) p2 = some (.tup [kV kv.1, kv.2])) (x := q) (y := (Sum.inr n, V.int 1000)) (tsl _ _ eq) (Paired.mono' (fun p (kv : Key × V) (z : G2 p = some (.tup [kV kv.1, kv.2])) => tsl _ _ z) pp2)
    · rintro G ⟨SG, ps, gD, pp⟩
      rw [List.length_map, List.take_length] at pp
      refine ⟨D, ps, _, rfl, SqL.of gD, Paired.mono' (fun p kv q => SqT.of q) pp, fun fdd nfd => ?_⟩
      have ek : ((nmsOf ks).map fun n => ((Sum.inr n : Key), V.int 1000)).map (·.1) = (nmsOf ks).map Sum.inr := by rw [List.map_map]; rfl
      have nk : ((([] : List (Key × V)) ++ ((nmsOf ks).map fun n => ((Sum.inr n : Key), V.int 1000))).map (·.1)).Nodup := by
        rw [List.nil_append, ek]
        exact inr_nodup nd
      have em : mergeK [] ((nmsOf ks).map fun n => ((Sum.inr n : Key), V.int 1000)) = (nmsOf ks).map fun n => ((Sum.inr n : Key), V.int 1000) := by
        rw [merge_new _ _ nk, List.nil_append]
      rw [em]
      have nfd5 : H5 fdd = none := same_non SG fdd nfd
      have s6 := same_upd (o := .dK ((nmsOf ks).map fun n => ((Sum.inr n : Key), V.int 1000))) nfd
      have S56 := KaG.Same.tr SG s6
      have ef6 : upd G fdd (.dK ((nmsOf ks).map fun n => ((Sum.inr n : Key), V.int 1000))) fdd = some (.dK ((nmsOf ks).map fun n => ((Sum.inr n : Key), V.int 1000))) := upd_same
      generalize upd G fdd (.dK ((nmsOf ks).map fun n => ((Sum.inr n : Key), V.int 1000))) = H6 at S56 ef6 ⊢
      have dk0 : DkF ((nmsOf ks).map fun n => ((Sum.inr n : Key), V.int 1000)) (fun n => if n ∈ nmsOf ks then some 1000 else none) (nmsOf ks) := ⟨fun m => by
        rw [valV_nms (F := fun _ => V.int 1000)]
        by_cases z : m ∈ nmsOf ks
        · rw [if_pos z, if_pos z]
          rfl
        · rw [if_neg z, if_neg z]
          rfl, by rw [ek]; exact inr_nodup nd, fun z m => by rw [ek] at m; exact m⟩
      have nme : (nmsOf ks).length = ks.length := by rw [List.length_map]
      refine ⟨_, rfl, d, _, rfl, S56 _ _ KD5.d, _, _, rfl, rfl, _, rfl, by rw [lkv]; omega, by rw [lkv]; omega, for_range (n := (((kvsOf ks ts).length : Int) + 1).toNat) (fun t σ' G => (∃ x6 x7 x8 x9 x10 x11 : Option V, σ' = [some (.ref b), some (.ref sa), some (.ref d), some (.ref d2), some (.ref cp), some (.ref fdd), x6, x7, x8, x9, x10, x11]) ∧ Same H5 G ∧ ∃ (kvs : List (Key × V)) (g : Str → Option Int), G fdd = some (.dK kvs) ∧ DkF kvs g (nmsOf ks) ∧ (∀ n ∈ nmsOf ks, g n ≠ none) ∧ ∀ f, FS ks S f → LI (nmsOf ks) (clF ks S) (stX f) (yX g) t []) ?_ ?_ ?_⟩
      · refine ⟨⟨_, _, _, _, _, _, rfl⟩, S56, _, _, ef6, dk0, (fun n mn => by rw [if_pos mn]; exact fun z => nomatch z), fun f hf => LI.start fun n mn => ?_⟩
        unfold yX
        dsimp only
        rw [if_pos mn]
        rfl
      · rintro t σ' G ht ⟨⟨x6, x7, x8, x9, x10, x11, rfl⟩, SG, kvs, g, gf, dk, hg, hLI⟩
        refine ⟨_, rfl, d, kvsOf ks ts, ks.map Kd.name, rfl, .inl (SG _ _ KD5.d), kvs_keysN KD5.t, by rw [List.length_map]; omega, fun ys c2 pm srt nc2 => ?_⟩
        obtain rfl : ys = ks.map Kd.name := sorted_one hO.nm.of hO.nm.up srt pm
        have s7 := same_upd (o := .lst ((ks.map Kd.name).map V.str)) nc2
        have c2f : c2 ≠ fdd := fun z => by rw [z, gf] at nc2; cases nc2
        have gf7 := s7 _ _ gf
        have SG7 := KaG.Same.tr SG s7
        have ec2 : upd G c2 (.lst ((ks.map Kd.name).map V.str)) c2 = some (.lst ((ks.map Kd.name).map V.str)) := upd_same
        generalize upd G c2 (.lst ((ks.map Kd.name).map V.str)) = G7 at gf7 SG7 ec2 ⊢
        refine ⟨c2, rfl, ⟨_, SqL.of ec2⟩, for_list (K := K) (a := c2) (xs := (ks.map Kd.name).map V.str) (fun j σ' J => (∃ x6 x8 x9 x10 x11 : Option V, σ' = [some (.ref b), some (.ref sa), some (.ref d), some (.ref d2), some (.ref cp), some (.ref fdd), x6, some (.int (0 + (t : Int))), x8, x9, x10, x11]) ∧ Same H5 J ∧ J c2 = some (.lst ((ks.map Kd.name).map V.str)) ∧ ∃ (kvs : List (Key × V)) (g : Str → Option Int), J fdd = some (.dK kvs) ∧ DkF kvs g (nmsOf ks) ∧ (∀ n ∈ nmsOf ks, g n ≠ none) ∧ ∀ f, FS ks S f → LI (nmsOf ks) (clF ks S) (stX f) (yX g) t ((nmsOf ks).take j)) ?_ ?_ ?_ ?_⟩
        · exact ⟨⟨_, _, _, _, _, rfl⟩, SG7, ec2, kvs, g, gf7, dk, hg, fun f hf => by rw [List.take_zero]; exact hLI f hf⟩
        · rintro j σ' J _ ⟨_, _, e, _⟩
          exact SqL.of e
        · rintro j x σ' J hx ⟨⟨x6, x8, x9, x10, x11, rfl⟩, SJ, jc, kvs, g, jf, dk, hg, hLI⟩
          rw [List.getElem?_map] at hx
          obtain ⟨n, hn, rfl⟩ := Option.map_eq_some_iff.mp hx
          have mn : n ∈ nmsOf ks := List.mem_of_getElem? hn
          obtain ⟨kd, mk, kn⟩ := List.mem_map.mp mn
          obtain ⟨l, ev, el⟩ := kvs_get nd LH5.l mk
          obtain ⟨tl, ev2, gt, gas, y1, y2, y3⟩ := kvs_get nd KD5.t mk
          rw [kn] at ev el ev2
          have g4 := (hO.num kd mk).2.2.2.2
          have eg : gsOf ks n = kd.gs := by rw [← kn, gsOf_eq nd mk]
          refine ⟨_, rfl, _, rfl, d2, .ref l, rfl, by rw [← ev]; exact DGet.k (k := Sum.inr n) (SJ _ _ LH5.d), l, rfl, ⟨_, SqL.of (SJ _ _ el)⟩, for_list (K := K) (a := l) (xs := ixV (liveIx ks (bearOf ks) n)) (fun i σ' J => (∃ x8 x9 x10 x11 : Option V, σ' = [some (.ref b), some (.ref sa), some (.ref d), some (.ref d2), some (.ref cp), some (.ref fdd), some (.str n), some (.int (0 + (t : Int))), x8, x9, x10, x11]) ∧ Same H5 J ∧ J c2 = some (.lst ((ks.map Kd.name).map V.str)) ∧ ∃ (kvs : List (Key × V)) (g : Str → Option Int), J fdd = some (.dK kvs) ∧ DkF kvs g (nmsOf ks) ∧ (∀ n ∈ nmsOf ks, g n ≠ none) ∧ ∀ f, FS ks S f → LI (nmsOf ks) (clF ks S) (stX f) (yX g) t ((nmsOf ks).take j) ∧
            ∀ q ∈ (lvN ks n).take i, clF ks S n = false → stX f n < NEV → (∀ d ∈ q, dN (stX f) d ≤ stX f n) → rk (nmsOf ks) (stX f) n ≤ t → yX g n ≤ stX f n) ?_ ?_ ?_ ?_⟩
          · exact ⟨⟨_, _, _, _, rfl⟩, SJ, jc, kvs, g, jf, dk, hg, fun f hf => ⟨hLI f hf, fun q m => by rw [List.take_zero] at m; cases m⟩⟩
          · rintro i σ' J _ ⟨_, SJ, _⟩
            exact SqL.of (SJ _ _ el)
          · rintro i x σ' J hx ⟨⟨x8, x9, x10, x11, rfl⟩, SJ, jc, kvs, g, jf, dk, hg, hLI⟩
            obtain ⟨q, hq, rfl⟩ := ixV_at hx
            have mq := List.mem_of_getElem? hq
            obtain ⟨gr, hgr, hlive⟩ := ats_mem.mp mq
            have e1 : grAt ks n q = gr := grAt_at hgr
            have mL : gr ∈ lvG ks n := lvG_mem.mpr ⟨List.mem_of_getElem? hgr, hlive⟩
            rw [eg] at hgr
            obtain ⟨ga, hga, ns, e3, pg⟩ := paired_at2 y3 hgr
            have mg' := List.mem_of_getElem? hgr
            have gok := hO.gr mk mg'
            have l3 := gok.len
            have lg := paired_len pg
            refine ⟨_, rfl, _, rfl, d, .ref tl, rfl, by rw [← ev2]; exact DGet.k (k := Sum.inr n) (SJ _ _ KD5.d), tl, _, 2, .ref gt, rfl, rfl, SqT.of (SJ _ _ y1), rfl, _, rfl, gt, _, _, .ref ga, rfl, rfl, SqT.of (SJ _ _ y2), atI_nat (by rw [List.getElem?_map, hga]; rfl), ga, rfl, ⟨_, SqT.of (SJ _ _ e3)⟩, fun D2 hD2 => lc_tup (K := K) (a := ga) (xs := ns.map V.ref) (fun m J2 => Same J J2 ∧ ∃ qs : List Addr, J2 D2 = some (.lst (qs.map V.ref)) ∧ Paired (fun a it => J2 a = some (.tup it)) qs ((gr.take m).filter (ndBk F))) ?_ ?_ ?_ ?_⟩
            · exact ⟨same_upd hD2, [], upd_same, .nil⟩
            · rintro m J2 _ ⟨S4, _⟩
              exact SqT.of (S4 _ _ (SJ _ _ e3))
            · rintro m x J2 hx ⟨S4, qs, jD, pq⟩
              rw [List.getElem?_map] at hx
              obtain ⟨na, hna, rfl⟩ := Option.map_eq_some_iff.mp hx
              obtain ⟨it, hit, en⟩ := paired_at pg hna
              have nv := gok.nv it (List.mem_of_getElem? hit)
              have enJ := S4 _ _ (SJ _ _ en)
              have lq : qs.length ≤ 3 := by
                have w1 := paired_len pq
                have w2 := List.length_filter_le (ndBk F) (gr.take m)
                rw [List.length_take] at w2
                omega
              have tk : gr.take (m + 1) = gr.take m ++ [it] := by rw [List.take_add_one, hit]; rfl
              refine ⟨rfl, ?_⟩
              cases nv with
              | row nm t u h =>
                refine ⟨_, rfl, na, _, 0, .str "row", rfl, rfl, SqT.of enJ, rfl, rfl, _, rfl, iteDF (by decide +kernel) (iteF ⟨S4, qs, jD, ?_⟩)⟩
                rw [tk, List.filter_append]
                have fk : List.filter (ndBk F) [[V.str "row", V.str nm, V.int t, V.int u]] = [] := rfl
                rw [fk, List.append_nil]
                exact pq
              | kind nm a t u h =>
                refine ⟨_, rfl, na, _, 0, .str "kind", rfl, rfl, SqT.of enJ, rfl, rfl, _, rfl, iteD (by decide +kernel) ⟨_, rfl, na, _, 1, .str nm, rfl, rfl, SqT.of enJ, rfl, _, rfl, cp, F.map V.str, rfl, .inl (SqL.of (S4 _ _ (SJ _ _ ec5))), rfl, flat_strs, _, rfl, ?_⟩⟩
                rw [show (if true = true then !inV (V.str nm) (List.map V.str F) else inV (V.str nm) (List.map V.str F)) = !decide (nm ∈ F) by rw [if_pos rfl, inV_str]]
                refine ite2 (fun hc => ?_) fun hc => ?_
                · refine ⟨_, rfl, _, jD, small1000 (by rw [List.length_map]; omega), fun b u e => by rw [upd_ne (ne_of_none e hD2)]; exact S4 b u e, qs ++ [na], by rw [upd_same, List.map_append]; rfl, ?_⟩
                  rw [tk, List.filter_append, List.filter_cons_of_pos (p := ndBk F) (show ndBk F [V.str "kind", V.str nm, V.int a, V.int t, V.int u] = true from hc)]
                  have tsl := ts_lst (ys := qs.map V.ref ++ [V.ref na]) jD
                  exact paired_snoc (R := fun a it => (upd J2 D2 (.lst (qs.map V.ref ++ [V.ref na]))) a = some (.tup it)) (tsl _ _ enJ) (Paired.mono' (fun _ _ z => tsl _ _ z) pq)
                · refine ⟨S4, qs, jD, ?_⟩
                  rw [tk, List.filter_append, List.filter_cons_of_neg (p := ndBk F) (show ¬ ndBk F [V.str "kind", V.str nm, V.int a, V.int t, V.int u] = true from hc), List.filter_nil, List.append_nil]
                  exact pq
            · rintro J2 ⟨S4, qs, jD, pq⟩
              rw [List.length_map, lg, List.take_length] at pq
              have lq := paired_len pq
              have lf := List.length_filter_le (ndBk F) gr
              have jf2 := S4 _ _ jf
              have hgetJ : ∀ {G : Hp}, Same J2 G → ∀ m ∈ nmsOf ks, DGet G fdd (.str m) (some (.int (yX g m))) := fun {G} s m mm => by
                rw [← put_at (hg m mm), ← dk.g]
                exact DGet.k (k := Sum.inr m) (s _ _ jf2)
              refine ⟨_, rfl, _, rfl, fdd, .int (yX g n), rfl, hgetJ Same.refl' n mn, sz (by show 1 ≤ 900; decide), fun p0 np0 => ?_⟩
              have s8 := same_upd (o := .lst [V.int 0]) np0
              have ep0 : upd J2 p0 (.lst [V.int 0]) p0 = some (.lst [V.int 0]) := upd_same
              generalize upd J2 p0 (.lst [V.int 0]) = J3 at s8 ep0 ⊢
              refine ⟨_, rfl, D2, rfl, ⟨_, SqL.of (s8 _ _ jD)⟩, fun D3 nD3 => lc_list (K := K) (a := D2) (xs := qs.map V.ref) (fun m J4 => Same J3 J4 ∧ J4 D3 = some (.lst ((((gr.filter (ndBk F)).take m).map (lawD (yX g))).map V.int))) ?_ ?_ ?_ ?_⟩
              · exact ⟨same_upd nD3, upd_same⟩
              · rintro m J4 _ ⟨S5, _⟩
                exact SqL.of (S5 _ _ (s8 _ _ jD))
              · rintro m x J4 hx ⟨S5, jD3⟩
                rw [List.getElem?_map] at hx
                obtain ⟨na, hna, rfl⟩ := Option.map_eq_some_iff.mp hx
                obtain ⟨it, hit, en⟩ := paired_at pq hna
                obtain ⟨mi, mb⟩ := List.mem_filter.mp (List.mem_of_getElem? hit)
                have nv := gok.nv it mi
                have s25 := KaG.Same.tr s8 S5
                have enJ := s25 _ _ en
                refine ⟨rfl, tYes_go (iteT ?_)⟩
                cases nv with
                | row nm t u h => cases mb
                | kind nm a t u h =>
                  refine ⟨_, rfl, _, rfl, na, _, 1, .str nm, rfl, rfl, SqT.of enJ, rfl, fdd, .int (yX g nm), rfl, hgetJ s25 nm h, _, rfl, na, _, 2, .int a, rfl, rfl, SqT.of enJ, rfl, _, _, rfl, rfl, ?_⟩
                  refine ⟨_, jD3, small1000 (by rw [List.length_map, List.length_map, List.length_take]; omega), fun b u e => by rw [upd_ne (ne_of_none e nD3)]; exact S5 b u e, ?_⟩
                  rw [upd_same, List.take_add_one, hit, Option.toList_some, List.map_append, List.map_append]
                  rfl
              · rintro J4 ⟨S5, jD3⟩
                rw [List.length_map, lq, List.take_length] at jD3
                have s25 := KaG.Same.tr s8 S5
                refine ⟨p0, D3, _, _, rfl, rfl, S5 _ _ ep0, jD3, sz (by rw [List.length_map, List.length_map]; show 1 + _ ≤ 900; omega), fun l9 nl9 => ?_⟩
                have s9 := same_upd (o := .lst ([V.int 0] ++ ((gr.filter (ndBk F)).map (lawD (yX g))).map V.int)) nl9
                have s29 := KaG.Same.tr s25 s9
                refine ⟨l9, 0 :: ((gr.filter (ndBk F)).map (lawD (yX g))), rfl, SqL.of upd_same, Nat.succ_pos _, fun m mm hm => ?_⟩
                generalize upd J4 l9 (.lst ([V.int 0] ++ ((gr.filter (ndBk F)).map (lawD (yX g))).map V.int)) = J5 at s9 s29 ⊢
                have hV : IsV (clF ks S) (yX g) (gr.map ndK) m := isV_of (fun it mi => gok.nv it mi) hF mm hm
                have jf5 := s29 _ _ jf2
                have lkg := dk.len
                rw [List.length_map] at lkg
                have mgN : gr.map ndK ∈ lvN ks n := List.mem_map.mpr ⟨gr, mL, rfl⟩
                have eN : (lvN ks n)[i]? = some (gr.map ndK) := by
                  unfold lvN lvG
                  rw [List.getElem?_map, List.getElem?_map, hq, Option.map_some, Option.map_some, e1]
                refine ⟨_, _, rfl, _, rfl, _, rfl, fdd, _, rfl, DPut.k (k := Sum.inr n) jf5 (small1000 (by omega)), ?_⟩
                have SJ5 : Same H5 J5 := KaG.Same.tr (KaG.Same.tr SJ S4) s29
                refine ⟨⟨_, _, _, _, rfl⟩, fun b u e => by rw [upd_ne (ne_of_none e nfd5)]; exact SJ5 b u e, by rw [upd_ne c2f]; exact s29 _ _ (S4 _ _ jc), _, fUp g n (minV (yX g n) m), upd_same, dk.put _ mn, fun q mq' => ?_, fun f hf => ?_⟩
                · unfold fUp
                  split
                  · exact fun z => nomatch z
                  · exact hg q mq'
                · obtain ⟨h1, h2⟩ := hLI f hf
                  obtain ⟨h3, h4⟩ := h1.step (gk_of hO) hf.sf.pi hf.pf mn mgN hV
                  rw [yX_up]
                  refine ⟨h3, fun q2 mq2 hc lt hd hr => ?_⟩
                  rw [up_same]
                  rw [List.take_add_one, eN] at mq2
                  rcases List.mem_append.mp mq2 with z | z
                  · have := h2 q2 z hc lt hd hr
                    have := (minV_le (yX g n) m).1
                    omega
                  · have : q2 = gr.map ndK := by simpa using z
                    subst this
                    exact h4 hc lt hd hr
          · rintro σ' J ⟨⟨x8, x9, x10, x11, rfl⟩, SJ, jc, kvs, g, jf, dk, hg, hLI⟩
            refine ⟨⟨_, _, _, _, _, rfl⟩, SJ, jc, kvs, g, jf, dk, hg, fun f hf => ?_⟩
            obtain ⟨h1, h2⟩ := hLI f hf
            have ll : (ixV (liveIx ks (bearOf ks) n)).length = (lvN ks n).length := by unfold ixV lvN lvG; rw [List.length_map, List.length_map, List.length_map]
            rw [ll, List.take_length] at h2
            rw [List.take_add_one, hn]
            exact h1.add hf.sf.pi h2
        · rintro σ' J ⟨⟨x6, x8, x9, x10, x11, rfl⟩, SJ, jc, kvs, g, jf, dk, hg, hLI⟩
          refine ⟨⟨_, _, _, _, _, _, rfl⟩, SJ, kvs, g, jf, dk, hg, fun f hf => ?_⟩
          have h1 := hLI f hf
          rw [List.length_map, List.take_length] at h1
          exact h1.turn
      · rintro σ' G ⟨⟨x6, x7, x8, x9, x10, x11, rfl⟩, SG, kvs, g, gf, dk, hg, hLI⟩
        have hY : YOk ks S (yX g) := fun f hf n mn nc => (hLI f hf).done (gk_of hO) hf.sf.pi hf.pf (by rw [nme]; exact hk5) (by rw [nme, lkv]; omega) mn (decide_eq_false nc)
        intro td ntd
        have s7 := same_upd (o := .dK []) ntd
        have S57 := KaG.Same.tr SG s7
        have gf7 := s7 _ _ gf
        have et7 : upd G td (.dK []) td = some (.dK []) := upd_same
        have ntd5 : H5 td = none := same_non SG td ntd
        have ntdH : H td = none := same_non S05 td ntd5
        generalize upd G td (.dK []) = H7 at S57 gf7 et7 ⊢
        refine ⟨_, rfl, d, kvsOf ks ts, ks.map Kd.name, rfl, .inl (S57 _ _ KD5.d), kvs_keysN KD5.t, by rw [List.length_map]; omega, fun ys c3 pm srt nc3 => ?_⟩
        obtain rfl : ys = ks.map Kd.name := sorted_one hO.nm.of hO.nm.up srt pm
        have s8 := same_upd (o := .lst ((ks.map Kd.name).map V.str)) nc3
        have S58 := KaG.Same.tr S57 s8
        have gf8 := s8 _ _ gf7
        have et8 := s8 _ _ et7
        have ec3 : upd H7 c3 (.lst ((ks.map Kd.name).map V.str)) c3 = some (.lst ((ks.map Kd.name).map V.str)) := upd_same
        have tdc : td ≠ c3 := fun z => by rw [← z, et7] at nc3; cases nc3
        have tdf : td ≠ fdd := fun z => by rw [z, gf] at ntd; cases ntd
        generalize upd H7 c3 (.lst ((ks.map Kd.name).map V.str)) = H8 at S58 gf8 et8 ec3 ⊢
        refine ⟨c3, rfl, ⟨_, SqL.of ec3⟩, for_list (K := K) (a := c3) (xs := (ks.map Kd.name).map V.str) (fun j σ' J => (∃ x6 x7 x8 x9 x10 : Option V, σ' = [some (.ref b), some (.ref sa), some (.ref d), some (.ref d2), some (.ref cp), some (.ref fdd), x6, x7, x8, x9, x10, some (.ref td)]) ∧ Same H5 J ∧ J fdd = some (.dK kvs) ∧ J c3 = some (.lst ((ks.map Kd.name).map V.str)) ∧ J td = some (.dK (((nmsOf ks).take j).map fun n => ((Sum.inr n : Key), dueV ks S (yX g) n)))) ?_ ?_ ?_ ?_⟩
        · exact ⟨⟨_, _, _, _, _, rfl⟩, S58, gf8, ec3, et8⟩
        · rintro j σ' J _ ⟨_, _, _, e, _⟩
          exact SqL.of e
        · rintro j x σ' J hx ⟨⟨x6, x7, x8, x9, x10, rfl⟩, SJ, jf, jc, jt⟩
          rw [List.getElem?_map] at hx
          obtain ⟨n, hn, rfl⟩ := Option.map_eq_some_iff.mp hx
          have mn : n ∈ nmsOf ks := List.mem_of_getElem? hn
          have fin : ∀ v : V, v = dueV ks S (yX g) n → (∃ z6 z7 z8 z9 z10 : Option V, [some (V.ref b), some (.ref sa), some (.ref d), some (.ref d2), some (.ref cp), some (.ref fdd), some (.str n), x7, x8, x9, x10, some (.ref td)] = [some (V.ref b), some (.ref sa), some (.ref d), some (.ref d2), some (.ref cp), some (.ref fdd), z6, z7, z8, z9, z10, some (.ref td)]) ∧ Same H5 (upd J td (.dK (putK (((nmsOf ks).take j).map fun n => ((Sum.inr n : Key), dueV ks S (yX g) n)) (Sum.inr n) v))) ∧ upd J td (.dK (putK (((nmsOf ks).take j).map fun n => ((Sum.inr n : Key), dueV ks S (yX g) n)) (Sum.inr n) v)) fdd = some (.dK kvs) ∧ upd J td (.dK (putK (((nmsOf ks).take j).map fun n => ((Sum.inr n : Key), dueV ks S (yX g) n)) (Sum.inr n) v)) c3 = some (.lst ((ks.map Kd.name).map V.str)) ∧ upd J td (.dK (putK (((nmsOf ks).take j).map fun n => ((Sum.inr n : Key), dueV ks S (yX g) n)) (Sum.inr n) v)) td = some (.dK (((nmsOf ks).take (j + 1)).map fun n => ((Sum.inr n : Key), dueV ks S (yX g) n))) := by
            rintro v rfl
            refine ⟨⟨_, _, _, _, _, rfl⟩, fun b u e => by rw [upd_ne (ne_of_none e ntd5)]; exact SJ b u e, by rw [upd_ne tdf.symm]; exact jf, by rw [upd_ne tdc.symm]; exact jc, ?_⟩
            rw [upd_same, List.take_add_one, hn, Option.toList_some, List.map_append]
            rw [putK_new]
            · rfl
            · rw [valV_nms (F := dueV ks S (yX g)), if_neg]
              intro m
              obtain ⟨q, hq⟩ := List.mem_iff_getElem?.mp m
              have hqj : q < j := by
                have := (List.getElem?_eq_some_iff.mp hq).1
                rw [List.length_take] at this
                omega
              rw [List.getElem?_take_of_lt hqj] at hq
              have := (List.getElem?_inj (List.getElem?_eq_some_iff.mp hq).1 nd).mp (hq.trans hn.symm)
              omega
          have hlt : (((nmsOf ks).take j).map fun n => ((Sum.inr n : Key), dueV ks S (yX g) n)).length < sizeLine := small1000 (by rw [List.length_map, List.length_take]; omega)
          refine ⟨_, rfl, _, rfl, cp, F.map V.str, rfl, .inl (SqL.of (SJ _ _ ec5)), rfl, flat_strs, _, rfl, ?_⟩
          rw [show (if false = true then !inV (V.str n) (List.map V.str F) else inV (V.str n) (List.map V.str F)) = decide (n ∈ F) from inV_str]
          by_cases hm : n ∈ F
          · refine iteD (decide_eq_true hm) ?_
            have q := fin (V.str "always") (by unfold dueV; rw [if_pos ((hF n).mp hm)])
            exact ⟨_, rfl, _, rfl, td, _, rfl, DPut.k (k := Sum.inr n) jt hlt, q⟩
          · refine iteDF (decide_eq_false hm) ?_
            have nc : n ∉ cleanOf ks S := fun z => hm ((hF n).mpr z)
            have hget : DGet J fdd (.str n) (some (.int (yX g n))) := by
              rw [← put_at (hg n mn), ← dk.g]
              exact DGet.k (k := Sum.inr n) jf
            refine ⟨_, rfl, _, rfl, fdd, .int (yX g n), rfl, hget, _, _, rfl, rfl, _, rfl, ?_⟩
            by_cases hy : yX g n < 1000
            · refine iteD (decide_eq_true hy) ?_
              have q := fin (V.int (yX g n)) (by unfold dueV; rw [if_neg nc, if_pos hy])
              exact ⟨_, rfl, _, rfl, fdd, .int (yX g n), rfl, hget, _, rfl, _, rfl, td, _, rfl, DPut.k (k := Sum.inr n) jt hlt, q⟩
            · refine iteDF (decide_eq_false hy) ?_
              have q := fin V.non (by unfold dueV; rw [if_neg nc, if_neg hy])
              exact ⟨_, rfl, _, rfl, td, _, rfl, DPut.k (k := Sum.inr n) jt hlt, q⟩
        · rintro σ' J ⟨⟨x6, x7, x8, x9, x10, rfl⟩, SJ, jf, jc, jt⟩
          rw [List.length_map, List.take_length] at jt
          exact ⟨_, rfl, k td (yX g) J (KaG.Same.tr S05 SJ) ntdH jt hY⟩
end
end KaG


set_option maxRecDepth 100000
set_option maxHeartbeats 4000000
namespace KaG
open PySem PySem.Spec PyProof.Rows L2 KaC
theorem met_eq1 {ks : List Kd} {F : List Str} {g : Gr} : decide ((g.filter fun it => !ndLive ks F it).length = 0) = grLive ks F g := by
  unfold grLive
  cases e : g.all (ndLive ks F) with
  | true =>
    have : g.filter (fun it => !ndLive ks F it) = [] := List.filter_eq_nil_iff.mpr fun a m z => by
      have := List.all_eq_true.mp e a m
      rw [this] at z
      cases z
    rw [this]
    rfl
  | false =>
    refine decide_eq_false fun z => ?_
    have nil := List.eq_nil_of_length_eq_zero z
    have : g.all (ndLive ks F) = true := List.all_eq_true.mpr fun it m => by
      cases q : ndLive ks F it with
      | true => rfl
      | false =>
        have : it ∈ g.filter fun it => !ndLive ks F it := List.mem_filter.mpr ⟨m, by simp [q]⟩
        rw [nil] at this
        cases this
    rw [this] at e
    cases e
section
variable {P : Program} {w : World} {K : PySem.W.Frag} {mg : Str → Option Value} {base : Heap}
abbrev sIsMet : Stmt := top 42
abbrev nmM3 : List Str := ["kinds", "found", "ground", "need"]
theorem scM3 : FnScope nmM3 ["kinds", "found", "ground"] (defScope sIsMet) := ⟨rfl, rfl, rfl, by decide +kernel, rfl, by decide +kernel, by decide +kernel⟩
theorem ok_isMet {f : Addr} {fd : FuncData} (F : Fun K "_law_is_met" "_law_is_met" sIsMet f fd) : FnOk P w K mg base CX0 1 f fd ["kinds", "found", "ground"] spIsMet := by
  refine F.ok scM3 (fun vs H Q E h => ?_) (fun cdv A outer s H vs Q E hr h => ?_)
  · obtain ⟨d, fa, ga, rows, ks, ts, F, g, rfl, _⟩ := h
    rfl
  · obtain ⟨d, fa, ga, rows, ks, ts, F, g, rfl, hD, hO, hF, ⟨ns, eg, pg⟩, hg, k⟩ := h
    have u1 := hu_of hr
    have hu : (A.deeper (envOfC "_law_is_met" (defScope sIsMet) s.heap.objs.size f cdv)).units + 64 < cLine := by have := hr.3; omega
    refine ⟨_, (pss_one (ps_ret (pe_cmpR (op_eqD hu) (pe_lc (own := [("need", 3)]) (g := gName 3)
            (tt := tAnd (tTest (tOp rEq (tOp (rIxT K) (tVar 3) (tC (.int 0))) (tC (.str "kind")))) (tOr (tTest (tOp (rIn K true) (tOp (rIxT K) (tVar 3) (tC (.int 1))) (tVar 1))) (tTest (tOp (rI0 fun i j => V.bl (decide (j ≤ i))) (tOp (rIxT K) (tVar 3) (tC (.int 2))) (tOp (rIxT K) (tDGet (tVar 0) (tOp (rIxT K) (tVar 3) (tC (.int 1)))) (tC (.int 0)))))))
            (by rfl) scM3.nd (pi_tup (pv 2)) (blkOk_by (own := [("need", 3)]) (N := nmM3) (sc := defScope sIsMet) (by decide +kernel)) (fun _ _ _ _ _ => pg_name (i := 3) scM3.nd rfl (Or.inl rfl))
            (fun _ _ _ _ _ => pts_one (PW.pt (pw_and (pt_cmpR (r := rEq) op_eq (pe_ix (r := rIxT K) ix_tup (pv 3) pe_int (fun _ _ => rfl)) pe_str (nomark _)) (pw_and1 (PW.pt (pw_or (pt_cmpR (r := rIn K true) op_notIn_seq (pe_ix (r := rIxT K) ix_tup (pv 3) pe_int (fun _ _ => rfl)) (pv 1) rfl) (pw_or1 (pt_cmpR (r := rI0 fun i j => V.bl (decide (j ≤ i))) op_ge (pe_ix (r := rIxT K) ix_tup (pv 3) pe_int (fun _ _ => rfl)) (pe_ix (r := rIxT K) ix_tup (pe_dget u1 (pv 0) (pe_ix (r := rIxT K) ix_tup (pv 3) pe_int (fun _ _ => rfl)) (fun _ _ => rfl)) pe_int (fun _ _ => rfl)) (nomark _)))))))))
            (fun _ _ _ _ _ => pv 3)) (pe_lst pa_nil) (nomark _)))), ?_⟩
    have nd := hO.nm.nd
    have lg := paired_len pg
    have l3 := hg.len
    refine ⟨_, rfl, ga, rfl, ⟨_, SqT.of eg⟩, fun D2 hD2 => lc_tup (K := K) (a := ga) (xs := ns.map V.ref) (fun i J2 => Same H J2 ∧ ∃ qs2 : List Addr, J2 D2 = some (.lst (qs2.map V.ref)) ∧ Paired (fun q it => J2 q = some (.tup it)) qs2 ((g.take i).filter fun it => !ndLive ks F it)) ?_ ?_ ?_ ?_⟩
    · exact ⟨same_upd hD2, [], upd_same, .nil⟩
    · rintro i J2 _ ⟨S3, _⟩
      exact SqT.of (S3 _ _ eg)
    · rintro i x J2 hx ⟨S23, qs2, j2D, pq2⟩
      rw [List.getElem?_map] at hx
      obtain ⟨n, hni, rfl⟩ := Option.map_eq_some_iff.mp hx
      obtain ⟨it, hit, en⟩ := paired_at pg hni
      have nv := hg.nv it (List.mem_of_getElem? hit)
      have enJ := S23 _ _ en
      have lq2 : qs2.length ≤ 3 := by
        have w1 := paired_len pq2
        have w2 := List.length_filter_le (fun it => !ndLive ks F it) (g.take i)
        rw [List.length_take] at w2
        omega
      have tk : g.take (i + 1) = g.take i ++ [it] := by rw [List.take_add_one, hit]; rfl
      have fin : ∀ c : Bool, (!ndLive ks F it) = c → (if c = true then tVar 3 [some (.ref d), some (.ref fa), some (.ref ga), some (.ref n)] J2 fun y H4 => ∃ acc, H4 D2 = some (.lst acc) ∧ acc.length < sizeLine ∧ (Same H (upd H4 D2 (.lst (acc ++ [y]))) ∧ ∃ qs2 : List Addr, upd H4 D2 (.lst (acc ++ [y])) D2 = some (.lst (qs2.map V.ref)) ∧ Paired (fun q it => upd H4 D2 (.lst (acc ++ [y])) q = some (.tup it)) qs2 ((g.take (i + 1)).filter fun it => !ndLive ks F it))
          else (Same H J2 ∧ ∃ qs2 : List Addr, J2 D2 = some (.lst (qs2.map V.ref)) ∧ Paired (fun q it => J2 q = some (.tup it)) qs2 ((g.take (i + 1)).filter fun it => !ndLive ks F it))) := fun c hc => by
        refine ite2 (fun h2 => ?_) fun h2 => ?_
        · refine ⟨_, rfl, _, j2D, small1000 (by rw [List.length_map]; omega), fun b u e => by rw [upd_ne (ne_of_none e hD2)]; exact S23 b u e, qs2 ++ [n], by rw [upd_same, List.map_append]; rfl, ?_⟩
          rw [tk, List.filter_append, List.filter_cons_of_pos (p := fun it => !ndLive ks F it) (hc.trans h2)]
          have tsl := ts_lst (ys := qs2.map V.ref ++ [V.ref n]) j2D
          exact paired_snoc (R := fun q it => (upd J2 D2 (.lst (qs2.map V.ref ++ [V.ref n]))) q = some (.tup it)) (tsl _ _ enJ) (Paired.mono' (fun _ _ q => tsl _ _ q) pq2)
        · refine ⟨S23, qs2, j2D, ?_⟩
          rw [tk, List.filter_append, List.filter_cons_of_neg (p := fun it => !ndLive ks F it) (by rw [hc]; exact h2), List.filter_nil, List.append_nil]
          exact pq2
      refine ⟨rfl, ?_⟩
      cases nv with
      | row nm t u h =>
        refine ⟨_, rfl, n, _, 0, .str "row", rfl, rfl, SqT.of enJ, rfl, rfl, _, rfl, ?_⟩
        refine iteDF (by decide +kernel) ?_
        exact fin false rfl
      | kind nm a t u h =>
        obtain ⟨kd2, mk2, rfl⟩ := List.mem_map.mp h
        refine ⟨_, rfl, n, _, 0, .str "kind", rfl, rfl, SqT.of enJ, rfl, rfl, _, rfl, ?_⟩
        refine iteD (by decide +kernel) ?_
        refine ⟨_, rfl, n, _, 1, .str kd2.name, rfl, rfl, SqT.of enJ, rfl, _, rfl, fa, F.map V.str, rfl, (hF.same S23).in_, rfl, flat_strs, _, rfl, ?_⟩
        rw [show (if true = true then !inV (V.str kd2.name) (List.map V.str F) else inV (V.str kd2.name) (List.map V.str F)) = !decide (kd2.name ∈ F) by rw [if_pos rfl, inV_str]]
        have nl : ndLive ks F [V.str "kind", V.str kd2.name, V.int a, V.int t, V.int u] = (decide (kd2.name ∈ F) && decide (a < kd2.keep)) := by
          show (decide (kd2.name ∈ F) && keepLt ks kd2.name a) = _
          rw [keepLt_eq nd mk2]
        by_cases hm : kd2.name ∈ F
        · refine iteDF (by rw [decide_eq_true hm]; rfl) ?_
          obtain ⟨tl, ev, gt, gas, y1, _⟩ := kvs_get nd (hD.same S23).t mk2
          refine ⟨_, rfl, n, _, 2, .int a, rfl, rfl, SqT.of enJ, rfl, _, rfl, _, rfl, n, _, 1, .str kd2.name, rfl, rfl, SqT.of enJ, rfl, d, .ref tl, rfl, by rw [← ev]; exact DGet.k (k := Sum.inr kd2.name) (S23 _ _ hD.d), tl, _, 0, .int kd2.keep, rfl, rfl, SqT.of y1, rfl, _, _, rfl, rfl, _, rfl, ?_⟩
          refine fin _ ?_
          rw [nl, decide_eq_true hm, Bool.true_and]
          by_cases ha : a < kd2.keep
          · rw [decide_eq_true ha, decide_eq_false (show ¬ kd2.keep ≤ a by omega)]
            rfl
          · rw [decide_eq_false ha, decide_eq_true (show kd2.keep ≤ a by omega)]
            rfl
        · refine iteD (by rw [decide_eq_false hm]; rfl) ?_
          refine fin true ?_
          rw [nl, decide_eq_false hm, Bool.false_and]
          rfl
    · rintro J2 ⟨S23, qs2, j2D, pq2⟩
      rw [List.length_map, lg, List.take_length] at pq2
      have l5 := List.length_filter_le (fun it => !ndLive ks F it) g
      refine ⟨Nat.zero_le _, fun z nz => ?_⟩
      have Sz := same_upd (o := .lst []) nz
      obtain ⟨ds, d1, d2, d3, d4⟩ := needs_dp (K := K) hO.rw.of hO.nm.of (Paired.mono' (fun a it (e : J2 a = some (.tup it)) => Sz _ _ e) pq2) fun it m => hg.nv it (List.mem_filter.mp m).1
      refine ⟨.list ds, .list [], .lst (SqL.of (Sz _ _ j2D)) d1, .lst (SqL.of upd_same) .nil, shaped_list d2 (by omega), shaped_list (fun _ z => (by cases z)) (by simp [PyData.depthAll]), ?_⟩
      rw [eqv_empty, d4, met_eq1]
      exact k _ (KaG.Same.tr S23 Sz)
end
end KaG


set_option maxRecDepth 100000
set_option maxHeartbeats 8000000
namespace KaG
open PySem PySem.Spec PyProof.Rows L2 KaC LamX NdefX
/-- all that `_law_is_sorted_right` calls -/
structure RightT (P : Program) (w : World) (K : PySem.W.Frag) (mg : Str → Option Value) (base : Heap) (T : List NTab) (CW : Addr) (NW : Str) : Prop where
  TC : TxtC mg
  en : mg "enumerate" = none
  W : WrK K CW NW
  ko : ∃ f fd, Ct P w K mg base "_law_kinds_of" 1 ["rulebook"] spKindsO f fd
  ll : ∃ f fd, Ct P w K mg base "_law_live" 3 ["rulebook"] spLLive f fd
  lc : ∃ f fd, Ct P w K mg base "_law_clean" 4 ["rulebook", "struck"] spLClean f fd
  la : ∃ f fd, Ct P w K mg base "_law_able" 5 ["rulebook", "struck"] spLAble f fd
  lb : ∃ f fd, Ct P w K mg base "_law_bearing" 2 ["rulebook"] spLBear f fd
  lf : ∃ f fd, Ct P w K mg base "_law_forced" 1 ["struck", "clean", "ground"] spForcedPl f fd
  ln : ∃ f fd, Ct P w K mg base "_law_old_needs" 2 ["struck", "clean", "able", "ground"] spOldP f fd
  be : ∃ f fd, Ct P w K mg base "bearing_kinds" 5 ["rulebook"] (spBear T) f fd
  ck : ∃ f fd, Ct P w K mg base "clean_kinds" 7 ["rulebook", "struck"] (spClean T) f fd
  ak : ∃ f fd, Ct P w K mg base "able_kinds" 8 ["rulebook", "struck"] (spAble T) f fd
  lg : ∃ f fd, Ct P w K mg base "live_grounds" 7 ["rulebook", "name"] (spLiveG T) f fd
  fn : ∃ f fd, Ct P w K mg base "forced_needs" 8 ["rulebook", "struck", "name", "index"] (spForcedN T) f fd
  on : ∃ f fd, Ct P w K mg base "old_needs" 9 ["rulebook", "struck", "name", "index"] (spOldN T) f fd
  al : ∃ f fd, FnG false P w K mg base CX0 1 f fd ["found", "due"] (spAlikeD K) ∧ mg "_law_alike" = some (.ref f) ∧ PySem.W.keepIn K (.ref f) = true ∧ Binds K fd ["found", "due"] []
abbrev nmRi : List Str := ["rulebook", "struck", "kinds", "live", "clean", "able", "kept", "due", "name", "again", "told", "index", "ground", "forced", "some"]
def spRight (T : List NTab) : Sp := fun vs H Q _ => ∃ (b sa : Addr) (rows : List Str) (ks : List Kd) (S : List Str), vs = [.ref b, .ref sa] ∧ BookAt H b rows ks ∧ BookOk rows ks ∧ H sa = some (.tup (S.map V.str)) ∧ S.length ≤ 5 ∧ (∀ n ∈ S, n ∈ nmAll) ∧ TabsN T H ∧ ∀ H', Ex T H H' → Q (.bl true) H'
section
variable {P : Program} {w : World} {K : PySem.W.Frag} {mg : Str → Option Value} {base : Heap} {CW : Addr} {NW : Str}
end
end KaG


set_option maxRecDepth 100000
set_option maxHeartbeats 4000000
namespace KaG
open PySem PySem.Spec PyProof.Rows L2 KaC LamX NdefX
theorem cut_from1 {xs : List V} (h : 2 ≤ xs.length) : 0 < (cutV xs (some 1) none).length ∧ ∀ v ∈ cutV xs (some 1) none, v ∈ xs := by
  unfold cutV
  refine ⟨?_, fun v m => List.mem_of_mem_drop (List.mem_of_mem_take m)⟩
  rw [List.length_take, List.length_drop, HT.sIx_none, show (1 : Int) = ((1 : Nat) : Int) from rfl, HT.sIx_nat]
  omega
/-- a rulebook and a lot of its rows -/
def ItemAt (H : Hp) (p : Addr) : Prop := ∃ (b sa : Addr) (rows : List Str) (ks : List Kd) (S : List Str), H p = some (.tup [.ref b, .ref sa]) ∧ BookAt H b rows ks ∧ BookOk rows ks ∧ H sa = some (.tup (S.map V.str)) ∧ S.length ≤ 5 ∧ ∀ n ∈ S, n ∈ nmAll
theorem ItemAt.ts {H H' : Hp} {p : Addr} (h : ItemAt H p) (s : TSame H H') : ItemAt H' p := by
  obtain ⟨b, sa, rows, ks, S, h1, h2, h3, h4, h5⟩ := h
  exact ⟨b, sa, rows, ks, S, s _ _ h1, h2.ts s, h3, s _ _ h4, h5⟩
section
variable {P : Program} {w : World} {K : PySem.W.Frag} {mg : Str → Option Value} {base : Heap}
abbrev nmLaw : List Str := ["script", "bag", "asked", "turn", "rulebook", "struck"]
def spLaw (T : List NTab) (K : PySem.W.Frag) : Sp := fun vs H Q _ => ∃ (a : Addr) (ns : List Int), vs = [.ref a] ∧ SqL K H a (ns.map V.int) ∧ ns.length ≤ 63 ∧ TabsN T H ∧ ∀ H', Q (.bl true) H'
structure GnG (c : Bool) (P : Program) (w : World) (K : PySem.W.Frag) (mg : Str → Option Value) (base : Heap) (x : Str) (k : Nat) (ps : List Str) (sp : Sp) (f : Addr) (fd : FuncData) : Prop where
  G : FnG c P w K mg base CX0 k f fd ps sp
  m : mg x = some (.ref f)
  kp : PySem.W.keepIn K (.ref f) = true
  b : Binds K fd ps []
end
end KaG


set_option maxRecDepth 100000
set_option maxHeartbeats 4000000
/-! the law's own call, where defs in its defs make code tables grow -/
namespace KaG
open PySem PySem.Spec PyProof.Rows L2 LamX
abbrev tabO (ys : Array Value) : Obj := { cls := .none, data := .fields ys }
abbrev scrO (us : List Value) : Obj := { cls := .type "list", data := .seq us.toArray }
/-- nothing is told of the heap but the script (frozen) and the tables (empty) -/
structure Ks (H : Hp) (a : Addr) (ts : List Addr) : Prop where
  tb : ∀ t ∈ ts, H t = some (.tbl #[])
  el : ∀ b, H b = none ∨ b ∈ ts ∨ (b = a ∧ ∃ o xs, H b = some (.frz o (.lst xs)))
/-- .. and so it is told -/
def ks0 (a : Addr) (ts : List Addr) (f : Option HO) : Hp := fun b => if b ∈ ts then some (.tbl #[]) else if b = a then f else none
section
variable {P : Program} {w : World} {K : PySem.W.Frag} {mg mb : Str → Option Value} {k : Nat} {fa a : Addr} {fd : FuncData} {x : Str} {sp : Sp} {s₁ : Shared} {us : List Value} {ns : List Int} {H : Hp} {cs : List (Addr × Addr)}
theorem ks_none (ho : Ks H a (cs.map Prod.snd)) (hT : ∀ p ∈ cs, s₁.heap.get? p.2 = some (tabO #[])) (ha : s₁.heap.get? a = some (scrO us)) {b : Addr} {o : Obj} (e : s₁.heap.get? b = some o) (n1 : o ≠ tabO #[]) (n2 : o ≠ scrO us) : H b = none := by
  rcases ho.el b with z | z | ⟨z, _⟩
  · exact z
  · obtain ⟨p, hp, rfl⟩ := List.mem_map.mp z
    exact absurd (Option.some.inj (e.symm.trans (hT p hp))) n1
  · exact absurd (Option.some.inj (e.symm.trans (z ▸ ha))) n2
theorem ks_run (hr : GR k callerA) (KX : K.In s₁.heap) (hns : s₁.heap.Ns mainGlobals mg) (hb : s₁.heap.Ns builtinsNs mb) (hbb : ∀ x : Str, x ≠ "__name__" → mb x = bootBuiltins x) (hlim : s₁.heap.NoLimit) (hg : s₁.gens = #[])
    (hT : ∀ p ∈ cs, s₁.heap.get? p.2 = some (tabO #[])) (nT : ∀ p ∈ cs, K.lookup p.2 = none) (C : ∀ p ∈ cs, PySem.W.CodeHd s₁.heap p.1 p.2) (hbm : ∃ (m : Addr) (ob : Obj), mg "__builtins__" = some (.ref m) ∧ m ≠ builtinsNs ∧ s₁.heap.get? m = some ob ∧ ob.cls = .type "module" ∧ ob.dict = some builtinsNs ∧ ob.data = .plain)
    (ha : s₁.heap.get? a = some (scrO us)) (F : ∀ base : Heap, K.In base → base.Ns mainGlobals mg → (∀ p ∈ cs, TabB base mg p.1 p.2) → FnG true P w K mg base CX0 k fa fd [x] sp) (hbind : ∀ (s : Shared) (u : Value), BindsTo s fd ⟨[u], []⟩ [(x, u)])
    (hsp : sp [.ref a] H (fun v _ => v = .bl true) fun _ _ _ => False) (ho : Ks H a (cs.map Prod.snd)) (hok : HOk P w H s₁.heap) (hK : H a ≠ none → K.lookup a = none) :
    codeAny (model P w) callerA (.call (.ref fa) ⟨[.ref a], []⟩) (fun r s' => r = .ok (.ret (.bool true)) ∧ OldK s₁.heap s'.heap ∧ s'.os = s₁.os ∧ AllBare s'.gens) s₁ := by
  have isT : ∀ t ∈ cs.map Prod.snd, s₁.heap.get? t = some (tabO #[]) := fun t m => by
    obtain ⟨p, hp, rfl⟩ := List.mem_map.mp m
    exact hT p hp
  have see : ∀ {b : Addr} {o : Obj}, s₁.heap.get? b = some o → o.data ≠ .fields #[] → (∀ v n, o.data ≠ .seq v n) → (hidT s₁.heap H).get? b = some o := fun e n1 n2 =>
    hidT_get e (ks_none ho hT ha e (fun z => n1 (by rw [z])) fun z => n2 us.toArray 0 (by rw [z]))
  have dct : ∀ {b : Addr} {o : Obj} {es : Array DictEntry} {ep : Nat}, s₁.heap.get? b = some o → o.data = .dict es ep → (hidT s₁.heap H).get? b = some o := fun e d => see e (by rw [d]; intro z; cases z) (by rw [d]; intro v n z; cases z)
  have nsK : ∀ {b : Addr} {m : Str → Option Value}, s₁.heap.Ns b m → (hidT s₁.heap H).Ns b m := fun ⟨o, es, ep, e, d, r⟩ => ⟨o, es, ep, dct e d, d, r⟩
  have hKb : K.In (hidT s₁.heap H) := fun b o e => by
    refine hidT_get (KX b o e) ?_
    cases q : H b with
    | none => rfl
    | some u =>
      rcases ho.el b with z | z | ⟨z, _⟩
      · rw [q] at z; cases z
      · obtain ⟨p, hp, rfl⟩ := List.mem_map.mp z
        rw [nT p hp] at e; cases e
      · rw [z] at e q
        rw [hK (by rw [q]; simp)] at e; cases e
  have md : Mod K mg (hidT s₁.heap H) := ⟨hKb, nsK hns, ⟨mb, nsK hb, hbb⟩, let ⟨mc, h1, h2⟩ := hlim; ⟨mc, nsK h1, h2⟩⟩
  have TB : ∀ p ∈ cs, TabB (hidT s₁.heap H) mg p.1 p.2 := fun p hp => by
    refine ⟨?_, ?_, fun z => ?_⟩
    · obtain ⟨o, v, fl, tf, gs, tg, inF, tx, tt, e, r1, r2, r3⟩ := C p hp
      refine ⟨o, v, fl, tf, gs, tg, inF, tx, tt, see e (fun z => ?_) (fun w n z => ?_), r1, r2, r3⟩
      · rw [r2] at z
        cases z
        simp at r3
      · rw [r2] at z
        cases z
    · obtain ⟨m, ob, b1, b2, b3, b4, b5, b6⟩ := hbm
      refine ⟨m, ob, b1, b2, fun q => ?_, fun q => ?_, see b3 (by rw [b6]; intro z; cases z) (by rw [b6]; intro v n z; cases z), b4, b5, b6⟩
      · obtain ⟨o, es, ep, e, hd, _⟩ := hns
        rw [q, e] at b3
        cases b3
        rw [hd] at b6
        cases b6
      · rw [q, hT p hp] at b3
        cases b3
        cases b6
    · obtain ⟨o, es, ep, e, hd, _⟩ := hns
      rw [z, hT p hp] at e
      cases e
      cases hd
  have e0 : Env0 P w K mg (hidT s₁.heap H) callerA [] s₁ H := ⟨rfl, md, fun b o e => of_hidT e, Nat.le_of_eq (hidT_size _ _), trivial, fun b hb => absurd (show b ∈ ([] : List Addr) from hb) (by simp), hok, .of_eq hg⟩
  have R := (F _ hKb (nsK hns) TB).run callerA [] s₁ H ⟨[.ref a], []⟩ [.ref a] [.ref a] _ _ hr (fun _ => rfl) e0 (hbind s₁ (.ref a)) (.cons rfl .nil) hsp
  refine codeAny_mono R fun r s' h => ?_
  rcases r with er | fl
  · exact h.elim
  cases fl with
  | next => exact h.elim
  | brk => exact h.elim
  | cont => exact h.elim
  | ret u =>
    obtain ⟨v, H', os, bare, un, hok', r', q⟩ := h
    have q' : v = .bl true := q
    subst q'
    obtain rfl : u = Value.bool true := r'
    have old : ∀ b o, b ∉ cs.map Prod.snd → s₁.heap.get? b = some o → s'.heap.get? b = some o := fun b o nb e => by
      rcases ho.el b with z | z | ⟨_, ob, xs, z⟩
      · exact un.keep b o e z (by intro z; exact absurd (show b ∈ ([] : List Addr) from z) (by simp)) (by simp)
      · exact absurd z nb
      · have g1 := (hok b _ z).1
        rw [e] at g1
        cases g1
        exact (hok' b _ (un.frzs b _ _ z)).1
    have more : ∀ p ∈ cs, ∃ ys : Array Value, s'.heap.get? p.2 = some (tabO (#[] ++ ys)) := fun p hp => by
      obtain ⟨ys, z⟩ := un.tbls p.2 #[] (ho.tb p.2 (List.mem_map_of_mem hp))
      exact ⟨ys, hok' p.2 _ z⟩
    refine ⟨rfl, ⟨fun b o e => ?_, fun b o e => ?_⟩, os, bare⟩
    · by_cases m : b ∈ cs.map Prod.snd
      · obtain ⟨p, hp, rfl⟩ := List.mem_map.mp m
        obtain ⟨ys, z⟩ := more p hp
        have e' := (hT p hp).symm.trans e
        cases e'
        exact .inr (.inl ⟨((C p hp).tab (hT p hp)).isCodeTable, rfl, #[], ys, rfl, z⟩)
      · exact .inl (old b o m e)
    · by_cases m : b ∈ cs.map Prod.snd
      · obtain ⟨p, hp, rfl⟩ := List.mem_map.mp m
        exact ⟨_, (more p hp).choose_spec⟩
      · exact ⟨o, old b o m e⟩
theorem law_GT (hr : GR k callerA) (KX : K.In s₁.heap) (hns : s₁.heap.Ns mainGlobals mg) (hb : s₁.heap.Ns builtinsNs mb) (hbb : ∀ x : Str, x ≠ "__name__" → mb x = bootBuiltins x) (hlim : s₁.heap.NoLimit) (hg : s₁.gens = #[])
    (hT : ∀ p ∈ cs, s₁.heap.get? p.2 = some (tabO #[])) (nT : ∀ p ∈ cs, K.lookup p.2 = none) (C : ∀ p ∈ cs, PySem.W.CodeHd s₁.heap p.1 p.2) (hbm : ∃ (m : Addr) (ob : Obj), mg "__builtins__" = some (.ref m) ∧ m ≠ builtinsNs ∧ s₁.heap.get? m = some ob ∧ ob.cls = .type "module" ∧ ob.dict = some builtinsNs ∧ ob.data = .plain)
    (ha : s₁.heap.get? a = some (scrO us)) (hi : IntsAre us ns) (hl : ns.length ≤ sizeLine) (F : ∀ base : Heap, K.In base → base.Ns mainGlobals mg → (∀ p ∈ cs, TabB base mg p.1 p.2) → FnG true P w K mg base CX0 k fa fd [x] sp) (hbind : ∀ (s : Shared) (u : Value), BindsTo s fd ⟨[u], []⟩ [(x, u)])
    (hsp : ∀ H : Hp, (∀ p ∈ cs, H p.2 = some (.tbl #[])) → SqL K H a (ns.map V.int) → sp [.ref a] H (fun v _ => v = .bl true) fun _ _ _ => False) :
    codeAny (model P w) callerA (.call (.ref fa) ⟨[.ref a], []⟩) (fun r s' => r = .ok (.ret (.bool true)) ∧ OldK s₁.heap s'.heap ∧ s'.os = s₁.os ∧ AllBare s'.gens) s₁ := by
  have rv := vals_ints hi
  have isT : ∀ t ∈ cs.map Prod.snd, s₁.heap.get? t = some (tabO #[]) := fun t m => by
    obtain ⟨p, hp, rfl⟩ := List.mem_map.mp m
    exact hT p hp
  have aT : a ∉ cs.map Prod.snd := fun m => by
    have e := ha.symm.trans (isT a m)
    have d := congrArg Obj.data (Option.some.inj e)
    cases d
  have tb0 : ∀ f, ∀ t ∈ cs.map Prod.snd, ks0 a (cs.map Prod.snd) f t = some (.tbl #[]) := fun f t m => if_pos m
  have at0 : ∀ f, ks0 a (cs.map Prod.snd) f a = f := fun f => (if_neg aT).trans (if_pos rfl)
  have no0 : ∀ f b, b ∉ cs.map Prod.snd → b ≠ a → ks0 a (cs.map Prod.snd) f b = none := fun f b m n => (if_neg m).trans (if_neg n)
  have hok : ∀ f, (∀ u, f = some u → ObjOk P w (ks0 a (cs.map Prod.snd) f) s₁.heap a u) → HOk P w (ks0 a (cs.map Prod.snd) f) s₁.heap := fun f hf b u z => by
    by_cases m : b ∈ cs.map Prod.snd
    · rw [tb0 f b m] at z
      cases z
      exact isT b m
    · by_cases n : b = a
      · subst n
        rw [at0] at z
        exact hf u z
      · rw [no0 f b m n] at z
        cases z
  have go : ∀ f, (f = none ∨ ∃ o xs, f = some (.frz o (.lst xs))) → (∀ u, f = some u → ObjOk P w (ks0 a (cs.map Prod.snd) f) s₁.heap a u) → SqL K (ks0 a (cs.map Prod.snd) f) a (ns.map V.int) → (f ≠ none → K.lookup a = none) →
      codeAny (model P w) callerA (.call (.ref fa) ⟨[.ref a], []⟩) (fun r s' => r = .ok (.ret (.bool true)) ∧ OldK s₁.heap s'.heap ∧ s'.os = s₁.os ∧ AllBare s'.gens) s₁ := fun f hf ok sq hK => by
    refine ks_run hr KX hns hb hbb hlim hg hT nT C hbm ha F hbind (hsp _ (fun p hp => tb0 f p.2 (List.mem_map_of_mem hp)) sq) ⟨tb0 f, fun b => ?_⟩ (hok f ok) (by rw [at0]; exact hK)
    by_cases m : b ∈ cs.map Prod.snd
    · exact .inr (.inl m)
    · by_cases n : b = a
      · subst n
        rw [at0]
        rcases hf with rfl | ⟨o, xs, rfl⟩
        · exact .inl rfl
        · exact .inr (.inr ⟨rfl, o, xs, rfl⟩)
      · exact .inl (no0 f b m n)
  cases hk : K.lookup a with
  | some o =>
    have e := (KX a o hk).symm.trans ha
    cases e
    exact go none (.inl rfl) (fun u z => nomatch z) (.inr ⟨_, us.toArray, _, hk, rfl, rfl, rfl, by rw [List.size_toArray, hi.length]; exact hl, by simpa using rv⟩) fun z => absurd rfl z
  | none =>
    refine go (some (.frz (scrO us) (.lst (ns.map V.int)))) (.inr ⟨_, _, rfl⟩) (fun u z => ?_) (.inl (.inr ⟨scrO us, at0 _⟩)) fun _ => hk
    cases z
    exact ⟨ha, by rw [List.length_map]; exact hl, us, _, rv, ha⟩
/-- what is known of the law at the head's heap -/
def LawG (l : PySem.W.OpenLaw) (w : World) (K : PySem.W.Frag) (k n : Nat) (x : Str) (mg : Str → Option Value) (fa : Addr) (h : Heap) : Prop :=
  ∃ (fd : FuncData) (cs : List (Addr × Addr)) (sp : Sp), (∀ p ∈ cs, h.get? p.2 = some (tabO #[])) ∧ (∀ p ∈ cs, K.lookup p.2 = none) ∧ (∀ p ∈ cs, PySem.W.CodeHd h p.1 p.2) ∧ (∀ (s : Shared) (u : Value), BindsTo s fd ⟨[u], []⟩ [(x, u)]) ∧
    (∀ (H : Hp) (a : Addr) (ns : List Int), ns.length ≤ n → (∀ p ∈ cs, H p.2 = some (.tbl #[])) → SqL K H a (ns.map V.int) → sp [.ref a] H (fun v _ => v = .bl true) fun _ _ _ => False) ∧ ∀ base : Heap, K.In base → base.Ns mainGlobals mg → (∀ p ∈ cs, TabB base mg p.1 p.2) → FnG true l.prog w K mg base CX0 k fa fd [x] sp
theorem walk_GT {l : PySem.W.OpenLaw} {n k : Nat} {q : Program} {loose : List Str} {XP : (Str → Option Value) → Heap → Prop} {YP : World → Heap → Prop} {d : DefRec} {K : Params → PySem.W.Frag} {x : Str} (hn : l.most = some n) (hn2 : n ≤ sizeLine) (hdf : d.params.defaults = []) (hr : GR k callerA) (hY : ∀ (w : World) (h : Heap), YP w h → (K w.params).In h)
    (F : ∀ (w : World) (mg : Str → Option Value) (fa : Addr) (h : Heap), YP w h → (K w.params).In h → h.Ns mainGlobals mg → mg d.name = some (.ref fa) → LawG l w (K w.params) k n x mg fa h) : PySem.W.WalkO q loose XP YP l.row.toRowW d [] (fun f vs => PySem.call f vs) := by
  refine Att.attach_call hn hdf fun w s₀ s₁ mg mb fa o pm cd doc a vs ns G Y ho hd hcd hmg hobj hints hlen hg => ?_
  have KX := hY w _ Y
  obtain ⟨fd, cs, sp, hT, nT, C, hb, hsp, hF⟩ := F w mg fa _ Y KX G.T.g hmg
  exact law_GT hr KX G.T.g G.T.b G.T.builtins G.T.nolimit hg hT nT C G.T.bmain hobj hints (Nat.le_trans hlen hn2) hF hb fun H hH hS => hsp H a ns hlen hH hS
end
end KaG


set_option maxRecDepth 100000
set_option maxHeartbeats 8000000
/-! _law_is_fresh_told -/
namespace KaG
open PySem PySem.Spec PyProof.Rows L2 KaC KaN LamX NdefX KaU
/-- the bag has moved, tables of code have grown; all else stays -/
structure EB (bg : Addr) (T : List NTab) (H H' : Hp) : Prop where
  keep : ∀ b o, H b = some o → b ≠ bg → (∀ ps, o ≠ .tbl ps) → H' b = some o
  bag : Bag H' bg
  tab : TabsN T H'
  non : ∀ b, H' b = none → H b = none
theorem EB.ext {bg : Addr} {T : List NTab} {H H' : Hp} (E : Ext bg H H') (t : TabsN T H) (hb : Bag H bg) : EB bg T H H' := ⟨fun b o e n _ => E.keep b o n e, E.bag, tabs_bag t hb E, fun b e => newAt E e⟩
theorem Bag.ex {bg : Addr} {T : List NTab} {H H' : Hp} (hb : Bag H bg) (X : Ex T H H') : Bag H' bg := by
  obtain ⟨c, st, i, b, ns, e1, e2, r⟩ := hb
  exact ⟨c, st, i, b, ns, X.lst e1, X.lst e2, r⟩
theorem EB.ex {bg : Addr} {T : List NTab} {H H' : Hp} (X : Ex T H H') (hb : Bag H bg) : EB bg T H H' := ⟨fun b o e _ n => X.ext b o e n, hb.ex X, X.tab, X.non⟩
theorem EB.tr {bg : Addr} {T : List NTab} {H H1 H2 : Hp} (a : EB bg T H H1) (b : EB bg T H1 H2) : EB bg T H H2 := ⟨fun c o e n m => b.keep c o (a.keep c o e n m) n m, b.bag, b.tab, fun c e => a.non c (b.non c e)⟩
theorem EB.trx {bg : Addr} {T : List NTab} {H H1 H2 : Hp} (a : EB bg T H H1) (x : Ex T H1 H2) : EB bg T H H2 := a.tr (EB.ex x a.bag)
theorem EB.trs {bg : Addr} {T : List NTab} {H H1 H2 : Hp} (a : EB bg T H H1) (s : Same H1 H2) : EB bg T H H2 := a.trx (Ex.same a.tab s)
theorem EB.ts {bg : Addr} {T : List NTab} {H H' : Hp} (a : EB bg T H H') (hb : Bag H bg) : TSame H H' := fun b xs e => by
  refine a.keep b _ e (fun z => ?_) fun _ z => nomatch z
  obtain ⟨c, st, i, b2, ns, e1, _⟩ := hb
  rw [z, e1] at e
  cases e
theorem EB.dk {bg : Addr} {T : List NTab} {H H' : Hp} (a : EB bg T H H') (hb : Bag H bg) {b : Addr} {xs : List (Key × V)} (e : H b = some (.dK xs)) : H' b = some (.dK xs) := by
  refine a.keep b _ e (fun z => ?_) fun _ z => nomatch z
  obtain ⟨c, st, i, b2, ns, e1, _⟩ := hb
  rw [z, e1] at e
  cases e
theorem alw_txt : PyData.canLay0 (.str "always") = true ∧ (txt (.str "always")).length ≤ 20 := ⟨by decide +kernel, by decide +kernel⟩
theorem non_txt : PyData.canLay0 .none = true ∧ (txt .none).length ≤ 20 := ⟨by decide +kernel, by decide +kernel⟩
/-- what is told of a kind, as data -/
theorem Gd.fr {H : Hp} {rows : List Str} {ks : List Kd} {S : List Str} {f : Str → Option Int} (hO : BookOk rows ks) (F : FS ks S f) {n : Str} (mn : n ∈ nmsOf ks) : ∃ d, Gd H (frV (f n)) d 0 20 := by
  have N2 : NEV = (2000000 : Int) := rfl
  unfold frV
  cases e : f n with
  | none => exact ⟨.none, .non, non_txt.1, by simp [PyData.depth], non_txt.2⟩
  | some v =>
    dsimp only
    by_cases h : v = ALW
    · rw [if_pos h]
      exact ⟨.str "always", .str _, alw_txt.1, by simp [PyData.depth], alw_txt.2⟩
    · rw [if_neg h]
      have hx : stX f n = v := by unfold stX; rw [e]; rfl
      have nc : n ∉ cleanOf ks S := fun c => h (by rw [← hx]; exact F.sf.pi.c n (decide_eq_true c))
      have h0 := F.sf.pi.z n (decide_eq_false nc)
      have h36 := small36 (gk_of hO) F.sf.pi F.pf (by rw [List.length_map]; exact hO.k5) mn (decide_eq_false nc) (by rw [hx]; exact F.sf.lt n v e)
      exact ⟨_, Gd.int (by omega) (by omega)⟩
theorem frV_clean {ks : List Kd} {S : List Str} {f : Str → Option Int} (F : FS ks S f) (n : Str) : decide (frV (f n) = V.str "always") = decide (n ∈ cleanOf ks S) := by
  have N2 : NEV = (2000000 : Int) := rfl
  have A2 : ALW = (-1000000 : Int) := rfl
  refine decide_eq_decide.mpr ⟨fun e => ?_, fun c => ?_⟩
  · refine Classical.byContradiction fun nc => ?_
    have h0 := F.sf.pi.z n (decide_eq_false nc)
    unfold frV at e
    unfold stX at h0
    cases q : f n with
    | none => rw [q] at e; cases e
    | some v =>
      rw [q] at e h0
      dsimp only at e
      have h0 : 0 ≤ v := h0
      rw [if_neg (by omega)] at e
      cases e
  · have hc := F.sf.pi.c n (decide_eq_true c)
    unfold stX at hc
    unfold frV
    cases q : f n with
    | none =>
      rw [q] at hc
      have hc : NEV = ALW := hc
      omega
    | some v =>
      rw [q] at hc
      have hc : v = ALW := hc
      dsimp only
      rw [if_pos hc]
theorem frV_bear {rows : List Str} {ks : List Kd} {S : List Str} {f : Str → Option Int} (hO : BookOk rows ks) (F : FS ks S f) {n : Str} (mn : n ∈ nmsOf ks) : (!decide (frV (f n) = V.non)) = decide (n ∈ bearOf ks) := by
  have N2 : NEV = (2000000 : Int) := rfl
  have A2 : ALW = (-1000000 : Int) := rfl
  have hb := bear_iff hO F.hB F.hC F.sf.pi F.pf (by rw [List.length_map]; exact hO.k5) n
  have h1 : (n ∈ cleanOf ks S ∨ stX f n < NEV) ↔ f n ≠ none := by
    constructor
    · rintro z e
      have hx : stX f n = NEV := by unfold stX; rw [e]; rfl
      rcases z with c | lt
      · have := F.sf.pi.c n (decide_eq_true c)
        omega
      · omega
    · intro z
      cases q : f n with
      | none => exact absurd q z
      | some v =>
        have hx : stX f n = v := by unfold stX; rw [q]; rfl
        exact .inr (by rw [hx]; exact F.sf.lt n v q)
  have h2 : frV (f n) = V.non ↔ f n = none := by
    unfold frV
    cases f n with
    | none => exact ⟨fun _ => rfl, fun _ => rfl⟩
    | some v =>
      dsimp only
      split
      · exact ⟨fun z => (by cases z), fun z => (by cases z)⟩
      · exact ⟨fun z => (by cases z), fun z => (by cases z)⟩
  by_cases h : f n = none
  · rw [decide_eq_true (h2.mpr h), decide_eq_false fun m => (h1.mp (hb.mp m).2) h]
    rfl
  · rw [decide_eq_false fun z => h (h2.mp z), decide_eq_true (hb.mpr ⟨mn, h1.mpr h⟩)]
    rfl
/-- all that `_law_is_fresh_told` calls -/
structure FtT (P : Program) (w : World) (K : PySem.W.Frag) (mg : Str → Option Value) (base : Heap) (T : List NTab) (CW : Addr) (NW : Str) : Prop where
  TC : TxtC mg
  W : WrK K CW NW
  lf : ∃ f fd, Ct P w K mg base "_law_fresh" 5 ["rulebook", "struck"] spLF f fd
  mx : ∃ f fd, Ct P w K mg base "_law_mixed" 2 ["bag", "things"] spMixed f fd
  fr : ∃ f fd, Ct P w K mg base "fresh_from" 11 ["rulebook", "struck", "name"] (spFresh T) f fd
  ck : ∃ f fd, Ct P w K mg base "clean_kinds" 7 ["rulebook", "struck"] (spClean T) f fd
  bk : ∃ f fd, Ct P w K mg base "bearing_kinds" 5 ["rulebook"] (spBear T) f fd
  al : ∃ f fd, FnG false P w K mg base CX0 1 f fd ["found", "due"] (spAlikeD K) ∧ mg "_law_alike" = some (.ref f) ∧ PySem.W.keepIn K (.ref f) = true ∧ Binds K fd ["found", "due"] []
abbrev sFt : Stmt := top 46
abbrev nmFt : List Str := ["bag", "rulebook", "struck", "due", "said", "name", "clean", "bearing"]
theorem scFt : FnScope nmFt ["bag", "rulebook", "struck"] (defScope sFt) := ⟨rfl, rfl, rfl, by decide +kernel, rfl, by decide +kernel, by decide +kernel⟩
def spFt (T : List NTab) : Sp := fun vs H Q _ => ∃ (bg b sa : Addr) (rows : List Str) (ks : List Kd) (S : List Str), vs = [.ref bg, .ref b, .ref sa] ∧ Bag H bg ∧ BookAt H b rows ks ∧ BookOk rows ks ∧ H sa = some (.tup (S.map V.str)) ∧ S.length ≤ 5 ∧ (∀ n ∈ S, n ∈ nmAll) ∧ TabsN T H ∧ ∀ H', EB bg T H H' → Q (.bl true) H'
section
variable {P : Program} {w : World} {K : PySem.W.Frag} {mg : Str → Option Value} {base : Heap} {CW : Addr} {NW : Str}
theorem ok_Ft {T : List NTab} {f : Addr} {fd : FuncData} (F : Fun K "_law_is_fresh_told" "_law_is_fresh_told" sFt f fd) (Z : FtT P w K mg base T CW NW) : FnG true P w K mg base CX0 12 f fd ["bag", "rulebook", "struck"] (spFt T) := by
  obtain ⟨TC, W, ⟨f1, d1, Clf⟩, ⟨f2, d2, Cmx⟩, ⟨f3, d3, Cfr⟩, ⟨f4, d4, Cck⟩, ⟨f5, d5, Cbk⟩, ⟨fA, dA, GD, mA, kA, bA⟩⟩ := Z
  refine fnG_of F scFt (fun vs H Q E h => ?_) (fun cdv A outer s H vs Q E hr hc h => ?_)
  · obtain ⟨bg, b, sa, rows, ks, S, rfl, _⟩ := h
    rfl
  · obtain ⟨bg, b, sa, rows, ks, S, rfl, hBg, hA, hO, eS, lS, nS, hT, k⟩ := h
    have hR : Room 11 (A.deeper (envOfC "_law_is_fresh_told" (defScope sFt) s.heap.objs.size f cdv)) := hr.room (hc rfl)
    have hR2 := hR.mono (show 2 ≤ 11 by decide)
    have hR5 := hR.mono (show 5 ≤ 11 by decide)
    have hR7 := hR.mono (show 7 ≤ 11 by decide)
    have gr1 : GR 1 (A.deeper (envOfC "_law_is_fresh_told" (defScope sFt) s.heap.objs.size f cdv)) := hr.low (by decide)
    have u1 : (A.deeper (envOfC "_law_is_fresh_told" (defScope sFt) s.heap.objs.size f cdv)).units + 1 < cLine := by have := hr.un; omega
    have u60 : (A.deeper (envOfC "_law_is_fresh_told" (defScope sFt) s.heap.objs.size f cdv)).units + 60 < cLine := by have := hr.un; omega
    refine ⟨_, L2.PSs.nox (pss_cons (ps_asg (pe_tup (pa_cons (pe_call Clf.G hR5 (by rfl) Clf.m Clf.kp Clf.b .nil pass0 (pa_cons (pv 1) (pa_cons (pv 2) pa_nil))) (pa_cons (pe_callB (call_reprS (CW := CW) (NW := NW) (by exact W) hr.gd u60) (by rfl) TC.b.repr (by decide +kernel) (pa_cons (pe_tup (pa_cons (pv 1) (pa_cons (pv 2) pa_nil))) pa_nil)) pa_nil)))
        (pg_tup (by rfl) (pgs_cons (pg_name (i := 3) scFt.nd rfl (Or.inr rfl)) (pgs_cons (pg_name (i := 4) scFt.nd rfl (Or.inl rfl)) pgs_nil))))
      (pss_cons (ps_for PassesOwn.never rfl (pi_list (pe_op op_cat (pe_call Cmx.G hR2 (by rfl) Cmx.m Cmx.kp Cmx.b .nil pass0 (pa_cons (pv 0) (pa_cons (pe_callB (call_sortedD (by rfl)) (by rfl) TC.sor (by decide +kernel) (pa_cons (pv 3) pa_nil)) pa_nil)))
            (pe_slice (r := rSlL K) sl_list (pe_callB (call_sortedD (by rfl)) (by rfl) TC.sor (by decide +kernel) (pa_cons (pv 3) pa_nil)) po_none (po_some pe_int)))) (pg_name (i := 5) scFt.nd rfl (Or.inl rfl))
        (pss_one (ps_if (pt_not (pt_val (pe_callG GD gr1 (by intro z; cases z) (by rfl) mA kA bA (pa_cons (pe_call Cfr.G hR (by rfl) Cfr.m Cfr.kp Cfr.b .nil pass0 (pa_cons (pv 1) (pa_cons (pv 2) (pa_cons (pv 5) pa_nil)))) (pa_cons (pe_dget u1 (pv 3) (pv 5) (fun _ _ => rfl)) pa_nil))))) (pss_one (ps_ret pe_bl)) pss_nil)))
      (pss_cons (ps_set (i := 6) scFt.nd rfl (Or.inl rfl) (pe_callTy call_tuple_of (by rfl) TC.tup (by decide +kernel) (pa_cons (pe_lc (own := [("name", 5)]) (g := gName 5) (by rfl) scFt.nd (pi_list (pe_callB (call_sortedD (by rfl)) (by rfl) TC.sor (by decide +kernel) (pa_cons (pv 3) pa_nil)))
          (blkOk_by (own := [("name", 5)]) (N := nmFt) (sc := defScope sFt) (by decide +kernel)) (fun _ _ _ _ _ => pg_name (i := 5) scFt.nd rfl (Or.inl rfl))
          (fun _ _ _ _ _ => pts_one (pt_cmpR (r := rEq) op_eq (pe_dget u1 (pv 3) (pv 5) (fun _ _ => rfl)) pe_str (nomark _)))
          (fun _ _ _ _ _ => pv 5)) pa_nil)))
      (pss_cons (ps_set (i := 7) scFt.nd rfl (Or.inl rfl) (pe_callTy call_tuple_of (by rfl) TC.tup (by decide +kernel) (pa_cons (pe_lc (own := [("name", 5)]) (g := gName 5) (by rfl) scFt.nd (pi_list (pe_callB (call_sortedD (by rfl)) (by rfl) TC.sor (by decide +kernel) (pa_cons (pv 3) pa_nil)))
          (blkOk_by (own := [("name", 5)]) (N := nmFt) (sc := defScope sFt) (by decide +kernel)) (fun _ _ _ _ _ => pg_name (i := 5) scFt.nd rfl (Or.inl rfl))
          (fun _ _ _ _ _ => pts_one (pt_cmpR op_notN (pe_dget u1 (pv 3) (pv 5) (fun _ _ => rfl)) pe_non (nomark _)))
          (fun _ _ _ _ _ => pv 5)) pa_nil)))
      (pss_cons (ps_if (pt_not (pt_val (pe_callG GD gr1 (by intro z; cases z) (by rfl) mA kA bA (pa_cons (pe_lst (pa_cons (pe_call Cck.G hR7 (by rfl) Cck.m Cck.kp Cck.b .nil pass0 (pa_cons (pv 1) (pa_cons (pv 2) pa_nil))) (pa_cons (pe_call Cbk.G hR5 (by rfl) Cbk.m Cbk.kp Cbk.b .nil pass0 (pa_cons (pv 1) pa_nil)) pa_nil))) (pa_cons (pe_lst (pa_cons (pv 6) (pa_cons (pv 7) pa_nil))) pa_nil))))) (pss_one (ps_ret pe_bl)) pss_nil)
      (pss_one (ps_ret (pe_cmpR op_eq (pe_callB (call_reprS (CW := CW) (NW := NW) (by exact W) hr.gd u60) (by rfl) TC.b.repr (by decide +kernel) (pa_cons (pe_tup (pa_cons (pv 1) (pa_cons (pv 2) pa_nil))) pa_nil)) (pv 4) (nomark _))))))))), ?_⟩
    have sz : ∀ {m : Nat}, m ≤ 900 → m ≤ sizeLine := fun h => Nat.le_of_lt (small1000 (by omega))
    have nd := hO.nm.nd
    have hk5 := hO.k5
    refine ⟨_, rfl, _, rfl, b, sa, rows, ks, S, rfl, hA, hO, .inr eS, fun dp y H1 S1 ndp edp hY => ?_⟩
    refine ⟨_, rfl, _, rfl, sz (by show 2 ≤ 900; decide), fun tp ntp => ?_⟩
    have s2 := same_upd (o := .tup [.ref b, .ref sa]) ntp
    have etp : upd H1 tp (.tup [.ref b, .ref sa]) tp = some (.tup [.ref b, .ref sa]) := upd_same
    have S2 := KaG.Same.tr S1 s2
    have edp2 := s2 _ _ edp
    generalize upd H1 tp (.tup [.ref b, .ref sa]) = H2 at etp S2 edp2 ⊢
    have gT : ∀ {G : Hp} {t : Addr}, BookAt G b rows ks → G sa = some (.tup (S.map V.str)) → G t = some (.tup [.ref b, .ref sa]) → Gd G (.ref t) (.tuple [bkD rows ks, .tuple (S.map PyData.str)]) 7 120007 := fun {G t} h1 h2 h3 => Gd.tup h3 (.cons (Gd.book h1 hO) (.cons ((Gd.strsU h2 nS lS).wk) .nil)) (c := 2) (Nat.le_refl 2)
    have gk := gT (hA.ts (TSame.of S2)) (S2 _ _ eS) etp
    obtain ⟨as5, hS5, _⟩ := Rep.sh (CW := CW) (NW := NW) gk.rep
    refine ⟨_, as5, _, _, rfl, hS5, Nat.le_trans gk.dep (by decide), Nat.le_trans gk.len (by rw [sizeLine_eq]; decide), ?_⟩
    clear gk hS5
    generalize hkept : txt (.tuple [bkD rows ks, .tuple (S.map PyData.str)]) = kept
    refine ⟨sz (by show 2 ≤ 900; decide), fun t0 nt0 => ?_⟩
    refine ⟨t0, _, rfl, SqT.of upd_same, by rfl, _, _, rfl, _, _, rfl, rfl, ?_⟩
    have s4 := same_upd (o := .tup [.ref dp, .str kept]) nt0
    have S4 := KaG.Same.tr S2 s4
    have edp4 := s4 _ _ edp2
    generalize upd H2 t0 (.tup [.ref dp, .str kept]) = H4 at S4 edp4 ⊢
    clear s4 nt0 edp2 S2 etp s2 ntp edp S1
    have hkeys : (((nmsOf ks).map fun n => ((Sum.inr n : Key), dueV ks S y n))).map (·.1) = (ks.map Kd.name).map Sum.inr := by rw [List.map_map]; rfl
    have l64 : (ks.map Kd.name).length < 64 := by rw [List.length_map]; omega
    have nme : (ks.map Kd.name).length = ks.length := List.length_map ..
    have nme2 : (nmsOf ks).length = ks.length := List.length_map ..
    refine ⟨_, rfl, _, rfl, dp, _, ks.map Kd.name, rfl, .inl edp4, hkeys, l64, fun ys c pm srt nc => ?_⟩
    obtain rfl : ys = ks.map Kd.name := sorted_one hO.nm.of hO.nm.up srt pm
    have s5 := same_upd (o := .lst ((ks.map Kd.name).map V.str)) nc
    have S5 := KaG.Same.tr S4 s5
    have edp5 := s5 _ _ edp4
    have ec : upd H4 c (.lst ((ks.map Kd.name).map V.str)) c = some (.lst ((ks.map Kd.name).map V.str)) := upd_same
    have hBg4 : Bag H4 bg := by
      obtain ⟨c0, st, i, b2, ns, e1, e2, r⟩ := id hBg
      exact ⟨c0, st, i, b2, ns, S4 _ _ e1, S4 _ _ e2, r⟩
    have cbg : c ≠ bg := fun z => hBg4.there (z ▸ nc)
    generalize upd H4 c (.lst ((ks.map Kd.name).map V.str)) = H5 at S5 edp5 ec ⊢
    have E5 : EB bg T H H5 := EB.ex (Ex.same hT S5) hBg
    refine ⟨bg, c, (ks.map Kd.name).map V.str, rfl, E5.bag, cbg, .inl ec, by rw [List.length_map]; omega, fun m ys2 H6 X6 nm em pm2 => ?_⟩
    have E6 := E5.tr (EB.ext X6 E5.tab E5.bag)
    have edp6 := (EB.ext X6 E5.tab E5.bag).dk E5.bag edp5
    refine ⟨_, rfl, dp, _, ks.map Kd.name, rfl, .inl edp6, hkeys, l64, fun ys3 c3 pm3 srt3 nc3 => ?_⟩
    obtain rfl : ys3 = ks.map Kd.name := sorted_one hO.nm.of hO.nm.up srt3 pm3
    have s7 := same_upd (o := .lst ((ks.map Kd.name).map V.str)) nc3
    have ec3 : upd H6 c3 (.lst ((ks.map Kd.name).map V.str)) c3 = some (.lst ((ks.map Kd.name).map V.str)) := upd_same
    have E7 := E6.trs s7
    have edp7 := s7 _ _ edp6
    have em7 := s7 _ _ em
    generalize upd H6 c3 (.lst ((ks.map Kd.name).map V.str)) = H7 at ec3 E7 edp7 em7 ⊢
    refine ⟨_, rfl, _, _, rfl, SqL.of ec3, fun q nq => ?_⟩
    rw [cut_to _ 1 (by decide)]
    have s8 := same_upd (o := .lst (((ks.map Kd.name).map V.str).take (1 : Int).toNat)) nq
    have eq8 : upd H7 q (.lst (((ks.map Kd.name).map V.str).take (1 : Int).toNat)) q = some (.lst (((ks.map Kd.name).map V.str).take (1 : Int).toNat)) := upd_same
    have E8 := E7.trs s8
    have edp8 := s8 _ _ edp7
    have em8 := s8 _ _ em7
    generalize upd H7 q (.lst (((ks.map Kd.name).map V.str).take (1 : Int).toNat)) = H8 at eq8 E8 edp8 em8 ⊢
    have lys := pm2.length_eq
    rw [List.length_map] at lys
    refine ⟨m, q, _, _, rfl, rfl, em8, eq8, sz (by rw [lys, List.length_take, List.length_map]; omega), fun l nl => ?_⟩
    have s9 := same_upd (o := .lst (ys2 ++ ((ks.map Kd.name).map V.str).take (1 : Int).toNat)) nl
    have el : upd H8 l (.lst (ys2 ++ ((ks.map Kd.name).map V.str).take (1 : Int).toNat)) l = some (.lst (ys2 ++ ((ks.map Kd.name).map V.str).take (1 : Int).toNat)) := upd_same
    have E9 := E8.trs s9
    have edp9 := s9 _ _ edp8
    have hall : ∀ x ∈ ys2 ++ ((ks.map Kd.name).map V.str).take (1 : Int).toNat, ∃ n, x = .str n ∧ n ∈ nmsOf ks := fun x mx => by
      have : x ∈ (ks.map Kd.name).map V.str := (List.mem_append.mp mx).elim (fun z => pm2.mem_iff.mp z) List.mem_of_mem_take
      obtain ⟨n, mn, rfl⟩ := List.mem_map.mp this
      exact ⟨n, rfl, mn⟩
    have lxs : 0 < (ys2 ++ ((ks.map Kd.name).map V.str).take (1 : Int).toNat).length := by
      have := hO.k0
      rw [List.length_append, lys]
      omega
    generalize upd H8 l (.lst (ys2 ++ ((ks.map Kd.name).map V.str).take (1 : Int).toNat)) = H9 at el E9 edp9 ⊢
    generalize ys2 ++ ((ks.map Kd.name).map V.str).take (1 : Int).toNat = xs at el hall lxs ⊢
    clear s9 em8 eq8 s8 em7 ec3 s7 E8 E7 E6 edp8 edp7 edp6 em pm2 lys nq nc3 edp5 ec edp4 nl
    have hA9 := hA.ts (E9.ts hBg)
    have eS9 := E9.ts hBg _ _ eS
    have hget : ∀ {G : Hp}, Ex T H9 G → ∀ {f : Str → Option Int}, FS ks S f → ∀ n ∈ nmsOf ks, DGet G dp (.str n) (some (frV (f n))) := fun {G} X {f} hf n mn => by
      have h1 := DGet.k (H := G) (a := dp) (k := Sum.inr n) (X.dk edp9)
      rw [valV_nms (F := dueV ks S y), if_pos mn, due_eq hY hf mn] at h1
      exact h1
    refine ⟨l, rfl, ⟨_, SqL.of el⟩, for_list (K := K) (a := l) (xs := xs) (fun j σ' G => (∃ x5 x6 x7 : Option V, σ' = [some (.ref bg), some (.ref b), some (.ref sa), some (.ref dp), some (.str kept), x5, x6, x7]) ∧ Ex T H9 G ∧ (0 < j → ∃ f, FS ks S f)) ?_ ?_ ?_ ?_⟩
    · exact ⟨⟨_, _, _, rfl⟩, Ex.refl E9.tab, fun z => absurd z (Nat.lt_irrefl _)⟩
    · rintro j σ' G _ ⟨_, X, _⟩
      exact SqL.of (X.lst el)
    · rintro j x σ' G hx ⟨⟨x5, x6, x7, rfl⟩, X, _⟩
      obtain ⟨n, rfl, mn⟩ := hall x (List.mem_of_getElem? hx)
      refine ⟨_, rfl, _, rfl, _, rfl, b, sa, n, rows, ks, S, rfl, hA9.ts X.ts, hO, .inr (X.ts _ _ eS9), X.tab, fun f G2 X2 hf => ?_⟩
      have X02 := X.tr X2
      obtain ⟨dd, g⟩ := Gd.fr (H := G2) hO hf mn
      refine ⟨_, rfl, _, rfl, dp, frV (f n), rfl, hget X02 hf n mn, ?_⟩
      refine ⟨frV (f n), frV (f n), dd, rfl, g.rep, g.rep, g.lay, Nat.le_trans g.dep (by decide), Nat.le_trans g.len (by rw [sizeLine_eq]; decide), ?_⟩
      exact ⟨true, rfl, ifF rfl ⟨⟨_, _, _, rfl⟩, X02, fun _ => ⟨f, hf⟩⟩⟩
    · rintro σ' G ⟨⟨x5, x6, x7, rfl⟩, X, hf0⟩
      obtain ⟨f, hf⟩ := hf0 lxs
      have hB := hf.hB
      have hC := hf.hC
      -- clean
      refine ⟨_, rfl, dp, _, ks.map Kd.name, rfl, .inl (X.dk edp9), hkeys, l64, fun ys c1 pm1 srt1 nc1 => ?_⟩
      obtain rfl : ys = ks.map Kd.name := sorted_one hO.nm.of hO.nm.up srt1 pm1
      have s1 := same_upd (o := .lst ((ks.map Kd.name).map V.str)) nc1
      have X1 := X.trs s1
      have ec1 : upd G c1 (.lst ((ks.map Kd.name).map V.str)) c1 = some (.lst ((ks.map Kd.name).map V.str)) := upd_same
      generalize upd G c1 (.lst ((ks.map Kd.name).map V.str)) = G1 at X1 ec1 ⊢
      refine ⟨c1, rfl, ⟨_, SqL.of ec1⟩, fun D hD => lc_list (K := K) (a := c1) (xs := (ks.map Kd.name).map V.str) (fun i J => Same G1 J ∧ J D = some (.lst ((((nmsOf ks).take i).filter fun n => decide (n ∈ cleanOf ks S)).map V.str))) ?_ ?_ ?_ ?_⟩
      · exact ⟨same_upd hD, upd_same⟩
      · rintro i J _ ⟨SJ, _⟩
        exact SqL.of (SJ _ _ ec1)
      · rintro i x J hx ⟨SJ, jD⟩
        rw [List.getElem?_map] at hx
        obtain ⟨n, hn, rfl⟩ := Option.map_eq_some_iff.mp hx
        have mn : n ∈ nmsOf ks := List.mem_of_getElem? hn
        have tk : (nmsOf ks).take (i + 1) = (nmsOf ks).take i ++ [n] := by rw [List.take_add_one, hn]; rfl
        refine ⟨rfl, _, rfl, _, rfl, dp, frV (f n), rfl, hget (X1.trs SJ) hf n mn, ?_, _, rfl, ?_⟩
        · unfold frV
          cases f n with
          | none => rfl
          | some v =>
            dsimp only
            split <;> rfl
        · rw [frV_clean hf n]
          refine ite2 (fun h2 => ?_) fun h2 => ?_
          · have lf := List.length_filter_le (fun n => decide (n ∈ cleanOf ks S)) ((nmsOf ks).take i)
            rw [List.length_take] at lf
            refine ⟨_, rfl, _, jD, small1000 (by rw [List.length_map]; omega), fun b u e => by rw [upd_ne (ne_of_none e hD)]; exact SJ b u e, ?_⟩
            rw [upd_same, tk, List.filter_append, List.filter_cons_of_pos (p := fun n => decide (n ∈ cleanOf ks S)) h2, List.map_append]
            rfl
          · refine ⟨SJ, ?_⟩
            rw [jD, tk, List.filter_append, List.filter_cons_of_neg (p := fun n => decide (n ∈ cleanOf ks S)) h2, List.filter_nil, List.append_nil]
      · rintro J ⟨SJ, jD⟩
        rw [List.length_map, List.take_length, ← hC.fl] at jD
        refine ⟨D, _, rfl, .inl ⟨SqL.of jD, fun tc ntc => ?_⟩⟩
        have s10 := same_upd (o := .tup ((cleanOf ks S).map V.str)) ntc
        have etc : upd J tc (.tup ((cleanOf ks S).map V.str)) tc = some (.tup ((cleanOf ks S).map V.str)) := upd_same
        have X10 := X1.trs (KaG.Same.tr SJ s10)
        generalize upd J tc (.tup ((cleanOf ks S).map V.str)) = G2 at etc X10 ⊢
        -- bearing
        refine ⟨_, rfl, dp, _, ks.map Kd.name, rfl, .inl (X10.dk edp9), hkeys, l64, fun ys c2 pm2 srt2 nc2 => ?_⟩
        obtain rfl : ys = ks.map Kd.name := sorted_one hO.nm.of hO.nm.up srt2 pm2
        have s11 := same_upd (o := .lst ((ks.map Kd.name).map V.str)) nc2
        have X11 := X10.trs s11
        have ec2 : upd G2 c2 (.lst ((ks.map Kd.name).map V.str)) c2 = some (.lst ((ks.map Kd.name).map V.str)) := upd_same
        have etc2 := s11 _ _ etc
        generalize upd G2 c2 (.lst ((ks.map Kd.name).map V.str)) = G3 at X11 ec2 etc2 ⊢
        refine ⟨c2, rfl, ⟨_, SqL.of ec2⟩, fun D2 hD2 => lc_list (K := K) (a := c2) (xs := (ks.map Kd.name).map V.str) (fun i J => Same G3 J ∧ J D2 = some (.lst ((((nmsOf ks).take i).filter fun n => decide (n ∈ bearOf ks)).map V.str))) ?_ ?_ ?_ ?_⟩
        · exact ⟨same_upd hD2, upd_same⟩
        · rintro i J _ ⟨SJ, _⟩
          exact SqL.of (SJ _ _ ec2)
        · rintro i x J hx ⟨SJ, jD⟩
          rw [List.getElem?_map] at hx
          obtain ⟨n, hn, rfl⟩ := Option.map_eq_some_iff.mp hx
          have mn : n ∈ nmsOf ks := List.mem_of_getElem? hn
          have tk : (nmsOf ks).take (i + 1) = (nmsOf ks).take i ++ [n] := by rw [List.take_add_one, hn]; rfl
          refine ⟨rfl, _, rfl, _, rfl, dp, frV (f n), rfl, hget (X11.trs SJ) hf n mn, rfl, _, rfl, ?_⟩
          rw [frV_bear hO hf mn]
          refine ite2 (fun h2 => ?_) fun h2 => ?_
          · have lf := List.length_filter_le (fun n => decide (n ∈ bearOf ks)) ((nmsOf ks).take i)
            rw [List.length_take] at lf
            refine ⟨_, rfl, _, jD, small1000 (by rw [List.length_map]; omega), fun b u e => by rw [upd_ne (ne_of_none e hD2)]; exact SJ b u e, ?_⟩
            rw [upd_same, tk, List.filter_append, List.filter_cons_of_pos (p := fun n => decide (n ∈ bearOf ks)) h2, List.map_append]
            rfl
          · refine ⟨SJ, ?_⟩
            rw [jD, tk, List.filter_append, List.filter_cons_of_neg (p := fun n => decide (n ∈ bearOf ks)) h2, List.filter_nil, List.append_nil]
        · rintro J3 ⟨SJ3, jD3⟩
          rw [List.length_map, List.take_length, ← hB.fl] at jD3
          refine ⟨D2, _, rfl, .inl ⟨SqL.of jD3, fun tb ntb => ?_⟩⟩
          have s12 := same_upd (o := .tup ((bearOf ks).map V.str)) ntb
          have etb : upd J3 tb (.tup ((bearOf ks).map V.str)) tb = some (.tup ((bearOf ks).map V.str)) := upd_same
          have X12 := X11.trs (KaG.Same.tr SJ3 s12)
          have etc3 := s12 _ _ (SJ3 _ _ etc2)
          generalize upd J3 tb (.tup ((bearOf ks).map V.str)) = G4 at etb X12 etc3 ⊢
          clear s12 s11 s10 s1 etc2 etc ec2 ec1 jD3 jD SJ3 SJ X11 X10 X1
          refine ⟨_, rfl, _, rfl, b, sa, rows, ks, S, rfl, hA9.ts X12.ts, hO, .inr (X12.ts _ _ eS9), X12.tab, fun p1 K1 Y1 ep1 hB1 hC1 => ?_⟩
          refine ⟨_, rfl, b, rows, ks, rfl, hA9.ts (X12.tr Y1).ts, hO, Y1.tab, fun p2 K2 Y2 ep2 hB2 => ⟨sz (by show 2 ≤ 900; decide), fun l8 nl8 => ?_⟩⟩
          have XK := (X12.tr Y1).tr Y2
          have Y12 := Y1.tr Y2
          have s13 := same_upd (o := .lst [.ref p1, .ref p2]) nl8
          have el8 : upd K2 l8 (.lst [.ref p1, .ref p2]) l8 = some (.lst [.ref p1, .ref p2]) := upd_same
          have X13 := XK.trs s13
          have Y13 := Y12.trs s13
          have ep1' := s13 _ _ (Y2.ts _ _ ep1)
          have ep2' := s13 _ _ ep2
          generalize upd K2 l8 (.lst [.ref p1, .ref p2]) = K3 at el8 X13 Y13 ep1' ep2' ⊢
          refine ⟨_, rfl, _, rfl, sz (by show 2 ≤ 900; decide), fun l9 nl9 => ?_⟩
          have s14 := same_upd (o := .lst [.ref tc, .ref tb]) nl9
          have el9 : upd K3 l9 (.lst [.ref tc, .ref tb]) l9 = some (.lst [.ref tc, .ref tb]) := upd_same
          have X14 := X13.trs s14
          have Y14 := Y13.trs s14
          have el8' := s14 _ _ el8
          have ep1'' := s14 _ _ ep1'
          have ep2'' := s14 _ _ ep2'
          generalize upd K3 l9 (.lst [.ref tc, .ref tb]) = K4 at el9 X14 Y14 el8' ep1'' ep2'' ⊢
          have lN : ∀ {J : Jn} {B : List Str}, IsL (nmsOf ks) J B → B.length ≤ 5 ∧ ∀ x ∈ B, x ∈ nmAll := fun {J B} h => by
            refine ⟨?_, fun x m => hO.nm.of x (h.sub x m)⟩
            have := List.length_filter_le (fun n => decide (n ∈ B)) (nmsOf ks)
            rw [← h.fl, List.length_map] at this
            omega
          have gu : ∀ {a : Addr} {J : Jn} {B : List Str}, IsL (nmsOf ks) J B → K4 a = some (.tup (B.map V.str)) → Gd K4 (.ref a) (.tuple (B.map PyData.str)) 1 113 := fun h e => Gd.strsU e (lN h).2 (lN h).1
          have g1 := Gd.two el8' (gu hC ep1'') (gu hB ep2'')
          have g2 := Gd.two el9 (gu hC (Y14.ts _ _ etc3)) (gu hB (Y14.ts _ _ etb))
          refine ⟨.ref l8, .ref l9, _, rfl, g1.rep, g2.rep, g1.lay, Nat.le_trans g1.dep (by decide), Nat.le_trans g1.len (by rw [sizeLine_eq]; decide), ?_⟩
          refine ⟨true, rfl, ifF rfl ?_⟩
          refine ⟨_, rfl, _, rfl, sz (by show 2 ≤ 900; decide), fun t9 nt9 => ?_⟩
          have s15 := same_upd (o := .tup [.ref b, .ref sa]) nt9
          have et9 : upd K4 t9 (.tup [.ref b, .ref sa]) t9 = some (.tup [.ref b, .ref sa]) := upd_same
          have X15 := X14.trs s15
          generalize upd K4 t9 (.tup [.ref b, .ref sa]) = K5 at et9 X15 ⊢
          have gk := gT (hA9.ts X15.ts) (X15.ts _ _ eS9) et9
          obtain ⟨as6, hS6, _⟩ := Rep.sh (CW := CW) (NW := NW) gk.rep
          refine ⟨_, as6, _, _, rfl, hS6, Nat.le_trans gk.dep (by decide), Nat.le_trans gk.len (by rw [sizeLine_eq]; decide), _, rfl, rfl, ?_⟩
          rw [hkept, decide_eq_true rfl]
          exact k _ (E9.trx X15)
end
end KaG


set_option maxRecDepth 100000
set_option maxHeartbeats 4000000
namespace KaG
open PySem PySem.Spec PyProof.Rows L2 KaC KaN LamX NdefX KaU
section
variable {P : Program} {w : World} {K : PySem.W.Frag} {mg : Str → Option Value} {base : Heap}
abbrev sLaw89 : Stmt := top 47
abbrev nmLw : List Str := ["script", "bag", "turn", "rulebook", "struck", "rows"]
theorem scLw : FnScope nmLw ["script"] (defScope sLaw89) := ⟨rfl, rfl, rfl, by decide +kernel, rfl, by decide +kernel, by decide +kernel⟩
theorem ok_law89 {T : List NTab} {f fB fR fT fK fX : Addr} {fd fdB fdR fdT fdK fdX : FuncData} (F : Fun K "law" "law" sLaw89 f fd) (TC : TxtC mg) (CB : Ct P w K mg base "_law_bag" 1 ["script"] (spBag K) fB fdB) (CR : Ct P w K mg base "_law_rulebook" 7 ["bag", "kinds"] spRbS fR fdR)
    (CK : Ct P w K mg base "_law_take" 1 ["bag", "upto"] spTake fK fdK) (CX : Ct P w K mg base "_law_mixed" 2 ["bag", "things"] spMixed fX fdX)
    (CT : GnG true P w K mg base "_law_is_fresh_told" 12 ["bag", "rulebook", "struck"] (spFt T) fT fdT) : FnG true P w K mg base CX0 13 f fd ["script"] (spLaw T K) := by
  refine fnG_of F scLw (fun vs H Q E h => ?_) (fun cdv A outer s H vs Q E hr hc h => ?_)
  · obtain ⟨a, ns, rfl, _⟩ := h
    rfl
  · obtain ⟨a, ns, rfl, hS, hn, hT, k⟩ := h
    have hA : A.handled = none := hc rfl
    have hR : Room 12 (A.deeper (envOfC "law" (defScope sLaw89) s.heap.objs.size f cdv)) := hr.room (hc rfl)
    have hR1 := hR.mono (show 1 ≤ 12 by decide)
    have hR2 := hR.mono (show 2 ≤ 12 by decide)
    have hR7 := hR.mono (show 7 ≤ 12 by decide)
    refine ⟨_, L2.PSs.nox (pss_cons (ps_set (i := 1) scLw.nd rfl (Or.inl rfl) (pe_call CB.G hR1 (by rfl) CB.m CB.kp CB.b .nil pass0 (pa_cons (pv 0) pa_nil)))
      (pss_cons (ps_for PassesOwn.never rfl (pi_range1 rfl TC.b.range (pa_cons pe_int pa_nil)) (pg_name (i := 2) scLw.nd rfl (Or.inl rfl))
        (pss_cons (ps_asg (pe_call CR.G hR7 (by rfl) CR.m CR.kp CR.b .nil pass0 (pa_cons (pv 1) (pa_cons pe_int pa_nil))) (pg_tup (by rfl) (pgs_cons (pg_name (i := 3) scLw.nd rfl (Or.inl rfl)) (pgs_cons (pg_name (i := 4) scLw.nd rfl (Or.inl rfl)) pgs_nil))))
        (pss_cons (ps_if (pt_not (pt_val (pe_callG CT.G (hr.low (Nat.le_refl _)) (fun _ => hA) (by rfl) CT.m CT.kp CT.b (pa_cons (pv 1) (pa_cons (pv 3) (pa_cons (pv 4) pa_nil)))))) (pss_one (ps_ret pe_bl)) pss_nil)
        (pss_cons (ps_set (i := 5) scLw.nd rfl (Or.inl rfl) (pe_callTy call_tuple_of (by rfl) TC.tup (by decide +kernel) (pa_cons (pe_callB cr_sortedS (by rfl) TC.sor (by decide +kernel) (pa_cons (pe_slice (r := rSlL K) sl_list (pe_call CX.G hR2 (by rfl) CX.m CX.kp CX.b .nil pass0 (pa_cons (pv 1) (pa_cons (pe_ix (r := rIxT K) ix_tup (pv 3) pe_int (fun _ _ => rfl)) pa_nil))) po_none
            (po_some (pe_op op_add pe_int (pe_call CK.G hR1 (by rfl) CK.m CK.kp CK.b .nil pass0 (pa_cons (pv 1) (pa_cons (pe_callB call_len_seq (by rfl) TC.b.len PySem.boot_len (pa_cons (pe_ix (r := rIxT K) ix_tup (pv 3) pe_int (fun _ _ => rfl)) pa_nil)) pa_nil)))))) pa_nil)) pa_nil)))
        (pss_one (ps_if (pt_not (pt_val (pe_callG CT.G (hr.low (Nat.le_refl _)) (fun _ => hA) (by rfl) CT.m CT.kp CT.b (pa_cons (pv 1) (pa_cons (pv 3) (pa_cons (pv 5) pa_nil)))))) (pss_one (ps_ret pe_bl)) pss_nil))))))
      (pss_one (ps_ret pe_bl)))), ?_⟩
    have sz : ∀ {m : Nat}, m ≤ 900 → m ≤ sizeLine := fun h => Nat.le_of_lt (small1000 (by omega))
    refine ⟨_, rfl, a, ns, rfl, hS, hn, fun bg H1 s1 nb hB => ?_⟩
    have hT1 := hT.ext s1
    refine ⟨3, rfl, by decide, by decide, for_range (n := 3) (fun i σ' J => (∃ x2 x3 x4 x5 : Option V, σ' = [some (.ref a), some (.ref bg), x2, x3, x4, x5]) ∧ Bag J bg ∧ TabsN T J) ?_ ?_ ?_⟩
    · exact ⟨⟨_, _, _, _, rfl⟩, hB, hT1⟩
    · rintro i σ' J hi ⟨⟨x2, x3, x4, x5, rfl⟩, hBJ, hTJ⟩
      refine ⟨_, rfl, bg, 5, rfl, hBJ, by decide, by decide, fun t p sa rs S ks J2 E2 et esa lS nS lrs hA2 hO => ?_⟩
      refine ⟨t, _, rfl, SqT.of et, by rfl, _, _, rfl, _, _, rfl, rfl, ?_⟩
      have hT2 := tabs_bag hTJ hBJ E2
      refine ⟨_, rfl, _, rfl, _, rfl, bg, p, sa, rs, ks, S, rfl, E2.bag, hA2, hO, esa, lS, nS, hT2, fun J3 E3 => ⟨true, rfl, ifF rfl ?_⟩⟩
      have hA3 := hA2.ts (E3.ts E2.bag)
      obtain ⟨r, kt, kas, e1, e2, e3, pk⟩ := id hA3
      have rb : r ≠ bg := tup_ne E3.bag e2
      refine ⟨_, rfl, _, rfl, p, _, 0, .ref r, rfl, rfl, SqT.of e1, rfl, bg, r, rs.map V.str, rfl, E3.bag, rb, .inr e2, by rw [List.length_map]; omega, fun m ys J4 E4 nm em pm => ?_⟩
      obtain ⟨zs, pz, rfl⟩ := perm_of_map pm rs rfl
      have mb : m ≠ bg := fun z => E3.bag.there (z ▸ nm)
      have t34 := TSame.ext E3.bag E4
      refine ⟨_, rfl, _, rfl, p, _, 0, .ref r, rfl, rfl, SqT.of (t34 _ _ e1), rfl, r, _, rfl, .inr (SqT.of (t34 _ _ e2)), bg, _, rfl, E4.bag, by rw [List.length_map]; exact Int.ofNat_lt.mpr hO.r0, by rw [List.length_map]; omega, fun z J5 E5 z0 z1 => ?_⟩
      have hm := E5.keep m _ mb em
      refine ⟨_, _, rfl, rfl, _, rfl, _, _, rfl, SqL.of hm, fun l nl => ?_⟩
      rw [cut_to _ (1 + z) (by omega), ← List.map_take]
      refine ⟨l, zs.take (1 + z).toNat, rfl, SqL.of upd_same, by have := pz.length_eq; rw [List.length_take]; omega, fun us u pu su nu => ?_⟩
      refine ⟨u, _, rfl, .inl ⟨SqL.of upd_same, fun l2 nl2 => ?_⟩⟩
      have E6 := (((E4.trans E5).new nl).new nu).new (o := .tup (us.map V.str)) nl2
      have el2 : upd (upd (upd J5 l (.lst ((zs.take (1 + z).toNat).map V.str))) u (.lst (us.map V.str))) l2 (.tup (us.map V.str)) l2 = some (.tup (us.map V.str)) := upd_same
      have memu : ∀ n ∈ us, n ∈ rs := fun n m => pz.mem_iff.mp (List.mem_of_mem_take (pu.mem_iff.mp m))
      have lenu : us.length ≤ 5 := by
        have h1 := pu.length_eq
        have h2 := pz.length_eq
        rw [List.length_take] at h1
        omega
      generalize upd (upd (upd J5 l (.lst ((zs.take (1 + z).toNat).map V.str))) u (.lst (us.map V.str))) l2 (.tup (us.map V.str)) = J6 at E6 el2 ⊢
      have hA6 := hA3.ts (TSame.ext E3.bag E6)
      have hT6 := tabs_bag E3.tab E3.bag E6
      refine ⟨_, rfl, _, rfl, _, rfl, bg, p, l2, rs, ks, us, rfl, E6.bag, hA6, hO, el2, lenu, fun n m => hO.rw.of n (memu n m), hT6, fun J7 E7 => ⟨true, rfl, ifF rfl ?_⟩⟩
      exact ⟨⟨_, _, _, _, rfl⟩, E7.bag, E7.tab⟩
    · rintro σ' G ⟨⟨x2, x3, x4, x5, rfl⟩, _⟩
      exact k G
end
end KaG


set_option maxRecDepth 100000
set_option maxHeartbeats 4000000
namespace KaG
open PySem PySem.Spec PyProof.Rows L2 KaC KaN LamX NdefX KaU
def wrB (K : PySem.W.Frag) (C : Addr) (NW : Str) : Bool := (match PySem.W.clsIn K C with | some cd => decide (Str.ofString ((cd.name.toString.cutAt '.').getLastD "") = NW) | none => false) &&
  (decide (PySem.W.subIn K (.ref C) (.type "BaseException") = some true) && (decide (PySem.W.findIn K (.ref C) "__repr__" = some (some (.builtin "BaseException.__repr__"))) && (decide (PySem.W.findIn K (.ref C) "__eq__" = some (some (.builtin "object.__eq__"))) && decide (PySem.W.subIn K (.ref C) (.type "object") = some true))))
theorem wrB_ok {K : PySem.W.Frag} {C : Addr} {NW : Str} (h : wrB K C NW = true) : WrK K C NW := by
  unfold wrB at h
  rw [Bool.and_eq_true] at h
  obtain ⟨h1, h2⟩ := h
  simp only [Bool.and_eq_true, decide_eq_true_eq] at h2
  obtain ⟨h0, h3, h4, h5⟩ := h2
  split at h1
  · rename_i cd hc
    exact ⟨⟨cd, hc, of_decide_eq_true h1⟩, h0, h3, h4, h5⟩
  · cases h1

section
variable {l : PySem.W.OpenLaw} {w : World} {K : PySem.W.Frag} {mg : Str → Option Value} {h : Heap}
theorem all_mk {fa C0 CC : Addr} {tN tA : Tok} {m0 : Addr} {mod0 man0 : Option Addr} {msl0 : Array (Option Value)} {moc0 mkV0 mdc0 mpm0 mct0 mcd0 : Value} {m1 : Addr} {mod1 man1 : Option Addr} {msl1 : Array (Option Value)} {moc1 mkV1 mdc1 mpm1 mct1 mcd1 : Value} {m2 : Addr} {mod2 man2 : Option Addr} {msl2 : Array (Option Value)} {moc2 mkV2 mdc2 mpm2 mct2 mcd2 : Value} {c4 P4 : Addr} {c8 P8 : Addr} {c10 P10 : Addr} {g0 : Addr} {god0 gan0 : Option Addr} {gsl0 : Array (Option Value)} {goc0 gkV0 gdc0 gpm0 gct0 : Value} {gcd0 : Value} {g1 : Addr} {god1 gan1 : Option Addr} {gsl1 : Array (Option Value)} {goc1 gkV1 gdc1 gpm1 gct1 : Value} {gcd1 : Value} {g2 : Addr} {god2 gan2 : Option Addr} {gsl2 : Array (Option Value)} {goc2 gkV2 gdc2 gpm2 gct2 : Value} {gcd2 : Value} {g3 : Addr} {god3 gan3 : Option Addr} {gsl3 : Array (Option Value)} {goc3 gkV3 gdc3 gpm3 gct3 : Value} {gcd3 : Value} {g4 : Addr} {god4 gan4 : Option Addr} {gsl4 : Array (Option Value)} {goc4 gkV4 gdc4 gpm4 gct4 : Value} {g5 : Addr} {god5 gan5 : Option Addr} {gsl5 : Array (Option Value)} {goc5 gkV5 gdc5 gpm5 gct5 : Value} {gcd5 : Value} {g6 : Addr} {god6 gan6 : Option Addr} {gsl6 : Array (Option Value)} {goc6 gkV6 gdc6 gpm6 gct6 : Value} {gcd6 : Value} {g7 : Addr} {god7 gan7 : Option Addr} {gsl7 : Array (Option Value)} {goc7 gkV7 gdc7 gpm7 gct7 : Value} {gcd7 : Value} {g8 : Addr} {god8 gan8 : Option Addr} {gsl8 : Array (Option Value)} {goc8 gkV8 gdc8 gpm8 gct8 : Value} {g9 : Addr} {god9 gan9 : Option Addr} {gsl9 : Array (Option Value)} {goc9 gkV9 gdc9 gpm9 gct9 : Value} {gcd9 : Value} {g10 : Addr} {god10 gan10 : Option Addr} {gsl10 : Array (Option Value)} {goc10 gkV10 gdc10 gpm10 gct10 : Value} {g11 : Addr} {god11 gan11 : Option Addr} {gsl11 : Array (Option Value)} {goc11 gkV11 gdc11 gpm11 gct11 : Value} {gcd11 : Value} {g12 : Addr} {god12 gan12 : Option Addr} {gsl12 : Array (Option Value)} {goc12 gkV12 gdc12 gpm12 gct12 : Value} {gcd12 : Value} {g13 : Addr} {god13 gan13 : Option Addr} {gsl13 : Array (Option Value)} {goc13 gkV13 gdc13 gpm13 gct13 : Value} {gcd13 : Value} {g14 : Addr} {god14 gan14 : Option Addr} {gsl14 : Array (Option Value)} {goc14 gkV14 gdc14 gpm14 gct14 : Value} {gcd14 : Value} {g15 : Addr} {god15 gan15 : Option Addr} {gsl15 : Array (Option Value)} {goc15 gkV15 gdc15 gpm15 gct15 : Value} {gcd15 : Value} {g16 : Addr} {god16 gan16 : Option Addr} {gsl16 : Array (Option Value)} {goc16 gkV16 gdc16 gpm16 gct16 : Value} {gcd16 : Value} {g17 : Addr} {god17 gan17 : Option Addr} {gsl17 : Array (Option Value)} {goc17 gkV17 gdc17 gpm17 gct17 : Value} {gcd17 : Value} {g18 : Addr} {god18 gan18 : Option Addr} {gsl18 : Array (Option Value)} {goc18 gkV18 gdc18 gpm18 gct18 : Value} {gcd18 : Value} {g19 : Addr} {god19 gan19 : Option Addr} {gsl19 : Array (Option Value)} {goc19 gkV19 gdc19 gpm19 gct19 : Value} {gcd19 : Value} {g20 : Addr} {god20 gan20 : Option Addr} {gsl20 : Array (Option Value)} {goc20 gkV20 gdc20 gpm20 gct20 : Value} {gcd20 : Value} {g21 : Addr} {god21 gan21 : Option Addr} {gsl21 : Array (Option Value)} {goc21 gkV21 gdc21 gpm21 gct21 : Value} {gcd21 : Value} {g22 : Addr} {god22 gan22 : Option Addr} {gsl22 : Array (Option Value)} {goc22 gkV22 gdc22 gpm22 gct22 : Value} {gcd22 : Value} {g23 : Addr} {god23 gan23 : Option Addr} {gsl23 : Array (Option Value)} {goc23 gkV23 gdc23 gpm23 gct23 : Value} {gcd23 : Value} {g24 : Addr} {god24 gan24 : Option Addr} {gsl24 : Array (Option Value)} {goc24 gkV24 gdc24 gpm24 gct24 : Value} {gcd24 : Value} {g25 : Addr} {god25 gan25 : Option Addr} {gsl25 : Array (Option Value)} {goc25 gkV25 gdc25 gpm25 gct25 : Value} {gcd25 : Value} {g26 : Addr} {god26 gan26 : Option Addr} {gsl26 : Array (Option Value)} {goc26 gkV26 gdc26 gpm26 gct26 : Value} {gcd26 : Value} {g27 : Addr} {god27 gan27 : Option Addr} {gsl27 : Array (Option Value)} {goc27 gkV27 gdc27 gpm27 gct27 : Value} {gcd27 : Value} {g28 : Addr} {god28 gan28 : Option Addr} {gsl28 : Array (Option Value)} {goc28 gkV28 gdc28 gpm28 gct28 : Value} {gcd28 : Value} {g29 : Addr} {god29 gan29 : Option Addr} {gsl29 : Array (Option Value)} {goc29 gkV29 gdc29 gpm29 gct29 : Value} {gcd29 : Value} {g30 : Addr} {god30 gan30 : Option Addr} {gsl30 : Array (Option Value)} {goc30 gkV30 gdc30 gpm30 gct30 : Value} {gcd30 : Value} {g31 : Addr} {god31 gan31 : Option Addr} {gsl31 : Array (Option Value)} {goc31 gkV31 gdc31 gpm31 gct31 : Value} {gcd31 : Value} {g32 : Addr} {god32 gan32 : Option Addr} {gsl32 : Array (Option Value)} {goc32 gkV32 gdc32 gpm32 gct32 : Value} {gcd32 : Value} {g33 : Addr} {god33 gan33 : Option Addr} {gsl33 : Array (Option Value)} {goc33 gkV33 gdc33 gpm33 gct33 : Value} {gcd33 : Value} {g34 : Addr} {god34 gan34 : Option Addr} {gsl34 : Array (Option Value)} {goc34 gkV34 gdc34 gpm34 gct34 : Value} {gcd34 : Value} {g35 : Addr} {god35 gan35 : Option Addr} {gsl35 : Array (Option Value)} {goc35 gkV35 gdc35 gpm35 gct35 : Value} {gcd35 : Value} (X : K.In h) (Gm : h.Ns mainGlobals mg) (hfa : mg "law" = some (.ref fa)) 
    (babs : PySem.W.nsIn K mainGlobals "abs" = some none)
    (blen : PySem.W.nsIn K mainGlobals "len" = some none)
    (bint : PySem.W.nsIn K mainGlobals "int" = some none)
    (brepr : PySem.W.nsIn K mainGlobals "repr" = some none)
    (bisinstance : PySem.W.nsIn K mainGlobals "isinstance" = some none)
    (brange : PySem.W.nsIn K mainGlobals "range" = some none)
    (blist : PySem.W.nsIn K mainGlobals "list" = some none)
    (bValueError : PySem.W.nsIn K mainGlobals "ValueError" = some none)
    (btuple : PySem.W.nsIn K mainGlobals "tuple" = some none)
    (bsorted : PySem.W.nsIn K mainGlobals "sorted" = some none)
    (bset : PySem.W.nsIn K mainGlobals "set" = some none)
    (bdict : PySem.W.nsIn K mainGlobals "dict" = some none)
    (benumerate : PySem.W.nsIn K mainGlobals "enumerate" = some none)
    (bany : PySem.W.nsIn K mainGlobals "any" = some none)
    (ball : PySem.W.nsIn K mainGlobals "all" = some none)
    (bmin : PySem.W.nsIn K mainGlobals "min" = some none)
    (bmax : PySem.W.nsIn K mainGlobals "max" = some none)
    (a0 : PySem.W.nsIn K mainGlobals "NoKind" = some (some (.ref C0)))
    (ga0 : PySem.W.nsIn K mainGlobals "kind_of" = some (some (.ref g0)))
    (gl0 : K.lookup g0 = some ⟨goc0, god0, .func (PySem.W.fnOf "kind_of" "kind_of" (defArgs sKindOf) (defBody sKindOf) (defScope sKindOf) .none gkV0 gdc0 gpm0 gan0 gcd0 gct0), gsl0⟩)
    (gc0 : PySem.W.codeIn K gcd0 "kind_of" = true)
    (gk0 : PySem.W.keepIn K (.ref g0) = true)
    (ga1 : PySem.W.nsIn K mainGlobals "kind_names" = some (some (.ref g1)))
    (gl1 : K.lookup g1 = some ⟨goc1, god1, .func (PySem.W.fnOf "kind_names" "kind_names" (defArgs sKindNames) (defBody sKindNames) (defScope sKindNames) .none gkV1 gdc1 gpm1 gan1 gcd1 gct1), gsl1⟩)
    (gc1 : PySem.W.codeIn K gcd1 "kind_names" = true)
    (gk1 : PySem.W.keepIn K (.ref g1) = true)
    (ga2 : PySem.W.nsIn K mainGlobals "_grown" = some (some (.ref g2)))
    (gl2 : K.lookup g2 = some ⟨goc2, god2, .func (PySem.W.fnOf "_grown" "_grown" (defArgs sGrown) (defBody sGrown) (defScope sGrown) .none gkV2 gdc2 gpm2 gan2 gcd2 gct2), gsl2⟩)
    (gc2 : PySem.W.codeIn K gcd2 "_grown" = true)
    (gk2 : PySem.W.keepIn K (.ref g2) = true)
    (ga3 : PySem.W.nsIn K mainGlobals "_is_live" = some (some (.ref g3)))
    (gl3 : K.lookup g3 = some ⟨goc3, god3, .func (PySem.W.fnOf "_is_live" "_is_live" (defArgs sIsLive) (defBody sIsLive) (defScope sIsLive) .none gkV3 gdc3 gpm3 gan3 gcd3 gct3), gsl3⟩)
    (gc3 : PySem.W.codeIn K gcd3 "_is_live" = true)
    (gk3 : PySem.W.keepIn K (.ref g3) = true)
    (ga4 : PySem.W.nsIn K mainGlobals "bearing_kinds" = some (some (.ref g4)))
    (gl4 : K.lookup g4 = some ⟨goc4, god4, .func (PySem.W.fnOf "bearing_kinds" "bearing_kinds" (defArgs sBear) (defBody sBear) (defScope sBear) .none gkV4 gdc4 gpm4 gan4 (.ref c4) gct4), gsl4⟩)
    (gc4 : PySem.W.codeIn K (.ref c4) "bearing_kinds" = true)
    (gk4 : PySem.W.keepIn K (.ref g4) = true)
    (ga5 : PySem.W.nsIn K mainGlobals "live_indexes" = some (some (.ref g5)))
    (gl5 : K.lookup g5 = some ⟨goc5, god5, .func (PySem.W.fnOf "live_indexes" "live_indexes" (defArgs sLiveIx) (defBody sLiveIx) (defScope sLiveIx) .none gkV5 gdc5 gpm5 gan5 gcd5 gct5), gsl5⟩)
    (gc5 : PySem.W.codeIn K gcd5 "live_indexes" = true)
    (gk5 : PySem.W.keepIn K (.ref g5) = true)
    (ga6 : PySem.W.nsIn K mainGlobals "_is_forced" = some (some (.ref g6)))
    (gl6 : K.lookup g6 = some ⟨goc6, god6, .func (PySem.W.fnOf "_is_forced" "_is_forced" (defArgs sIsForced) (defBody sIsForced) (defScope sIsForced) .none gkV6 gdc6 gpm6 gan6 gcd6 gct6), gsl6⟩)
    (gc6 : PySem.W.codeIn K gcd6 "_is_forced" = true)
    (gk6 : PySem.W.keepIn K (.ref g6) = true)
    (ga7 : PySem.W.nsIn K mainGlobals "_forced_places" = some (some (.ref g7)))
    (gl7 : K.lookup g7 = some ⟨goc7, god7, .func (PySem.W.fnOf "_forced_places" "_forced_places" (defArgs sForcedPl) (defBody sForcedPl) (defScope sForcedPl) .none gkV7 gdc7 gpm7 gan7 gcd7 gct7), gsl7⟩)
    (gc7 : PySem.W.codeIn K gcd7 "_forced_places" = true)
    (gk7 : PySem.W.keepIn K (.ref g7) = true)
    (ga8 : PySem.W.nsIn K mainGlobals "clean_kinds" = some (some (.ref g8)))
    (gl8 : K.lookup g8 = some ⟨goc8, god8, .func (PySem.W.fnOf "clean_kinds" "clean_kinds" (defArgs sClean) (defBody sClean) (defScope sClean) .none gkV8 gdc8 gpm8 gan8 (.ref c8) gct8), gsl8⟩)
    (gc8 : PySem.W.codeIn K (.ref c8) "clean_kinds" = true)
    (gk8 : PySem.W.keepIn K (.ref g8) = true)
    (ga9 : PySem.W.nsIn K mainGlobals "_places_on" = some (some (.ref g9)))
    (gl9 : K.lookup g9 = some ⟨goc9, god9, .func (PySem.W.fnOf "_places_on" "_places_on" (defArgs sPlacesOn) (defBody sPlacesOn) (defScope sPlacesOn) .none gkV9 gdc9 gpm9 gan9 gcd9 gct9), gsl9⟩)
    (gc9 : PySem.W.codeIn K gcd9 "_places_on" = true)
    (gk9 : PySem.W.keepIn K (.ref g9) = true)
    (ga10 : PySem.W.nsIn K mainGlobals "able_kinds" = some (some (.ref g10)))
    (gl10 : K.lookup g10 = some ⟨goc10, god10, .func (PySem.W.fnOf "able_kinds" "able_kinds" (defArgs sAble) (defBody sAble) (defScope sAble) .none gkV10 gdc10 gpm10 gan10 (.ref c10) gct10), gsl10⟩)
    (gc10 : PySem.W.codeIn K (.ref c10) "able_kinds" = true)
    (gk10 : PySem.W.keepIn K (.ref g10) = true)
    (ga11 : PySem.W.nsIn K mainGlobals "day_of_need" = some (some (.ref g11)))
    (gl11 : K.lookup g11 = some ⟨goc11, god11, .func (PySem.W.fnOf "day_of_need" "day_of_need" (defArgs sDayN) (defBody sDayN) (defScope sDayN) .none gkV11 gdc11 gpm11 gan11 gcd11 gct11), gsl11⟩)
    (gc11 : PySem.W.codeIn K gcd11 "day_of_need" = true)
    (gk11 : PySem.W.keepIn K (.ref g11) = true)
    (ga12 : PySem.W.nsIn K mainGlobals "_starts_of" = some (some (.ref g12)))
    (gl12 : K.lookup g12 = some ⟨goc12, god12, .func (PySem.W.fnOf "_starts_of" "_starts_of" (defArgs sStarts) (defBody sStarts) (defScope sStarts) .none gkV12 gdc12 gpm12 gan12 gcd12 gct12), gsl12⟩)
    (gc12 : PySem.W.codeIn K gcd12 "_starts_of" = true)
    (gk12 : PySem.W.keepIn K (.ref g12) = true)
    (ga13 : PySem.W.nsIn K mainGlobals "fresh_from" = some (some (.ref g13)))
    (gl13 : K.lookup g13 = some ⟨goc13, god13, .func (PySem.W.fnOf "fresh_from" "fresh_from" (defArgs sFresh) (defBody sFresh) (defScope sFresh) .none gkV13 gdc13 gpm13 gan13 gcd13 gct13), gsl13⟩)
    (gc13 : PySem.W.codeIn K gcd13 "fresh_from" = true)
    (gk13 : PySem.W.keepIn K (.ref g13) = true)
    (ga14 : PySem.W.nsIn K mainGlobals "_law_bag" = some (some (.ref g14)))
    (gl14 : K.lookup g14 = some ⟨goc14, god14, .func (PySem.W.fnOf "_law_bag" "_law_bag" (defArgs sBag) (defBody sBag) (defScope sBag) .none gkV14 gdc14 gpm14 gan14 gcd14 gct14), gsl14⟩)
    (gc14 : PySem.W.codeIn K gcd14 "_law_bag" = true)
    (gk14 : PySem.W.keepIn K (.ref g14) = true)
    (ga15 : PySem.W.nsIn K mainGlobals "_law_take" = some (some (.ref g15)))
    (gl15 : K.lookup g15 = some ⟨goc15, god15, .func (PySem.W.fnOf "_law_take" "_law_take" (defArgs sTake) (defBody sTake) (defScope sTake) .none gkV15 gdc15 gpm15 gan15 gcd15 gct15), gsl15⟩)
    (gc15 : PySem.W.codeIn K gcd15 "_law_take" = true)
    (gk15 : PySem.W.keepIn K (.ref g15) = true)
    (ga16 : PySem.W.nsIn K mainGlobals "_law_some" = some (some (.ref g16)))
    (gl16 : K.lookup g16 = some ⟨goc16, god16, .func (PySem.W.fnOf "_law_some" "_law_some" (defArgs sSome) (defBody sSome) (defScope sSome) .none gkV16 gdc16 gpm16 gan16 gcd16 gct16), gsl16⟩)
    (gc16 : PySem.W.codeIn K gcd16 "_law_some" = true)
    (gk16 : PySem.W.keepIn K (.ref g16) = true)
    (ga17 : PySem.W.nsIn K mainGlobals "_law_alike" = some (some (.ref g17)))
    (gl17 : K.lookup g17 = some ⟨goc17, god17, .func (PySem.W.fnOf "_law_alike" "_law_alike" (defArgs sAlike) (defBody sAlike) (defScope sAlike) .none gkV17 gdc17 gpm17 gan17 gcd17 gct17), gsl17⟩)
    (gc17 : PySem.W.codeIn K gcd17 "_law_alike" = true)
    (gk17 : PySem.W.keepIn K (.ref g17) = true)
    (ga18 : PySem.W.nsIn K mainGlobals "_law_mixed" = some (some (.ref g18)))
    (gl18 : K.lookup g18 = some ⟨goc18, god18, .func (PySem.W.fnOf "_law_mixed" "_law_mixed" (defArgs sMixed) (defBody sMixed) (defScope sMixed) .none gkV18 gdc18 gpm18 gan18 gcd18 gct18), gsl18⟩)
    (gc18 : PySem.W.codeIn K gcd18 "_law_mixed" = true)
    (gk18 : PySem.W.keepIn K (.ref g18) = true)
    (ga19 : PySem.W.nsIn K mainGlobals "_law_named" = some (some (.ref g19)))
    (gl19 : K.lookup g19 = some ⟨goc19, god19, .func (PySem.W.fnOf "_law_named" "_law_named" (defArgs sNamed) (defBody sNamed) (defScope sNamed) .none gkV19 gdc19 gpm19 gan19 gcd19 gct19), gsl19⟩)
    (gc19 : PySem.W.codeIn K gcd19 "_law_named" = true)
    (gk19 : PySem.W.keepIn K (.ref g19) = true)
    (ga20 : PySem.W.nsIn K mainGlobals "_law_numbers" = some (some (.ref g20)))
    (gl20 : K.lookup g20 = some ⟨goc20, god20, .func (PySem.W.fnOf "_law_numbers" "_law_numbers" (defArgs sNumbers) (defBody sNumbers) (defScope sNumbers) .none gkV20 gdc20 gpm20 gan20 gcd20 gct20), gsl20⟩)
    (gc20 : PySem.W.codeIn K gcd20 "_law_numbers" = true)
    (gk20 : PySem.W.keepIn K (.ref g20) = true)
    (ga21 : PySem.W.nsIn K mainGlobals "_law_need" = some (some (.ref g21)))
    (gl21 : K.lookup g21 = some ⟨goc21, god21, .func (PySem.W.fnOf "_law_need" "_law_need" (defArgs sNeed) (defBody sNeed) (defScope sNeed) .none gkV21 gdc21 gpm21 gan21 gcd21 gct21), gsl21⟩)
    (gc21 : PySem.W.codeIn K gcd21 "_law_need" = true)
    (gk21 : PySem.W.keepIn K (.ref g21) = true)
    (ga22 : PySem.W.nsIn K mainGlobals "_law_ground" = some (some (.ref g22)))
    (gl22 : K.lookup g22 = some ⟨goc22, god22, .func (PySem.W.fnOf "_law_ground" "_law_ground" (defArgs sGround) (defBody sGround) (defScope sGround) .none gkV22 gdc22 gpm22 gan22 gcd22 gct22), gsl22⟩)
    (gc22 : PySem.W.codeIn K gcd22 "_law_ground" = true)
    (gk22 : PySem.W.keepIn K (.ref g22) = true)
    (ga23 : PySem.W.nsIn K mainGlobals "_law_any_rulebook" = some (some (.ref g23)))
    (gl23 : K.lookup g23 = some ⟨goc23, god23, .func (PySem.W.fnOf "_law_any_rulebook" "_law_any_rulebook" (defArgs sAny) (defBody sAny) (defScope sAny) .none gkV23 gdc23 gpm23 gan23 gcd23 gct23), gsl23⟩)
    (gc23 : PySem.W.codeIn K gcd23 "_law_any_rulebook" = true)
    (gk23 : PySem.W.keepIn K (.ref g23) = true)
    (ga24 : PySem.W.nsIn K mainGlobals "_law_planted" = some (some (.ref g24)))
    (gl24 : K.lookup g24 = some ⟨goc24, god24, .func (PySem.W.fnOf "_law_planted" "_law_planted" (defArgs sPlanted) (defBody sPlanted) (defScope sPlanted) .none gkV24 gdc24 gpm24 gan24 gcd24 gct24), gsl24⟩)
    (gc24 : PySem.W.codeIn K gcd24 "_law_planted" = true)
    (gk24 : PySem.W.keepIn K (.ref g24) = true)
    (ga25 : PySem.W.nsIn K mainGlobals "_law_more_needs" = some (some (.ref g25)))
    (gl25 : K.lookup g25 = some ⟨goc25, god25, .func (PySem.W.fnOf "_law_more_needs" "_law_more_needs" (defArgs sMore) (defBody sMore) (defScope sMore) .none gkV25 gdc25 gpm25 gan25 gcd25 gct25), gsl25⟩)
    (gc25 : PySem.W.codeIn K gcd25 "_law_more_needs" = true)
    (gk25 : PySem.W.keepIn K (.ref g25) = true)
    (ga26 : PySem.W.nsIn K mainGlobals "_law_threaded" = some (some (.ref g26)))
    (gl26 : K.lookup g26 = some ⟨goc26, god26, .func (PySem.W.fnOf "_law_threaded" "_law_threaded" (defArgs sThreaded) (defBody sThreaded) (defScope sThreaded) .none gkV26 gdc26 gpm26 gan26 gcd26 gct26), gsl26⟩)
    (gc26 : PySem.W.codeIn K gcd26 "_law_threaded" = true)
    (gk26 : PySem.W.keepIn K (.ref g26) = true)
    (ga27 : PySem.W.nsIn K mainGlobals "_law_rulebook" = some (some (.ref g27)))
    (gl27 : K.lookup g27 = some ⟨goc27, god27, .func (PySem.W.fnOf "_law_rulebook" "_law_rulebook" (defArgs sRulebook) (defBody sRulebook) (defScope sRulebook) .none gkV27 gdc27 gpm27 gan27 gcd27 gct27), gsl27⟩)
    (gc27 : PySem.W.codeIn K gcd27 "_law_rulebook" = true)
    (gk27 : PySem.W.keepIn K (.ref g27) = true)
    (ga28 : PySem.W.nsIn K mainGlobals "_law_kinds_of" = some (some (.ref g28)))
    (gl28 : K.lookup g28 = some ⟨goc28, god28, .func (PySem.W.fnOf "_law_kinds_of" "_law_kinds_of" (defArgs sKindsO) (defBody sKindsO) (defScope sKindsO) .none gkV28 gdc28 gpm28 gan28 gcd28 gct28), gsl28⟩)
    (gc28 : PySem.W.codeIn K gcd28 "_law_kinds_of" = true)
    (gk28 : PySem.W.keepIn K (.ref g28) = true)
    (ga29 : PySem.W.nsIn K mainGlobals "_law_bearing" = some (some (.ref g29)))
    (gl29 : K.lookup g29 = some ⟨goc29, god29, .func (PySem.W.fnOf "_law_bearing" "_law_bearing" (defArgs sLBear) (defBody sLBear) (defScope sLBear) .none gkV29 gdc29 gpm29 gan29 gcd29 gct29), gsl29⟩)
    (gc29 : PySem.W.codeIn K gcd29 "_law_bearing" = true)
    (gk29 : PySem.W.keepIn K (.ref g29) = true)
    (ga30 : PySem.W.nsIn K mainGlobals "_law_is_met" = some (some (.ref g30)))
    (gl30 : K.lookup g30 = some ⟨goc30, god30, .func (PySem.W.fnOf "_law_is_met" "_law_is_met" (defArgs sIsMet) (defBody sIsMet) (defScope sIsMet) .none gkV30 gdc30 gpm30 gan30 gcd30 gct30), gsl30⟩)
    (gc30 : PySem.W.codeIn K gcd30 "_law_is_met" = true)
    (gk30 : PySem.W.keepIn K (.ref g30) = true)
    (ga31 : PySem.W.nsIn K mainGlobals "_law_live" = some (some (.ref g31)))
    (gl31 : K.lookup g31 = some ⟨goc31, god31, .func (PySem.W.fnOf "_law_live" "_law_live" (defArgs sLLive) (defBody sLLive) (defScope sLLive) .none gkV31 gdc31 gpm31 gan31 gcd31 gct31), gsl31⟩)
    (gc31 : PySem.W.codeIn K gcd31 "_law_live" = true)
    (gk31 : PySem.W.keepIn K (.ref g31) = true)
    (ga32 : PySem.W.nsIn K mainGlobals "_law_clean" = some (some (.ref g32)))
    (gl32 : K.lookup g32 = some ⟨goc32, god32, .func (PySem.W.fnOf "_law_clean" "_law_clean" (defArgs sLClean) (defBody sLClean) (defScope sLClean) .none gkV32 gdc32 gpm32 gan32 gcd32 gct32), gsl32⟩)
    (gc32 : PySem.W.codeIn K gcd32 "_law_clean" = true)
    (gk32 : PySem.W.keepIn K (.ref g32) = true)
    (ga33 : PySem.W.nsIn K mainGlobals "_law_fresh" = some (some (.ref g33)))
    (gl33 : K.lookup g33 = some ⟨goc33, god33, .func (PySem.W.fnOf "_law_fresh" "_law_fresh" (defArgs sLF) (defBody sLF) (defScope sLF) .none gkV33 gdc33 gpm33 gan33 gcd33 gct33), gsl33⟩)
    (gc33 : PySem.W.codeIn K gcd33 "_law_fresh" = true)
    (gk33 : PySem.W.keepIn K (.ref g33) = true)
    (ga34 : PySem.W.nsIn K mainGlobals "_law_is_fresh_told" = some (some (.ref g34)))
    (gl34 : K.lookup g34 = some ⟨goc34, god34, .func (PySem.W.fnOf "_law_is_fresh_told" "_law_is_fresh_told" (defArgs sFt) (defBody sFt) (defScope sFt) .none gkV34 gdc34 gpm34 gan34 gcd34 gct34), gsl34⟩)
    (gc34 : PySem.W.codeIn K gcd34 "_law_is_fresh_told" = true)
    (gk34 : PySem.W.keepIn K (.ref g34) = true)
    (ga35 : PySem.W.nsIn K mainGlobals "law" = some (some (.ref g35)))
    (gl35 : K.lookup g35 = some ⟨goc35, god35, .func (PySem.W.fnOf "law" "law" (defArgs sLaw89) (defBody sLaw89) (defScope sLaw89) .none gkV35 gdc35 gpm35 gan35 gcd35 gct35), gsl35⟩)
    (gc35 : PySem.W.codeIn K gcd35 "law" = true)
    (gk35 : PySem.W.keepIn K (.ref g35) = true)
    (tt4 : PySem.W.tabIn K "bearing_kinds" = some (c4, P4))
    (th4 : h.get? P4 = some (tabO #[]))
    (tc4 : PySem.W.codeHdIn K c4 P4 = true)
    (tn4 : (K.lookup P4).isNone = true)
    (tt8 : PySem.W.tabIn K "clean_kinds" = some (c8, P8))
    (th8 : h.get? P8 = some (tabO #[]))
    (tc8 : PySem.W.codeHdIn K c8 P8 = true)
    (tn8 : (K.lookup P8).isNone = true)
    (tt10 : PySem.W.tabIn K "able_kinds" = some (c10, P10))
    (th10 : h.get? P10 = some (tabO #[]))
    (tc10 : PySem.W.codeHdIn K c10 P10 = true)
    (tn10 : (K.lookup P10).isNone = true)
    (np4_8 : decide (P4 ≠ P8) = true)
    (np4_10 : decide (P4 ≠ P10) = true)
    (np8_10 : decide (P8 ≠ P10) = true)
    (nN : PySem.W.nsIn K mainGlobals "NEVER" = some (some (.int 2000000 tN)))
    (nA : PySem.W.nsIn K mainGlobals "ALWAYS" = some (some (.int (-1000000) tA)))
    (aC : PySem.W.nsIn K mainGlobals "Changes" = some (some (.ref CC)))
    (ma0 : PySem.W.findIn K (.ref CC) "__init__" = some (some (.ref m0)))
    (mi0 : PySem.W.isFn K (.ref m0) = true)
    (ml0 : K.lookup m0 = some ⟨moc0, mod0, .func (PySem.W.fnOf "__init__" "Changes.__init__" (defArgs sChI) (defBody sChI) (defScope sChI) .none mkV0 mdc0 mpm0 man0 mcd0 mct0), msl0⟩)
    (mc0 : PySem.W.codeIn K mcd0 "Changes.__init__" = true)
    (mk0 : PySem.W.keepIn K (.ref m0) = true)
    (ma1 : PySem.W.findIn K (.ref CC) "grounds_of" = some (some (.ref m1)))
    (mi1 : PySem.W.isFn K (.ref m1) = true)
    (ml1 : K.lookup m1 = some ⟨moc1, mod1, .func (PySem.W.fnOf "grounds_of" "Changes.grounds_of" (defArgs sGof) (defBody sGof) (defScope sGof) .none mkV1 mdc1 mpm1 man1 mcd1 mct1), msl1⟩)
    (mc1 : PySem.W.codeIn K mcd1 "Changes.grounds_of" = true)
    (mk1 : PySem.W.keepIn K (.ref m1) = true)
    (ma2 : PySem.W.findIn K (.ref CC) "all_live" = some (some (.ref m2)))
    (mi2 : PySem.W.isFn K (.ref m2) = true)
    (ml2 : K.lookup m2 = some ⟨moc2, mod2, .func (PySem.W.fnOf "all_live" "Changes.all_live" (defArgs sAllL) (defBody sAllL) (defScope sAllL) .none mkV2 mdc2 mpm2 man2 mcd2 mct2), msl2⟩)
    (mc2 : PySem.W.codeIn K mcd2 "Changes.all_live" = true)
    (mk2 : PySem.W.keepIn K (.ref m2) = true)
    (cpg : PySem.W.plainGet K CC Str.empty = true)
    (chd : PySem.W.hasDictIn K CC = true)
    (cpo : PySem.W.plainOver K CC = true)
    (csa : PySem.W.findIn K (.ref CC) "__setattr__" = some (some (.builtin "object.__setattr__")))
    (cmk : PySem.W.makesIn K CC = true)
    (ckc : PySem.W.keepIn K (.ref CC) = true)
    (cn_rulebook : PySem.W.findIn K (.ref CC) "rulebook" = some none)
    (cn_struck : PySem.W.findIn K (.ref CC) "struck" = some none)
    (cn_live : PySem.W.findIn K (.ref CC) "live" = some none)
    (cn_able : PySem.W.findIn K (.ref CC) "able" = some none)
    (cn_starts : PySem.W.findIn K (.ref CC) "starts" = some none)
    (cn_settled : PySem.W.findIn K (.ref CC) "settled" = some none)
    (cn_keeps : PySem.W.findIn K (.ref CC) "keeps" = some none)
    (B2 : wrB K C0 "NoKind" = true) :
    LawG l w K 13 63 "script" mg fa h := by
  have e := hfa.symm.trans (PySem.W.mg_of X Gm ga35)
  cases e
  have TB : TxtB mg := ⟨PySem.W.mg_none_of X Gm babs, PySem.W.mg_none_of X Gm blen, PySem.W.mg_none_of X Gm bint, PySem.W.mg_none_of X Gm brepr, PySem.W.mg_none_of X Gm bisinstance, PySem.W.mg_none_of X Gm brange, PySem.W.mg_none_of X Gm blist, PySem.W.mg_none_of X Gm bValueError⟩
  have TC : TxtC mg := ⟨TB, PySem.W.mg_none_of X Gm btuple, PySem.W.mg_none_of X Gm bsorted, PySem.W.mg_none_of X Gm bset, PySem.W.mg_none_of X Gm bdict⟩
  have henumerate : mg "enumerate" = none := PySem.W.mg_none_of X Gm benumerate
  have hany : mg "any" = none := PySem.W.mg_none_of X Gm bany
  have hall : mg "all" = none := PySem.W.mg_none_of X Gm ball
  have hlen : mg "len" = none := PySem.W.mg_none_of X Gm blen
  have ch4 := PySem.W.codeHd_of_K X tc4
  have ch8 := PySem.W.codeHd_of_K X tc8
  have ch10 := PySem.W.codeHd_of_K X tc10
  have nq4_8 : P4 ≠ P8 := of_decide_eq_true np4_8
  have nq4_10 : P4 ≠ P10 := of_decide_eq_true np4_10
  have nq8_10 : P8 ≠ P10 := of_decide_eq_true np8_10
  have V0 := fun_mk (st := sKindOf) gl0 gc0 gk0
  have V1 := fun_mk (st := sKindNames) gl1 gc1 gk1
  have V2 := fun_mk (st := sGrown) gl2 gc2 gk2
  have V3 := fun_mk (st := sIsLive) gl3 gc3 gk3
  have V4 := fun_mk (st := sBear) gl4 gc4 gk4
  have V5 := fun_mk (st := sLiveIx) gl5 gc5 gk5
  have V6 := fun_mk (st := sIsForced) gl6 gc6 gk6
  have V7 := fun_mk (st := sForcedPl) gl7 gc7 gk7
  have V8 := fun_mk (st := sClean) gl8 gc8 gk8
  have V9 := fun_mk (st := sPlacesOn) gl9 gc9 gk9
  have V10 := fun_mk (st := sAble) gl10 gc10 gk10
  have V11 := fun_mk (st := sDayN) gl11 gc11 gk11
  have V12 := fun_mk (st := sStarts) gl12 gc12 gk12
  have V13 := fun_mk (st := sFresh) gl13 gc13 gk13
  have V14 := fun_mk (st := sBag) gl14 gc14 gk14
  have V15 := fun_mk (st := sTake) gl15 gc15 gk15
  have V16 := fun_mk (st := sSome) gl16 gc16 gk16
  have V17 := fun_mk (st := sAlike) gl17 gc17 gk17
  have V18 := fun_mk (st := sMixed) gl18 gc18 gk18
  have V19 := fun_mk (st := sNamed) gl19 gc19 gk19
  have V20 := fun_mk (st := sNumbers) gl20 gc20 gk20
  have V21 := fun_mk (st := sNeed) gl21 gc21 gk21
  have V22 := fun_mk (st := sGround) gl22 gc22 gk22
  have V23 := fun_mk (st := sAny) gl23 gc23 gk23
  have V24 := fun_mk (st := sPlanted) gl24 gc24 gk24
  have V25 := fun_mk (st := sMore) gl25 gc25 gk25
  have V26 := fun_mk (st := sThreaded) gl26 gc26 gk26
  have V27 := fun_mk (st := sRulebook) gl27 gc27 gk27
  have V28 := fun_mk (st := sKindsO) gl28 gc28 gk28
  have V29 := fun_mk (st := sLBear) gl29 gc29 gk29
  have V30 := fun_mk (st := sIsMet) gl30 gc30 gk30
  have V31 := fun_mk (st := sLLive) gl31 gc31 gk31
  have V32 := fun_mk (st := sLClean) gl32 gc32 gk32
  have V33 := fun_mk (st := sLF) gl33 gc33 gk33
  have V34 := fun_mk (st := sFt) gl34 gc34 gk34
  have V35 := fun_mk (st := sLaw89) gl35 gc35 gk35
  have W0 := V0.binds (ps := ["rulebook", "name"]) fun _ _ _ _ _ _ us hl => match us, hl with | [_, _], _ => rfl
  have W1 := V1.binds (ps := ["rulebook"]) fun _ _ _ _ _ _ us hl => match us, hl with | [_], _ => rfl
  have W2 := V2.binds (ps := ["names", "joins"]) fun _ _ _ _ _ _ us hl => match us, hl with | [_, _], _ => rfl
  have W3 := V3.binds (ps := ["rulebook", "ground", "bearing"]) fun _ _ _ _ _ _ us hl => match us, hl with | [_, _, _], _ => rfl
  have W4 := V4.binds (ps := ["rulebook"]) fun _ _ _ _ _ _ us hl => match us, hl with | [_], _ => rfl
  have W5 := V5.binds (ps := ["rulebook"]) fun _ _ _ _ _ _ us hl => match us, hl with | [_], _ => rfl
  have W6 := V6.binds (ps := ["struck", "clean", "need"]) fun _ _ _ _ _ _ us hl => match us, hl with | [_, _, _], _ => rfl
  have W7 := V7.binds (ps := ["struck", "clean", "ground"]) fun _ _ _ _ _ _ us hl => match us, hl with | [_, _, _], _ => rfl
  have W8 := V8.binds (ps := ["rulebook", "struck"]) fun _ _ _ _ _ _ us hl => match us, hl with | [_, _], _ => rfl
  have W9 := V9.binds (ps := ["ground", "kinds"]) fun _ _ _ _ _ _ us hl => match us, hl with | [_, _], _ => rfl
  have W10 := V10.binds (ps := ["rulebook", "struck"]) fun _ _ _ _ _ _ us hl => match us, hl with | [_, _], _ => rfl
  have W11 := V11.binds (ps := ["starts", "need"]) fun _ _ _ _ _ _ us hl => match us, hl with | [_, _], _ => rfl
  have W12 := V12.binds (ps := ["rulebook", "struck", "live"]) fun _ _ _ _ _ _ us hl => match us, hl with | [_, _, _], _ => rfl
  have W13 := V13.binds (ps := ["rulebook", "struck", "name"]) fun _ _ _ _ _ _ us hl => match us, hl with | [_, _, _], _ => rfl
  have W14 := V14.binds (ps := ["script"]) fun _ _ _ _ _ _ us hl => match us, hl with | [_], _ => rfl
  have W15 := V15.binds (ps := ["bag", "upto"]) fun _ _ _ _ _ _ us hl => match us, hl with | [_, _], _ => rfl
  have W16 := V16.binds (ps := ["bag", "things"]) fun _ _ _ _ _ _ us hl => match us, hl with | [_, _], _ => rfl
  have W17 := V17.binds (ps := ["found", "due"]) fun _ _ _ _ _ _ us hl => match us, hl with | [_, _], _ => rfl
  have W18 := V18.binds (ps := ["bag", "things"]) fun _ _ _ _ _ _ us hl => match us, hl with | [_, _], _ => rfl
  have W19 := V19.binds (ps := ["bag", "many"]) fun _ _ _ _ _ _ us hl => match us, hl with | [_, _], _ => rfl
  have W20 := V20.binds (ps := ["bag"]) fun _ _ _ _ _ _ us hl => match us, hl with | [_], _ => rfl
  have W21 := V21.binds (ps := ["bag", "rows", "names"]) fun _ _ _ _ _ _ us hl => match us, hl with | [_, _, _], _ => rfl
  have W22 := V22.binds (ps := ["bag", "rows", "names"]) fun _ _ _ _ _ _ us hl => match us, hl with | [_, _, _], _ => rfl
  have W23 := V23.binds (ps := ["bag", "kinds", "rows"]) fun _ _ _ _ _ _ us hl => match us, hl with | [_, _, _], _ => rfl
  have W24 := V24.binds (ps := ["bag", "sort", "kinds"]) fun _ _ _ _ _ _ us hl => match us, hl with | [_, _, _], _ => rfl
  have W25 := V25.binds (ps := ["bag", "sort", "rows"]) fun _ _ _ _ _ _ us hl => match us, hl with | [_, _, _], _ => rfl
  have W26 := V26.binds (ps := ["bag", "kinds"]) fun _ _ _ _ _ _ us hl => match us, hl with | [_, _], _ => rfl
  have W27 := V27.binds (ps := ["bag", "kinds"]) fun _ _ _ _ _ _ us hl => match us, hl with | [_, _], _ => rfl
  have W28 := V28.binds (ps := ["rulebook"]) fun _ _ _ _ _ _ us hl => match us, hl with | [_], _ => rfl
  have W29 := V29.binds (ps := ["rulebook"]) fun _ _ _ _ _ _ us hl => match us, hl with | [_], _ => rfl
  have W30 := V30.binds (ps := ["kinds", "found", "ground"]) fun _ _ _ _ _ _ us hl => match us, hl with | [_, _, _], _ => rfl
  have W31 := V31.binds (ps := ["rulebook"]) fun _ _ _ _ _ _ us hl => match us, hl with | [_], _ => rfl
  have W32 := V32.binds (ps := ["rulebook", "struck"]) fun _ _ _ _ _ _ us hl => match us, hl with | [_, _], _ => rfl
  have W33 := V33.binds (ps := ["rulebook", "struck"]) fun _ _ _ _ _ _ us hl => match us, hl with | [_, _], _ => rfl
  have W34 := V34.binds (ps := ["bag", "rulebook", "struck"]) fun _ _ _ _ _ _ us hl => match us, hl with | [_, _, _], _ => rfl
  have W35 := V35.binds (ps := ["script"]) fun _ _ _ _ _ _ us hl => match us, hl with | [_], _ => rfl
  have VM0 := fun_mk (st := sChI) ml0 mc0 mk0
  have WM0 := VM0.binds (ps := ["self", "rulebook", "struck"]) fun _ _ _ _ _ _ us hl => match us, hl with | [_, _, _], _ => rfl
  have VM1 := fun_mk (st := sGof) ml1 mc1 mk1
  have WM1 := VM1.binds (ps := ["self", "name"]) fun _ _ _ _ _ _ us hl => match us, hl with | [_, _], _ => rfl
  have VM2 := fun_mk (st := sAllL) ml2 mc2 mk2
  have WM2 := VM2.binds (ps := ["self"]) fun _ _ _ _ _ _ us hl => match us, hl with | [_], _ => rfl
  have NV : NvT mg := ⟨⟨_, PySem.W.mg_of X Gm nN, tN, rfl⟩, ⟨_, PySem.W.mg_of X Gm nA, tA, rfl⟩, PySem.W.mg_none_of X Gm bmax, PySem.W.mg_none_of X Gm bmin⟩
  have ZC : ChT K mg CC := ⟨⟨cpg, chd, cpo, csa⟩, cn_rulebook, cn_struck, cn_live, cn_able, cn_starts, cn_settled, cn_keeps, PySem.W.mg_of X Gm aC⟩
  have wr : WrK K C0 "NoKind" := wrB_ok B2
  let T : List NTab := [(P4, fun _ _ => qJB), (P8, fun _ _ => qJC), (P10, fun _ _ => qJA)]
  refine ⟨PySem.W.fnOf "law" "law" (defArgs sLaw89) (defBody sLaw89) (defScope sLaw89) .none gkV35 gdc35 gpm35 gan35 gcd35 gct35, [(c4, P4), (c8, P8), (c10, P10)], spLaw T K, fun p hp => ?_, fun p hp => ?_, fun p hp => ?_, fun s u => .of_eq rfl, fun H a ns hn hH hS => ⟨a, ns, rfl, hS, hn, fun p hp => ?_, fun _ => rfl⟩, fun base _ _ hTB => ?_⟩
  · simp only [List.mem_cons, List.mem_nil_iff, or_false] at hp
    rcases hp with rfl | rfl | rfl
    · exact th4
    · exact th8
    · exact th10
  · simp only [List.mem_cons, List.mem_nil_iff, or_false] at hp
    rcases hp with rfl | rfl | rfl
    · exact Option.isNone_iff_eq_none.mp tn4
    · exact Option.isNone_iff_eq_none.mp tn8
    · exact Option.isNone_iff_eq_none.mp tn10
  · simp only [List.mem_cons, List.mem_nil_iff, or_false] at hp
    rcases hp with rfl | rfl | rfl
    · exact ch4
    · exact ch8
    · exact ch10
  · simp only [T, List.mem_cons, List.mem_nil_iff, or_false] at hp
    rcases hp with rfl | rfl | rfl
    · exact TabN.nil (hH (c4, P4) (by simp))
    · exact TabN.nil (hH (c8, P8) (by simp))
    · exact TabN.nil (hH (c10, P10) (by simp))
  have TT4 : TbOk base mg T c4 P4 qJB := ⟨hTB (c4, P4) (by simp), by simp [T], fun p hp e => by
    simp only [T, List.mem_cons, List.mem_nil_iff, or_false] at hp
    rcases hp with rfl | rfl | rfl
    · rfl
    · exact absurd e nq4_8.symm
    · exact absurd e nq4_10.symm⟩
  have TT8 : TbOk base mg T c8 P8 qJC := ⟨hTB (c8, P8) (by simp), by simp [T], fun p hp e => by
    simp only [T, List.mem_cons, List.mem_nil_iff, or_false] at hp
    rcases hp with rfl | rfl | rfl
    · exact absurd e nq4_8
    · rfl
    · exact absurd e nq8_10.symm⟩
  have TT10 : TbOk base mg T c10 P10 qJA := ⟨hTB (c10, P10) (by simp), by simp [T], fun p hp e => by
    simp only [T, List.mem_cons, List.mem_nil_iff, or_false] at hp
    rcases hp with rfl | rfl | rfl
    · exact absurd e nq4_10
    · exact absurd e nq8_10
    · rfl⟩
  have Cko : Ct l.prog w K mg base "kind_of" 1 ["rulebook", "name"] spKindN g0 _ := ⟨ok_kindN V0, PySem.W.mg_of X Gm ga0, gk0, W0⟩
  have Ckn : Ct l.prog w K mg base "kind_names" 1 ["rulebook"] spKindNames g1 _ := ⟨ok_kindNames V1, PySem.W.mg_of X Gm ga1, gk1, W1⟩
  have Cil : Ct l.prog w K mg base "_is_live" 2 ["rulebook", "ground", "bearing"] spIsLive g3 _ := ⟨ok_isLive V3 hall Cko, PySem.W.mg_of X Gm ga3, gk3, W3⟩
  have Cgw : Ct l.prog w K mg base "_grown" 4 ["names", "joins"] (spGrown l.prog w K mg base 3) g2 _ := ⟨ok_grown V2 TC, PySem.W.mg_of X Gm ga2, gk2, W2⟩
  have Cbe : Ct l.prog w K mg base "bearing_kinds" 5 ["rulebook"] (spBear T) g4 _ := ⟨ok_bear V4 rfl TT4 TC hany Cko Cil Ckn Cgw, PySem.W.mg_of X Gm ga4, gk4, W4⟩
  have Cli : Ct l.prog w K mg base "live_indexes" 6 ["rulebook"] (spLiveIx T) g5 _ := ⟨ok_liveIx V5 henumerate Cbe Cil, PySem.W.mg_of X Gm ga5, gk5, W5⟩
  have Cif : Ct l.prog w K mg base "_is_forced" 1 ["struck", "clean", "need"] spIsForced g6 _ := ⟨ok_isForced V6, PySem.W.mg_of X Gm ga6, gk6, W6⟩
  have Cfp : Ct l.prog w K mg base "_forced_places" 2 ["struck", "clean", "ground"] spForcedPl g7 _ := ⟨ok_forcedPl V7 henumerate Cif, PySem.W.mg_of X Gm ga7, gk7, W7⟩
  have Cck : Ct l.prog w K mg base "clean_kinds" 7 ["rulebook", "struck"] (spClean T) g8 _ := ⟨ok_clean V8 rfl TT8 TC hany Cko Cfp Ckn Cli Cgw, PySem.W.mg_of X Gm ga8, gk8, W8⟩
  have Cpo : Ct l.prog w K mg base "_places_on" 1 ["ground", "kinds"] spPlacesOn g9 _ := ⟨ok_placesOn V9 henumerate, PySem.W.mg_of X Gm ga9, gk9, W9⟩
  have Cak : Ct l.prog w K mg base "able_kinds" 8 ["rulebook", "struck"] (spAble T) g10 _ := ⟨ok_able V10 rfl TT10 TC hany hlen Cko Cfp Cpo Ckn Cli Cck Cgw, PySem.W.mg_of X Gm ga10, gk10, W10⟩
  have Cdn : Ct l.prog w K mg base "day_of_need" 1 ["starts", "need"] spDayN g11 _ := ⟨ok_dayN V11 NV, PySem.W.mg_of X Gm ga11, gk11, W11⟩
  have Cst : Ct l.prog w K mg base "_starts_of" 8 ["rulebook", "struck", "live"] (spStarts T) g12 _ := ⟨ok_starts V12 NV Cck Cko Cdn, PySem.W.mg_of X Gm ga12, gk12, W12⟩
  have MG1 : FnOk l.prog w K mg base CX0 2 m1 _ ["self", "name"] (spGof CC) := ok_gof VM1 ZC Cko
  have MG2 : FnOk l.prog w K mg base CX0 3 m2 _ ["self"] (spAllL CC) := ok_allL VM2 ZC MG1 ⟨ma1, mi1, mk1⟩ WM1
  have MG0 : FnOk l.prog w K mg base CX0 9 m0 _ ["self", "rulebook", "struck"] (spChI CC T) := ok_chI VM0 ZC NV Cli Cak Cst Cdn MG2 ⟨ma2, mi2, mk2⟩ WM2
  have Cfr : Ct l.prog w K mg base "fresh_from" 11 ["rulebook", "struck", "name"] (spFresh T) g13 _ := ⟨ok_fresh V13 ZC NV ⟨cmk, ma0, mi0, ckc⟩ MG0 WM0, PySem.W.mg_of X Gm ga13, gk13, W13⟩
  have Cbg : Ct l.prog w K mg base "_law_bag" 1 ["script"] (spBag K) g14 _ := ⟨ok_bag V14 TB, PySem.W.mg_of X Gm ga14, gk14, W14⟩
  have Ctk : Ct l.prog w K mg base "_law_take" 1 ["bag", "upto"] spTake g15 _ := ⟨ok_take V15 TB, PySem.W.mg_of X Gm ga15, gk15, W15⟩
  have Cso : Ct l.prog w K mg base "_law_some" 2 ["bag", "things"] spSome g16 _ := ⟨ok_some V16 TB Ctk, PySem.W.mg_of X Gm ga16, gk16, W16⟩
  have Cs2 : Ct l.prog w K mg base "_law_some" 2 ["bag", "things"] spSome2 g16 _ := ⟨ok_some2 V16 TB Ctk, PySem.W.mg_of X Gm ga16, gk16, W16⟩
  have Cmx : Ct l.prog w K mg base "_law_mixed" 2 ["bag", "things"] spMixed g18 _ := ⟨ok_mixed V18 TB Ctk, PySem.W.mg_of X Gm ga18, gk18, W18⟩
  have Cnm : Ct l.prog w K mg base "_law_named" 3 ["bag", "many"] spNamed g19 _ := ⟨ok_named V19 TC Cmx, PySem.W.mg_of X Gm ga19, gk19, W19⟩
  have Cnb : Ct l.prog w K mg base "_law_numbers" 3 ["bag"] spNumbers g20 _ := ⟨ok_numbers V20 Cs2 Ctk, PySem.W.mg_of X Gm ga20, gk20, W20⟩
  have Cnd : Ct l.prog w K mg base "_law_need" 4 ["bag", "rows", "names"] spNeed g21 _ := ⟨ok_need V21 Cnb Cs2 Ctk, PySem.W.mg_of X Gm ga21, gk21, W21⟩
  have Cgr : Ct l.prog w K mg base "_law_ground" 5 ["bag", "rows", "names"] spGround g22 _ := ⟨ok_ground V22 TC Cnd Cs2, PySem.W.mg_of X Gm ga22, gk22, W22⟩
  have Can : Ct l.prog w K mg base "_law_any_rulebook" 6 ["bag", "kinds", "rows"] spAny g23 _ := ⟨ok_any V23 TC Cnm Cgr Cs2 Ctk, PySem.W.mg_of X Gm ga23, gk23, W23⟩
  have Cmo : Ct l.prog w K mg base "_law_more_needs" 3 ["bag", "sort", "rows"] spMore g25 _ := ⟨ok_more V25 Cs2 Ctk, PySem.W.mg_of X Gm ga25, gk25, W25⟩
  have Cpl : Ct l.prog w K mg base "_law_planted" 6 ["bag", "sort", "kinds"] spPl g24 _ := ⟨ok_pl V24 TC Cnm Cgr Cmo Cs2 Ctk, PySem.W.mg_of X Gm ga24, gk24, W24⟩
  have Cth : Ct l.prog w K mg base "_law_threaded" 6 ["bag", "kinds"] spTh g26 _ := ⟨ok_th V26 TC Cnm Cmx Cs2 Ctk, PySem.W.mg_of X Gm ga26, gk26, W26⟩
  have Crb : Ct l.prog w K mg base "_law_rulebook" 7 ["bag", "kinds"] spRbS g27 _ := ⟨ok_rbS V27 TC Cmx Cs2 Ctk Can Cpl Cth, PySem.W.mg_of X Gm ga27, gk27, W27⟩
  have Cks : Ct l.prog w K mg base "_law_kinds_of" 1 ["rulebook"] spKindsO g28 _ := ⟨ok_kindsO V28 TC, PySem.W.mg_of X Gm ga28, gk28, W28⟩
  have Cim : Ct l.prog w K mg base "_law_is_met" 1 ["kinds", "found", "ground"] spIsMet g30 _ := ⟨ok_isMet V30, PySem.W.mg_of X Gm ga30, gk30, W30⟩
  have Clb : Ct l.prog w K mg base "_law_bearing" 2 ["rulebook"] spLBear g29 _ := ⟨ok_lBear V29 TC Cks Cim, PySem.W.mg_of X Gm ga29, gk29, W29⟩
  have Cll : Ct l.prog w K mg base "_law_live" 3 ["rulebook"] spLLive g31 _ := ⟨ok_lLive V31 TC Cks Cim Clb, PySem.W.mg_of X Gm ga31, gk31, W31⟩
  have Clc : Ct l.prog w K mg base "_law_clean" 4 ["rulebook", "struck"] spLClean g32 _ := ⟨ok_lClean V32 TC Cks Cll, PySem.W.mg_of X Gm ga32, gk32, W32⟩
  have Clf : Ct l.prog w K mg base "_law_fresh" 5 ["rulebook", "struck"] spLF g33 _ := ⟨ok_LF V33 TC NV Cks Cll Clc, PySem.W.mg_of X Gm ga33, gk33, W33⟩
  have Z : FtT l.prog w K mg base T C0 "NoKind" := ⟨TC, wr, ⟨_, _, Clf⟩, ⟨_, _, Cmx⟩, ⟨_, _, Cfr⟩, ⟨_, _, Cck⟩, ⟨_, _, Cbe⟩, ⟨_, _, ok_alikeD V17 TB wr, PySem.W.mg_of X Gm ga17, gk17, W17⟩⟩
  have Crt : GnG true l.prog w K mg base "_law_is_fresh_told" 12 ["bag", "rulebook", "struck"] (spFt T) g34 _ := ⟨ok_Ft V34 Z, PySem.W.mg_of X Gm ga34, gk34, W34⟩
  exact ok_law89 V35 TC Cbg Crb Ctk Cmx Crt
end
end KaG
open PySem PySem.W PyProof.Rows
set_option maxRecDepth 100000 in
set_option maxHeartbeats 0 in
theorem PySem.Challenge.cw_goneyet_k89_from_when_answers_are_fresh_holds : PySem.Challenge.rw_goneyet_k89_from_when_answers_are_fresh.Holds := by
  w_on; o_law; k_head; (case hw => w_witness2)
  k_fill
  refine KaG.walk_GT (l := PySem.Challenge.rw_goneyet_k89_from_when_answers_are_fresh) (n := 63) (k := 13) (x := "script") rfl (by decide) rfl ⟨rfl, by decide, by decide⟩ (fun w h Y => PySem.W.km_in_of Y) ?F
  case F =>
    intro w mg fa h Y KX G hmg
    refine' KaG.all_mk KX G hmg ?babs ?blen ?bint ?brepr ?bisinstance ?brange ?blist ?bValueError ?btuple ?bsorted ?bset ?bdict ?benumerate ?bany ?ball ?bmin ?bmax ?a0 ?ga0 ?gl0 ?gc0 ?gk0 ?ga1 ?gl1 ?gc1 ?gk1 ?ga2 ?gl2 ?gc2 ?gk2 ?ga3 ?gl3 ?gc3 ?gk3 ?ga4 ?gl4 ?gc4 ?gk4 ?ga5 ?gl5 ?gc5 ?gk5 ?ga6 ?gl6 ?gc6 ?gk6 ?ga7 ?gl7 ?gc7 ?gk7 ?ga8 ?gl8 ?gc8 ?gk8 ?ga9 ?gl9 ?gc9 ?gk9 ?ga10 ?gl10 ?gc10 ?gk10 ?ga11 ?gl11 ?gc11 ?gk11 ?ga12 ?gl12 ?gc12 ?gk12 ?ga13 ?gl13 ?gc13 ?gk13 ?ga14 ?gl14 ?gc14 ?gk14 ?ga15 ?gl15 ?gc15 ?gk15 ?ga16 ?gl16 ?gc16 ?gk16 ?ga17 ?gl17 ?gc17 ?gk17 ?ga18 ?gl18 ?gc18 ?gk18 ?ga19 ?gl19 ?gc19 ?gk19 ?ga20 ?gl20 ?gc20 ?gk20 ?ga21 ?gl21 ?gc21 ?gk21 ?ga22 ?gl22 ?gc22 ?gk22 ?ga23 ?gl23 ?gc23 ?gk23 ?ga24 ?gl24 ?gc24 ?gk24 ?ga25 ?gl25 ?gc25 ?gk25 ?ga26 ?gl26 ?gc26 ?gk26 ?ga27 ?gl27 ?gc27 ?gk27 ?ga28 ?gl28 ?gc28 ?gk28 ?ga29 ?gl29 ?gc29 ?gk29 ?ga30 ?gl30 ?gc30 ?gk30 ?ga31 ?gl31 ?gc31 ?gk31 ?ga32 ?gl32 ?gc32 ?gk32 ?ga33 ?gl33 ?gc33 ?gk33 ?ga34 ?gl34 ?gc34 ?gk34 ?ga35 ?gl35 ?gc35 ?gk35 ?tt4 ?th4 ?tc4 ?tn4 ?tt8 ?th8 ?tc8 ?tn8 ?tt10 ?th10 ?tc10 ?tn10 ?np4_8 ?np4_10 ?np8_10 ?nN ?nA ?aC ?ma0 ?mi0 ?ml0 ?mc0 ?mk0 ?ma1 ?mi1 ?ml1 ?mc1 ?mk1 ?ma2 ?mi2 ?ml2 ?mc2 ?mk2 ?cpg ?chd ?cpo ?csa ?cmk ?ckc ?cn_rulebook ?cn_struck ?cn_live ?cn_able ?cn_starts ?cn_settled ?cn_keeps ?B2
    (case babs => k_is)
    (case blen => k_is)
    (case bint => k_is)
    (case brepr => k_is)
    (case bisinstance => k_is)
    (case brange => k_is)
    (case blist => k_is)
    (case bValueError => k_is)
    (case btuple => k_is)
    (case bsorted => k_is)
    (case bset => k_is)
    (case bdict => k_is)
    (case benumerate => k_is)
    (case bany => k_is)
    (case ball => k_is)
    (case bmin => k_is)
    (case bmax => k_is)
    (case a0 => k_is)
    (case ga0 => k_is)
    (case gl0 => k_is)
    (case gc0 => k_is)
    (case gk0 => k_is)
    (case ga1 => k_is)
    (case gl1 => k_is)
    (case gc1 => k_is)
    (case gk1 => k_is)
    (case ga2 => k_is)
    (case gl2 => k_is)
    (case gc2 => k_is)
    (case gk2 => k_is)
    (case ga3 => k_is)
    (case gl3 => k_is)
    (case gc3 => k_is)
    (case gk3 => k_is)
    (case ga4 => k_is)
    (case gl4 => k_is)
    (case gc4 => k_is)
    (case gk4 => k_is)
    (case ga5 => k_is)
    (case gl5 => k_is)
    (case gc5 => k_is)
    (case gk5 => k_is)
    (case ga6 => k_is)
    (case gl6 => k_is)
    (case gc6 => k_is)
    (case gk6 => k_is)
    (case ga7 => k_is)
    (case gl7 => k_is)
    (case gc7 => k_is)
    (case gk7 => k_is)
    (case ga8 => k_is)
    (case gl8 => k_is)
    (case gc8 => k_is)
    (case gk8 => k_is)
    (case ga9 => k_is)
    (case gl9 => k_is)
    (case gc9 => k_is)
    (case gk9 => k_is)
    (case ga10 => k_is)
    (case gl10 => k_is)
    (case gc10 => k_is)
    (case gk10 => k_is)
    (case ga11 => k_is)
    (case gl11 => k_is)
    (case gc11 => k_is)
    (case gk11 => k_is)
    (case ga12 => k_is)
    (case gl12 => k_is)
    (case gc12 => k_is)
    (case gk12 => k_is)
    (case ga13 => k_is)
    (case gl13 => k_is)
    (case gc13 => k_is)
    (case gk13 => k_is)
    (case ga14 => k_is)
    (case gl14 => k_is)
    (case gc14 => k_is)
    (case gk14 => k_is)
    (case ga15 => k_is)
    (case gl15 => k_is)
    (case gc15 => k_is)
    (case gk15 => k_is)
    (case ga16 => k_is)
    (case gl16 => k_is)
    (case gc16 => k_is)
    (case gk16 => k_is)
    (case ga17 => k_is)
    (case gl17 => k_is)
    (case gc17 => k_is)
    (case gk17 => k_is)
    (case ga18 => k_is)
    (case gl18 => k_is)
    (case gc18 => k_is)
    (case gk18 => k_is)
    (case ga19 => k_is)
    (case gl19 => k_is)
    (case gc19 => k_is)
    (case gk19 => k_is)
    (case ga20 => k_is)
    (case gl20 => k_is)
    (case gc20 => k_is)
    (case gk20 => k_is)
    (case ga21 => k_is)
    (case gl21 => k_is)
    (case gc21 => k_is)
    (case gk21 => k_is)
    (case ga22 => k_is)
    (case gl22 => k_is)
    (case gc22 => k_is)
    (case gk22 => k_is)
    (case ga23 => k_is)
    (case gl23 => k_is)
    (case gc23 => k_is)
    (case gk23 => k_is)
    (case ga24 => k_is)
    (case gl24 => k_is)
    (case gc24 => k_is)
    (case gk24 => k_is)
    (case ga25 => k_is)
    (case gl25 => k_is)
    (case gc25 => k_is)
    (case gk25 => k_is)
    (case ga26 => k_is)
    (case gl26 => k_is)
    (case gc26 => k_is)
    (case gk26 => k_is)
    (case ga27 => k_is)
    (case gl27 => k_is)
    (case gc27 => k_is)
    (case gk27 => k_is)
    (case ga28 => k_is)
    (case gl28 => k_is)
    (case gc28 => k_is)
    (case gk28 => k_is)
    (case ga29 => k_is)
    (case gl29 => k_is)
    (case gc29 => k_is)
    (case gk29 => k_is)
    (case ga30 => k_is)
    (case gl30 => k_is)
    (case gc30 => k_is)
    (case gk30 => k_is)
    (case ga31 => k_is)
    (case gl31 => k_is)
    (case gc31 => k_is)
    (case gk31 => k_is)
    (case ga32 => k_is)
    (case gl32 => k_is)
    (case gc32 => k_is)
    (case gk32 => k_is)
    (case ga33 => k_is)
    (case gl33 => k_is)
    (case gc33 => k_is)
    (case gk33 => k_is)
    (case ga34 => k_is)
    (case gl34 => k_is)
    (case gc34 => k_is)
    (case gk34 => k_is)
    (case ga35 => k_is)
    (case gl35 => k_is)
    (case gc35 => k_is)
    (case gk35 => k_is)
    (case tt4 => first | k_is | rfl)
    (case th4 => exact PySem.W.km_tabs_of Y _ (by first | decide | simp))
    (case tc4 => first | kernel_rfl | decide +kernel)
    (case tn4 => first | kernel_rfl | decide +kernel)
    (case tt8 => first | k_is | rfl)
    (case th8 => exact PySem.W.km_tabs_of Y _ (by first | decide | simp))
    (case tc8 => first | kernel_rfl | decide +kernel)
    (case tn8 => first | kernel_rfl | decide +kernel)
    (case tt10 => first | k_is | rfl)
    (case th10 => exact PySem.W.km_tabs_of Y _ (by first | decide | simp))
    (case tc10 => first | kernel_rfl | decide +kernel)
    (case tn10 => first | kernel_rfl | decide +kernel)
    (case np4_8 => first | kernel_rfl | decide +kernel)
    (case np4_10 => first | kernel_rfl | decide +kernel)
    (case np8_10 => first | kernel_rfl | decide +kernel)
    (case nN => k_is)
    (case nA => k_is)
    (case aC => k_is)
    (case ma0 => k_is)
    (case mi0 => k_is)
    (case ml0 => k_is)
    (case mc0 => k_is)
    (case mk0 => k_is)
    (case ma1 => k_is)
    (case mi1 => k_is)
    (case ml1 => k_is)
    (case mc1 => k_is)
    (case mk1 => k_is)
    (case ma2 => k_is)
    (case mi2 => k_is)
    (case ml2 => k_is)
    (case mc2 => k_is)
    (case mk2 => k_is)
    (case cpg => k_is)
    (case chd => k_is)
    (case cpo => k_is)
    (case csa => k_is)
    (case cmk => k_is)
    (case ckc => k_is)
    (case cn_rulebook => k_is)
    (case cn_struck => k_is)
    (case cn_live => k_is)
    (case cn_able => k_is)
    (case cn_starts => k_is)
    (case cn_settled => k_is)
    (case cn_keeps => k_is)
    (case B2 => first | kernel_rfl | decide +kernel)
