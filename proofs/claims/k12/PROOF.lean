import PyProof.Rows.All
import Wide.All
import OpenK.AllK
import Wide.FinOn
import HandS.ForMost
import KE.GoesMore
import KE.GoesEnum
import PyProof.ExcRepr
import PyProof.ReprReads
import KE.KExcStr
import HandS.ForExc
import HandS.ExcInit
import HandS.Wide
import HandS.Flow
import HandS.More
import PyProof.InstEq
import PyProof.CallFns
import PyProof.ReprRoads
import HandS.DeepEq
import HandS.Strs
import HandS.IsInst
import HandS.Exc
import HandS.ExcField
import HandS.WordsExc
import HandS.RaiseMore
import KE.KeyNested
import HandS.TupSets
import HandS.SetFor
import KE.SortData
import HandS.Words
import HandS.TupAny
import PySem.Challenge.RW_goneyet_k12_rulebooks_asked
set_option Elab.async false
set_option linter.all false
set_option maxRecDepth 100000
set_option maxHeartbeats 4000000
/-! enumerate(t), t a tuple -/
namespace KaC
open PySem PySem.Spec PyProof.Rows L2
theorem enum_newT (l : Addr) (items : Array Value) (n : Nat) (dct : Option Addr) (sl : Array (Option Value)) : Meets (Builtin.«enumerate.__new__» ⟨[.type "enumerate", .ref l], []⟩) (fun _ R s => s.heap.get? l = some { cls := .type "tuple", dict := dct, data := .seq items n, slots := sl } ∧
      R (.ok (.ret (.ref (s.heap.push { cls := .type "tuple_iterator", data := .fields #[.ref l, .int 0 0] }).objs.size))) { s with heap := (s.heap.push { cls := .type "tuple_iterator", data := .fields #[.ref l, .int 0 0] }).push { cls := .type "enumerate", data := .fields #[.none, .bool false, .ref s.heap.objs.size, rawInt 0, .none, .none] } }) :=
  .of_wp fun prog w A R s h => by
    obtain ⟨hp, g, d, tk, os⟩ := s
    obtain ⟨hl, h⟩ := h
    have hsub := sub_enumerate
    have hL : Heap.IsTuple (Shared.heap ⟨hp, g, d, tk, os⟩) l items := ⟨_, hl, rfl, n, rfl⟩
    wp_walk using AutoSeq1.wpAny_loadPart' hl
    refine wpAny_stack_any fun st => wpAny_pure ?_
    split
    · rename_i c _ _ _ _ _
      cases (c == Value.type "enumerate") <;> (wp_walk using AutoSeq1.wpAny_loadPart' hl, wpAny_pyIter_tuple hL) <;> exact ⟨_, rfl, h⟩
    · wp_walk using AutoSeq1.wpAny_loadPart' hl, wpAny_pyIter_tuple hL
      exact ⟨_, rfl, h⟩
theorem call_enumT {prog : Program} {w : World} {A : Around} {E : Value → Shared → Prop} {s : Shared} {l : Addr} {items : Array Value} {Q : Value → Shared → Prop} (hL : s.heap.IsTuple l items)
    (h : ∀ h', IsEnum h' (s.heap.objs.size + 1) s.heap.objs.size 0 .none → h'.IsTupleIter s.heap.objs.size l 0 → (∀ b o, s.heap.get? b = some o → h'.get? b = some o) → Q (.ref (s.heap.objs.size + 1)) { s with heap := h' }) :
    wpAny (model prog w) A (call (.type "enumerate") [.ref l]) Q E s := by
  obtain ⟨⟨c, dct, dt, sl⟩, hl, hc, n, hd⟩ := hL
  obtain rfl : c = .type "tuple" := hc
  obtain rfl : dt = .seq items n := hd
  refine callType_new F.called_enumerate (by decide) (F.typeCall_enumerate_1 _) (F.newCall_enumerate_1 _) (fun obj => F.args_object_init_2 obj _) F.entry_enumerate_new (enum_newT l items n dct sl) ⟨hl, ?_⟩
  have hz : (s.heap.push { cls := .type "tuple_iterator", data := .fields #[.ref l, .int 0 0] }).objs.size = s.heap.objs.size + 1 := Heap.size_push ..
  change _ ∧ _
  rw [hz]
  have he : IsEnum ((s.heap.push { cls := .type "tuple_iterator", data := .fields #[.ref l, .int 0 0] }).push { cls := .type "enumerate", data := .fields #[.none, .bool false, .ref s.heap.objs.size, rawInt 0, .none, .none] }) (s.heap.objs.size + 1) s.heap.objs.size 0 .none := by
    have q := Heap.get?_push_size (s.heap.push { cls := .type "tuple_iterator", data := .fields #[.ref l, .int 0 0] }) (o := { cls := .type "enumerate", data := .fields #[.none, .bool false, .ref s.heap.objs.size, rawInt 0, .none, .none] }) rfl
    rw [hz] at q; exact q
  exact ⟨⟨_, he, rfl⟩, h _ he ⟨_, Heap.get?_push_of_some _ (Heap.get?_push_size _ rfl), rfl, rfl⟩ fun b o x => Heap.get?_push_of_some _ (Heap.get?_push_of_some _ x)⟩
end KaC


set_option maxRecDepth 100000
set_option maxHeartbeats 4000000
namespace KaC
open PySem PySem.Spec PyProof.Rows L2
/-- the tuple at a, each item in a new pair -/
def ItT (K : PySem.W.Frag) (a : Addr) : It :=
  ⟨fun i H => ∃ (xs : List V) (x : V), SqT K H a xs ∧ xs[i]? = some x, fun i H v H' => ∃ T x, v = .ref T ∧ H T = none ∧ H' = upd H T (.tup [.int (i : Nat), x]) ∧ ∀ xs, SqT K H a xs → xs[i]? = some x, fun i H => ∃ xs : List V, SqT K H a xs ∧ xs.length ≤ i⟩
theorem cls_ne {h : Heap} {x y : Addr} {m n : String} (hmn : m ≠ n) (h1 : ∃ o, h.get? x = some o ∧ o.cls = .type m) (h2 : ∃ o, h.get? y = some o ∧ o.cls = .type n) : x ≠ y := fun z => by
  obtain ⟨o1, e1, c1⟩ := h1
  obtain ⟨o2, e2, c2⟩ := h2
  rw [z, e2] at e1
  cases e1
  rw [c2] at c1
  injection c1 with c1
  exact hmn c1.symm
theorem tup_inj {X : Cx} {pins : List (Addr × Obj)} {σ : L2.St} {H : Hp} {s : Shared} {a : Addr} {xs ys : List V} (I : Inv X pins σ H s) (h1 : SqT X.K H a xs) (h2 : SqT X.K H a ys) : xs = ys := I.tuple_inj h1 h2
theorem turn_enumT {P : Program} {w : World} {K : PySem.W.Frag} {elts : List Expr} {kk : Nat} {tpos : Pos} (a e it : Addr) : Turn P w K (.Tuple elts kk tpos) (ItT K a) [e, it] e (fun i h => (∃ old, IsEnum h e it ((i : Nat) : Int) old) ∧ h.IsTupleIter it a i ∧ e ≠ it) where
  mem := List.mem_cons_self ..
  obj := fun i h st b hb => by
    obtain ⟨⟨old, he⟩, ⟨o, ho, hc, hd⟩, _⟩ := st
    rcases (by simpa using hb : b = e ∨ b = it) with z | z
    · subst z; exact ⟨_, he, fun v q => nomatch q⟩
    · subst z; exact ⟨o, ho, fun v q => by rw [hd] at q; cases q⟩
  keep := fun i h h' st k => let ⟨⟨old, he⟩, hi, hne⟩ := st; ⟨⟨old, k e (by simp) _ he⟩, hi.at fun o q => k it (by simp) o q, hne⟩
  item := fun X hP hw hK hc i pins s σ H E I hf st hg => by
    subst hP hw hK
    obtain ⟨⟨old, he⟩, hit, hne⟩ := st
    obtain ⟨xs, x, hq, hx⟩ := hg
    obtain ⟨its, rv, p, hz⟩ := I.tuple hq
    obtain ⟨u, hu, ru⟩ := rv.get hx
    have hel : e < s.heap.objs.size := Heap.lt_size he
    have hil : it < s.heap.objs.size := by obtain ⟨_, q, _⟩ := hit; exact Heap.lt_size q
    have pT : ∃ o, s.heap.get? a = some o ∧ o.cls = .type "tuple" := let ⟨o, h1, h2, _⟩ := p; ⟨o, h1, h2⟩
    have nai : a ≠ it := cls_ne (by decide) pT (let ⟨o, h1, h2, _⟩ := hit; ⟨o, h1, h2⟩)
    have nae : e ≠ a := cls_ne (m := "enumerate") (n := "tuple") (by decide) ⟨_, he, rfl⟩ pT
    have hix : i < its.toArray.size := by
      have := (List.getElem?_eq_some_iff.mp hu).1
      simpa using this
    refine wpAny_pyNext_enum_itemD (Draws.tuple (by simp [I.ok.hd hc]) it a nai its.toArray) he ⟨hit, p⟩ hix hne (by simp [hne, nae]) fun x' h' tk hx' ho st' hT hsz hk => ?_
    have ex : x' = u := by
      have : its.toArray[i]? = some x' := hx'
      simp only [List.getElem?_toArray] at this
      rw [hu] at this
      exact (Option.some.inj this).symm
    subst ex
    refine ⟨_, rfl, wpAny_letOwnedTupleGo_enum (s := { s with heap := h', toks := tk + 1 }) ho fun h2 he2 sb => ?_⟩
    have hT2 : h2.get? s.heap.objs.size = some { cls := .type "tuple", data := .seq #[.int i tk, x'] } := (sb.2 _ (Nat.ne_of_gt hel)).trans hT
    have I1 : Inv X pins σ (upd H s.heap.objs.size (.tup [.int (i : Nat), x])) { s with heap := h2, toks := tk + 1 } :=
      I.turnedNew (ch := [e, it]) (fun b ob hb q => (sb.2 b (fun z => hb (by simp [z]))).trans (hk b ob (fun z => hb (by simp [z])) (fun z => hb (by simp [z])) q)) hf (Nat.le_refl _)
        ⟨by show 2 ≤ sizeLine; decide, [.int i tk, x'], .cons ⟨_, rfl⟩ (.cons ru .nil), ⟨_, hT2, rfl, _, rfl⟩⟩
    refine ⟨.ref s.heap.objs.size, _, I1, rfl, ⟨_, x, rfl, I.hok.fresh (Nat.le_refl _), rfl, fun ys hy => by rw [tup_inj I hy hq]; exact hx⟩, ⟨⟨x', ?_⟩, st'.1.at fun o q => (sb.2 it (Ne.symm hne)).trans q, hne⟩, fun b hb => ?_⟩
    · rw [show ((i + 1 : Nat) : Int) = (i : Int) + 1 by omega]; exact he2
    · have hb' : b < s.heap.objs.size := by
        rcases (by simpa using hb : b = e ∨ b = it) with z | z
        · rw [z]; exact hel
        · rw [z]; exact hil
      rw [upd_ne (Nat.ne_of_lt hb')]
      exact (hf b hb).1
  done := fun X hP hw hK hc i pins s σ H E I hf st hg => by
    subst hP hw hK
    obtain ⟨⟨old, he⟩, hit, hne⟩ := st
    obtain ⟨xs, hq, hx⟩ := hg
    obtain ⟨its, rv, p, hz⟩ := I.tuple hq
    obtain ⟨f0, f1, f2, f3, f4, f5⟩ := hf it (by simp)
    have hl := rv.length
    have hT : s.TypeIs (.ref e) "enumerate" := ⟨_, he, rfl⟩
    unfold pyNext
    refine wpAny_bind (wpAny_attempt (wpAny_callSpecial?_slot (name := Str.ofString "__next__") hT F.slot_enumerate_next (wpAny_call_entry F.slot_enumerate_next hT F.entry_enumerate_next ?_ (F.args_enumerate_next_1 _))))
    change wpAny _ _ (field (.ref e) 2 >>= _) _ _ _
    refine wpAny_bind (wpAny_field he rfl (x := .ref it) rfl ?_)
    refine wpAny_bind (wpAny_nextOf_tuple_end (by simp [I.ok.hd hc]) hit p (by simp; omega) fun h' x he' hx' => ?_)
    obtain ⟨o, ho, hoc⟩ := hx'
    exact wpAny_bind (wpAny_isInstance (T := "StopIteration") (b := true) ⟨o, ho, hoc⟩ isSubtype_stop (wpAny_pure ⟨rfl, I.turned (t' := s.toks) (fun b o hb q => he' b o hb q) f0 f1 f3 f4 f5⟩))
  self := fun A i s Q E st h => let ⟨⟨_, he⟩, _⟩ := st; wpAny_pyIter_enum he h
def iEnumT (K : PySem.W.Frag) (ta : TA) : TI := fun σ H R => ta σ H fun vs H1 => ∃ a xs, vs = [.ref a] ∧ SqT K H1 a xs ∧ R (ItT K a) H1
theorem pi_enumT {X : Cx} {e : Expr} {ta : TA} {p pos tpos : Pos} {elts : List Expr} {kk : Nat} (hg : Gl X "enumerate") (hm : X.mg "enumerate" = none) (ha : PA X [e] ta) (hs : starEach [e] X.env = [(false, eval e X.env)] := by rfl) : PI X (.Tuple elts kk tpos) (.Call (.Name "enumerate" p) [e] [] pos) (iEnumT X.K ta) := by
  refine ⟨fun pins s σ H R I h => ?_⟩
  refine Call_ (ld_blt I hg hm boot_enumerate (PyProof.Rows.callWith_type1 (thn (ha.run pos pins s σ H _ I h) fun us s1 ⟨vs, H1, I1, r1, a, xs, ex, hq, q⟩ => ?_) hs rfl))
  subst ex
  rw [Vals.ref1 r1]
  obtain ⟨its, rv, p2, hz⟩ := I1.tuple hq
  refine call_enumT p2 fun h' he hit hk => wpAny_pyIter_enum he ?_
  refine ⟨s1.heap.objs.size + 1, [s1.heap.objs.size + 1, s1.heap.objs.size], _, _, H1, rfl, I1.kept (t' := s1.toks) hk, turn_enumT a (s1.heap.objs.size + 1) s1.heap.objs.size, ⟨⟨.none, he⟩, hit, Nat.succ_ne_self _⟩, fun b hb => ?_, q⟩
  have hle : s1.heap.objs.size ≤ b := by
    rcases (by simpa using hb : b = s1.heap.objs.size + 1 ∨ b = s1.heap.objs.size) with z | z
    · rw [z]; exact Nat.le_add_right _ _
    · rw [z]; exact Nat.le_refl _
  exact I1.fpOk hle (I1.hok.fresh hle)
end KaC


set_option maxRecDepth 100000
set_option maxHeartbeats 4000000
/-! comprehensions of three clauses: a clause as a piece that another one follows -/
namespace KaC
open PySem PySem.Spec PyProof.Rows L2
/-- what a piece is to reach, by what stands ahead of it -/
abbrev TC := L2.St → Hp → (Hp → Prop) → Prop
/-- M, run in the block, keeps the slots but those of vs and reaches Nx -/
def Piece (B : Cx) (vs : List Nat) (M : Sem PySem.Fin → Sem PySem.Fin) (tl : TC) : Prop := ∀ (k : Sem PySem.Fin) (R : PySem.Fin → Shared → Prop) (E : Value → Shared → Prop) (pins : List (Addr × Obj)) (s : Shared) (σ : L2.St) (H : Hp) (Nx : Hp → Prop), Inv B pins σ H s → tl σ H Nx →
  (∀ σ' H' s', Inv B pins σ' H' s' → σ.length = σ'.length → (∀ (i : Nat) v, i ∉ vs → σ[i]? = some (some v) → σ'[i]? = some (some v)) → Nx H' → wpAny (model B.prog B.w) B.A k R E s') → wpAny (model B.prog B.w) B.A (M k) R E s
def tEl (D : Addr) (te : TE) : TC := fun σ H Nx => te σ H fun y H1 => ∃ acc, H1 D = some (.lst acc) ∧ acc.length < sizeLine ∧ Nx (upd H1 D (.lst (acc ++ [y])))
def tCl (wi : TI) (g : TG) (tt : TT) (vs : List Nat) (tl : TC) : TC := fun σ H Nx => wi σ H fun J H1 => ∃ W : Nat → Nat → Hp → Prop, (∃ m, W 0 m H1) ∧ ∀ j k H, W j k H →
  (J.stop j H ∧ Nx H) ∨ (J.go j H ∧ ∃ N1 : Hp → Prop, (∀ H', N1 H' → ∃ k', k' < k ∧ W (j + 1) k' H') ∧ ∀ x H', J.yld j H x H' → g x (wipe σ vs) H' fun σ3 H5 => wipe σ3 vs = wipe σ vs ∧ tt σ3 H5 fun b H6 => if b = true then tl σ3 H6 N1 else N1 H6)
section
variable {X : Cx} {s3 : Shared} {H3 : Hp} {scope : Scope} {ce : Env} {fp : List Addr} {D : Addr}
theorem piece_elt {elt : Expr} {te : TE} (pe : PE (X.blk s3 H3 scope ce fp) elt te) : Piece (X.blk s3 H3 scope ce fp) [] (fun k => (do let _ ← call (.builtin "list.append") [.ref D, ← eval elt ce] : Sem PUnit) >>= fun _ => k) (tEl D te) := by
  intro k R E pins s σ H Nx I h hk
  refine wpAny_bind (wpAny_bind (thnF (pe.run pins s σ H _ I h) fun z s1 ⟨y, H1, I1, r1, acc, hD, hz, nx⟩ => ?_))
  refine wpAny_bind (app_ok (X := X.blk s3 H3 scope ce fp) I1 hD hz r1 fun s2 I2 => ?_)
  exact wpAny_pure (hk σ _ s2 I2 rfl (fun _ _ _ e => e) nx)
/-- what a turn of such a clause is -/
def TurnIs (e : Expr) (d : Nat) (tg : Expr) (ifs : List Expr) (p : Pos) (D : Addr) (ce : Env) (M : Sem PySem.Fin → Sem PySem.Fin) : Prop := ∀ it : Value, compTurn e d it (.ref D) ce = (do
  standAt p
  match ← pyNext it with
  | none => pure (.done .next)
  | some v =>
    letOwnedTupleGo tg it v
    assign tg ce v
    let mut ok := true
    for c in ifs do
      if ok then ok ← isTrue c ce (eval c ce)
    if ok then M (again (.compLoop e d it (.ref D) ce)) else again (.compLoop e d it (.ref D) ce))
/-- a clause behind the first -/
theorem piece_clause {elt : Expr} {gens : List Comprehension} {sc : Scope} {ps : Pos} {d : Nat} {tg iter : Expr} {ifs : List Expr} {p : Pos} {M : Sem PySem.Fin → Sem PySem.Fin} {wi : TI} {g : TG} {tt : TT} {tl : TC} {vs vn : List Nat}
    (hc : X.calm = true) (hT : TurnIs (.ListComp elt gens sc ps) d tg ifs p D ce M) (hM : Piece (X.blk s3 H3 scope ce fp) vn M tl) (hv : ∀ i ∈ vn, i ∈ vs) (pi : PI (X.blk s3 H3 scope ce fp) tg iter wi) (pg : PG (X.blk s3 H3 scope ce fp) tg g) (pt : PTs (X.blk s3 H3 scope ce fp) ifs tt)
    (hs : ∀ x, foldedSetIterable iter ce x = pure x)
    (hS : ∀ it : Value, compStart (.ListComp elt gens sc ps) d it (.ref D) ce = (do
      if (← ask).params.followText "comprehension-iter-twice" then return ← again (.compLoop (.ListComp elt gens sc ps) d it (.ref D) ce)
      rule "comprehension.iter-twice"
      standAt iter.pos
      again (.compLoop (.ListComp elt gens sc ps) d (← pyIter it) (.ref D) ce))) :
    Piece (X.blk s3 H3 scope ce fp) vs (fun k => do
      let x ← eval iter ce
      standAt iter.pos
      let x ← foldedSetIterable iter ce x
      let _ ← runOwn (.compStart (.ListComp elt gens sc ps) d (← holding [x] (pyIter x)) (.ref D) ce) ce
      k) (tCl wi g tt vs tl) := by
  intro k R E pins s σ H Nx I h hk
  refine wpAny_bind (thnF (pi.run pins s σ H _ I h) fun x s1 hx => ?_)
  refine wpAny_bind (wpAny_standAt (wpAny_bind (wpAny_of_eq (hs x) (wpAny_bind (wpAny_holding (thnF hx fun itv s2 h2 => ?_))))))
  obtain ⟨it, fi, tn, J, H2, rfl, I2, T, st2, f2, W, ⟨m0, w0⟩, turn⟩ := h2
  have stat : ∀ {H' : Hp}, (∀ b ∈ fi, H' b = none) → ∀ b ∈ fi, FpOk (X.blk s3 H3 scope ce fp) pins H' b := fun hn b hb => ⟨hn b hb, (f2 b hb).2⟩
  have loop : codeAny (model X.prog X.w) X.A (.compLoop (.ListComp elt gens sc ps) d (.ref it) (.ref D) ce) (fun r s' => match r with
      | .ok _ => ∃ H', Inv (X.blk s3 H3 scope ce fp) pins (wipe σ vs) H' s' ∧ Nx H'
      | .error _ => False) s2 := by
    refine codeAny_loop rfl (fun n s' => ∃ i H', Inv (X.blk s3 H3 scope ce fp) pins (wipe σ vs) H' s' ∧ tn i s'.heap ∧ (∀ b ∈ fi, H' b = none) ∧ W i n H') (fun n s4 ⟨i, H4, I4, st4, n4, w4⟩ => ?_) m0 ⟨0, H2, I2.weak (wipe_length _ _) (fun j v z => (wipe_some z).1), st2, fun b hb => (f2 b hb).1, w0⟩
    change wpAny _ X.A ((compTurn (.ListComp elt gens sc ps) d (.ref it) (.ref D) ce).onRaise (fun x => do noteFrame x ce; theTreesLotGoes x)) _ _ s4
    refine wpAny_noted ?_
    rw [hT]
    refine wpAny_bind (wpAny_standAt (wpAny_bind ?_))
    rcases turn i n H4 w4 with ⟨stop, nx⟩ | ⟨go, N1, hN1, step⟩
    · refine thnF (T.done (X.blk s3 H3 scope ce fp) rfl rfl rfl hc i _ s4 (wipe σ vs) H4 (fun _ _ => False) I4 (stat n4) st4 stop) fun r s5 ⟨hr, I5⟩ => ?_
      subst hr
      exact wpAny_pure ⟨H4, I5, nx⟩
    · refine thnF (T.item (X.blk s3 H3 scope ce fp) rfl rfl rfl hc i _ s4 (wipe σ vs) H4 (fun _ _ => False) I4 (stat n4) st4 go) fun r s5 ⟨u, hr, h5⟩ => ?_
      subst hr
      refine wpAny_bind (thnF h5 fun _ s6 ⟨x6, H6, I6, r6, y6, st6, n6⟩ => ?_)
      have I6' := I6.pinned (stat n6) (T.obj _ _ st6)
      refine wpAny_bind (thnF (pg.run _ s6 (wipe σ vs) H6 x6 u _ I6' r6 (step x6 H6 y6)) fun _ s7 ⟨σ7, H7, I7, hw7, q7⟩ => ?_)
      refine wpAny_bind (thnF (pt.run _ s7 σ7 H7 _ I7 q7) fun b s8 ⟨H8, I8, q8⟩ => ?_)
      have fin : ∀ {σ9 : L2.St} {s' : Shared} {H' : Hp}, Inv (X.blk s3 H3 scope ce fp) (pins ++ pinsAt fi s6.heap) σ9 H' s' → (wipe σ vs).length = σ9.length → (∀ (j : Nat) v, (wipe σ vs)[j]? = some (some v) → σ9[j]? = some (some v)) → N1 H' →
          ∃ m, m < n ∧ ∃ i H', Inv (X.blk s3 H3 scope ce fp) pins (wipe σ vs) H' s' ∧ tn i s'.heap ∧ (∀ b ∈ fi, H' b = none) ∧ W i m H' := fun {σ9 s' H'} I' hl hk nx => by
        obtain ⟨m', hm, w'⟩ := hN1 H' nx
        have pin' : ∀ b ∈ fi, ∀ o, s6.heap.get? b = some o → s'.heap.get? b = some o ∧ H' b = none := fun b hb o z =>
          let y := I'.pin (b, o) (List.mem_append_right _ (List.mem_append_right _ (mem_pinsAt hb z)))
          ⟨y.1, y.2.1⟩
        refine ⟨m', hm, i + 1, H', I'.unpinned.weak hl hk, T.keep _ _ _ st6 fun b hb o z => (pin' b hb o z).1, fun b hb => ?_, w'⟩
        obtain ⟨o, z, _⟩ := T.obj _ _ st6 b hb
        exact (pin' b hb o z).2
      have l7 : (wipe σ vs).length = σ7.length := by rw [← hw7, wipe_length]
      have k7 : ∀ (j : Nat) v, (wipe σ vs)[j]? = some (some v) → σ7[j]? = some (some v) ∧ j ∉ vs := fun j v z => by
        rw [← hw7] at z
        exact wipe_some z
      cases b with
      | false =>
        simp only [Bool.false_eq_true, if_false] at q8 ⊢
        exact wpAny_pure ⟨rfl, fin I8 l7 (fun j v z => (k7 j v z).1) q8⟩
      | true =>
        simp only [if_true] at q8 ⊢
        refine hM _ _ _ _ s8 σ7 H8 N1 I8 q8 fun σ9 H9 s9 I9 l9 k9 nx => ?_
        exact wpAny_pure ⟨rfl, fin I9 (l7.trans l9) (fun j v z => k9 j v (fun m => (k7 j v z).2 (hv j m)) (k7 j v z).1) nx⟩
  refine wpAny_bind (wpAny_runOwn ?_)
  rw [Around.mark_none]
  have start : codeAny (model X.prog X.w) X.A (.compStart (.ListComp elt gens sc ps) d (.ref it) (.ref D) ce) (fun r s' => match r with
      | .ok _ => ∃ H', Inv (X.blk s3 H3 scope ce fp) pins (wipe σ vs) H' s' ∧ Nx H'
      | .error _ => False) s2 := by
    refine codeAny_of_tree ?_
    change wpAny _ _ ((compStart (.ListComp elt gens sc ps) d (.ref it) (.ref D) ce).onRaise (fun x => do noteFrame x ce; standAt theWindowsPlace)) _ _ s2
    refine wpAny_notedAt ?_
    rw [hS]
    change wpAny _ _ (ask >>= _) _ _ s2
    refine wpAny_bind (wpAny_askSetting (wpAny_ite ?_))
    split
    · first
        | exact wpAny_bind (wpAny_pure (wpAny_pure (And.intro rfl loop)))
        | exact wpAny_bind (wpAny_pure (And.intro rfl loop))
        | exact wpAny_pure (And.intro rfl loop)
    · refine wpAny_bind (wpAny_rule ?_)
      first
        | exact wpAny_bind (wpAny_standAt (wpAny_bind (T.self X.A 0 s2 _ _ st2 (wpAny_pure (And.intro rfl loop)))))
        | (change wpAny _ _ (standAt iter.pos >>= _) _ _ s2; exact wpAny_bind (wpAny_standAt (wpAny_bind (T.self X.A 0 s2 _ _ st2 (wpAny_pure (And.intro rfl loop))))))
  refine codeAny_mono start fun r s' hr => ?_
  cases r with
  | ok f =>
    obtain ⟨H', I', nx⟩ := hr
    exact hk (wipe σ vs) H' s' I' (wipe_length _ _).symm (fun i v hi z => by rw [wipe_out hi]; exact z) nx
  | error er => exact hr.elim
/-- the reading: the first clause, and what follows its tests -/
def tLcN (wi : TI) (g : TG) (tt : TT) (vs : List Nat) (tl : Addr → TC) : TE := fun σ H Q => wi σ H fun J H1 => ∀ D, H1 D = none → ∃ W : Nat → Nat → Hp → Prop, (∃ m, W 0 m (upd H1 D (.lst []))) ∧ ∀ i m H, W i m H →
  (J.stop i H ∧ Q (.ref D) H) ∨ (J.go i H ∧ ∃ N1 : Hp → Prop, (∀ H', N1 H' → ∃ m', m' < m ∧ W (i + 1) m' H') ∧ ∀ x H', J.yld i H x H' → g x (wipe σ vs) H' fun σ3 H5 => wipe σ3 vs = wipe σ vs ∧ tt σ3 H5 fun b H6 => if b = true then tl D σ3 H6 N1 else N1 H6)
theorem pe_lcN {elt tg iter : Expr} {ifs : List Expr} {rest : List Comprehension} {sc : Scope} {ps : Pos} {own : List (Str × Nat)} {M : Addr → Env → Sem PySem.Fin → Sem PySem.Fin} {wi : TI} {g : TG} {tt : TT} {tl : Addr → TC} {vn : List Nat} (hc : X.calm = true) (hN : X.N.Nodup) (hi : PI X tg iter wi) (ok : BlkOk X.N X.env.scope sc own) (hv : ∀ i ∈ vn, i ∈ own.map (·.2))
    (hg : ∀ (s : Shared) (H : Hp) (C : Addr) (cl : List (Str × Addr)) (fp : List Addr), PG (X.blk s H sc (compEnvC sc cl C X.env) fp) tg g) (ht : ∀ (s : Shared) (H : Hp) (C : Addr) (cl : List (Str × Addr)) (fp : List Addr), PTs (X.blk s H sc (compEnvC sc cl C X.env) fp) ifs tt)
    (hT : ∀ D ce, TurnIs (.ListComp elt (⟨tg, iter, ifs, 0⟩ :: rest) sc ps) 0 tg ifs iter.pos D ce (M D ce))
    (hM : ∀ (s : Shared) (H : Hp) (C : Addr) (cl : List (Str × Addr)) (fp : List Addr) (D : Addr), Piece (X.blk s H sc (compEnvC sc cl C X.env) fp) vn (M D (compEnvC sc cl C X.env)) (tl D))
    (hs : ∀ x, foldedSetIterable iter X.env x = pure x := by intro _; rfl) : PE X (.ListComp elt (⟨tg, iter, ifs, 0⟩ :: rest) sc ps) (tLcN wi g tt (own.map (·.2)) tl) := by
  refine ⟨fun pins s σ H Q I h => ?_⟩
  rw [eval_ListComp]
  have free : ∀ y ∈ sc.names, y.2 = .free → ∃ c, X.env.cells.lookup y.1 = some c := fun y hy e => (ok.free y hy e).elim (fun k => I.ok.has _ (.inl k)) fun k => I.ok.has _ (.inr k)
  refine wpAny_comprehension_free rfl hs (closure_ok free) ok.kind (fun y hy e => by rw [ok.uniq y hy, e]) (thn (hi.run pins s σ H _ I h) fun xv s1 hx => thn hx fun itv s2 h2 => ?_)
  obtain ⟨it, fp, tn, J, H2, e, I2, T, st2, f2, q⟩ := h2
  subst e
  refine wpAny_newObj_type (newEnv_comp ?_) (by show 0 ≤ sizeLine; decide)
  generalize hD : s2.heap.objs.size = D
  have hDn : H2 D = none := I2.hok.fresh (Nat.le_of_eq hD)
  obtain ⟨W, ⟨m0, w0⟩, turn⟩ := q D hDn
  generalize hs3 : ({ s2 with heap := s2.heap.push { cls := .type "list", data := .seq ([] : List Value).toArray } } : Shared) = s3
  have h3 : s3.heap = s2.heap.push { cls := .type "list", data := .seq ([] : List Value).toArray } := by rw [← hs3]
  have I3 : Inv X pins σ (upd H2 D (.lst [])) s3 := by
    rw [← hs3]
    exact I2.laid (t' := s2.toks) (fun b o z => Heap.get?_push_of_some _ z) (Nat.le_of_eq hD) ⟨Nat.zero_le _, [], 0, .nil, by rw [← hD]; exact Heap.get?_push_size _ rfl⟩
  have f3 : ∀ b ∈ fp, FpOk X pins (upd H2 D (.lst [])) b ∧ b < s3.heap.objs.size := fun b hb => by
    obtain ⟨o, z, _⟩ := T.obj _ _ st2 b hb
    have hlt := Heap.lt_size z
    exact ⟨⟨by rw [upd_ne (by rw [← hD]; exact Nat.ne_of_lt hlt)]; exact (f2 b hb).1, (f2 b hb).2⟩, by rw [h3, Heap.size_push]; exact Nat.lt_succ_of_lt hlt⟩
  have st3 : tn 0 s3.heap := T.keep _ _ _ st2 fun b _ o z => by rw [h3]; exact Heap.get?_push_of_some _ z
  have I4 := block_start I3 ok hN f3
  have nfp : ∀ b ∈ fp, (upd H2 D (.lst [])) b = none := fun b hb => (f3 b hb).1.1
  change codeAny _ _ (.compStart (.ListComp elt (⟨tg, iter, ifs, 0⟩ :: rest) sc ps) 0 (.ref it) (.ref D) (compEnvC sc (cellsFrom (s3.heap.objs.size + 1) sc.names (cloFrom X.env.cells sc.names [])) s3.heap.objs.size X.env)) (compPost (model X.prog X.w) X.A X.xe none _ (.ref D) s3.heap.objs.size) { s3 with heap := pushCells (s3.heap.push { cls := .type "dict", data := .dict #[] }) sc.names }
  generalize hcl : cellsFrom (s3.heap.objs.size + 1) sc.names (cloFrom X.env.cells sc.names []) = cl at I4 ⊢
  have pg := hg s3 (upd H2 D (.lst [])) s3.heap.objs.size cl fp
  have pt := ht s3 (upd H2 D (.lst [])) s3.heap.objs.size cl fp
  have pm := hM s3 (upd H2 D (.lst [])) s3.heap.objs.size cl fp D
  have tm := hT D (compEnvC sc cl s3.heap.objs.size X.env)
  have cL : (compEnvC sc cl s3.heap.objs.size X.env).locals = s3.heap.objs.size := rfl
  generalize compEnvC sc cl s3.heap.objs.size X.env = ce at I4 pg pt pm tm cL ⊢
  generalize hH3 : upd H2 D (.lst []) = H3 at I3 I4 pg pt pm w0 nfp f3
  generalize hs4 : ({ s3 with heap := pushCells (s3.heap.push { cls := .type "dict", data := .dict #[] }) sc.names } : Shared) = s4 at I4 ⊢
  have st4 : tn 0 s4.heap := T.keep _ _ _ st3 fun b _ o z => by rw [← hs4]; exact pushCells_keeps _ _ _ _ (Heap.get?_push_of_some _ z)
  have stat : ∀ {σ' : L2.St} {H' : Hp} {s' : Shared}, Inv (X.blk s3 H3 sc ce fp) [] σ' H' s' → (∀ b ∈ fp, H' b = none) → ∀ b ∈ fp, FpOk (X.blk s3 H3 sc ce fp) [] H' b := fun {σ' H' s'} I' hn b hb =>
    ⟨hn b hb, (I'.ok.exf b hb).1, I'.ok.exfs b hb, .inl hb, fun x c z => (I'.ok.exf b hb).2 x c z, fun p hp => absurd (show p ∈ ([] : List (Addr × Obj)) ++ [] from hp) (by simp)⟩
  have loop : codeAny (model X.prog X.w) X.A (.compLoop (.ListComp elt (⟨tg, iter, ifs, 0⟩ :: rest) sc ps) 0 (.ref it) (.ref D) ce) (compPost (model X.prog X.w) X.A X.xe none (EP X pins σ Q) (.ref D) s3.heap.objs.size) s4 := by
    refine codeAny_loop rfl (fun n s' => ∃ i H', Inv (X.blk s3 H3 sc ce fp) [] (wipe σ (own.map (·.2))) H' s' ∧ tn i s'.heap ∧ (∀ b ∈ fp, H' b = none) ∧ W i n H') (fun n s5 ⟨i, H5, I5, st5, n5, w5⟩ => ?_) m0 ⟨0, H3, I4, st4, nfp, w0⟩
    change wpAny _ X.A ((compTurn (.ListComp elt (⟨tg, iter, ifs, 0⟩ :: rest) sc ps) 0 (.ref it) (.ref D) ce).onRaise (fun x => do noteFrame x ce; theTreesLotGoes x)) _ _ s5
    refine wpAny_noted ?_
    rw [tm]
    refine wpAny_bind (wpAny_standAt (wpAny_bind ?_))
    rcases turn i n H5 w5 with ⟨stop, qq⟩ | ⟨go, N1, hN1, step⟩
    · refine thnF (T.done (X.blk s3 H3 sc ce fp) rfl rfl rfl hc i [] s5 _ H5 (fun _ _ => False) I5 (stat I5 n5) st5 stop) fun r s6 ⟨hr, I6⟩ => ?_
      subst hr
      refine wpAny_pure ?_
      have I7 : Inv X pins σ H5 s6 := I3.call' (ch := fp) I6.os I6.base I6.hok I6.bare fun b hb => ⟨(f3 b hb).1.2.2.2.1, (f3 b hb).1.2.1, (f3 b hb).1.2.2.2.2.1, (f3 b hb).1.2.2.2.2.2⟩
      have nC : H5 s3.heap.objs.size = none := by
        have z : H5 ce.locals = none := I6.free
        rwa [cL] at z
      obtain ⟨m, hn, _⟩ := I6.loc
      have hn : s6.heap.Ns ce.locals m := hn
      rw [cL] at hn
      obtain ⟨f0, f1, f2', f3', f4, f5⟩ := I3.fpOk (Nat.le_refl _) nC
      exact ⟨m, hn, fun h'' sb => ⟨.ref D, H5, I7.turned (t' := s6.toks) (fun b o hb z => (sb.2 b hb).trans z) f0 f1 f3' f4 f5, rfl, qq⟩⟩
    · refine thnF (T.item (X.blk s3 H3 sc ce fp) rfl rfl rfl hc i [] s5 _ H5 (fun _ _ => False) I5 (stat I5 n5) st5 go) fun r s6 ⟨u, hr, h6⟩ => ?_
      subst hr
      refine wpAny_bind (thnF h6 fun _ s7 ⟨x, H7, I7, r7, y7, st7, n7⟩ => ?_)
      have I7' := I7.pinned (stat I7 n7) (T.obj _ _ st7)
      refine wpAny_bind (thnF (pg.run _ s7 _ H7 x u _ I7' r7 (step x H7 y7)) fun _ s8 ⟨σ8, H8, I8, hw8, q8⟩ => ?_)
      refine wpAny_bind (thnF (pt.run _ s8 σ8 H8 _ I8 q8) fun b s9 ⟨H9, I9, q9⟩ => ?_)
      have fin : ∀ {σ9 : L2.St} {s' : Shared} {H' : Hp}, Inv (X.blk s3 H3 sc ce fp) ([] ++ pinsAt fp s7.heap) σ9 H' s' → (wipe σ (own.map (·.2))).length = σ9.length → (∀ (j : Nat) v, (wipe σ (own.map (·.2)))[j]? = some (some v) → σ9[j]? = some (some v)) → N1 H' →
          ∃ m, m < n ∧ ∃ i H', Inv (X.blk s3 H3 sc ce fp) [] (wipe σ (own.map (·.2))) H' s' ∧ tn i s'.heap ∧ (∀ b ∈ fp, H' b = none) ∧ W i m H' := fun {σ9 s' H'} I' hl hk nx => by
        obtain ⟨m', hm, w'⟩ := hN1 H' nx
        have pin' : ∀ b ∈ fp, ∀ o, s7.heap.get? b = some o → s'.heap.get? b = some o ∧ H' b = none := fun b hb o z =>
          let y := I'.pin (b, o) (List.mem_append_right _ (List.mem_append_right _ (mem_pinsAt hb z)))
          ⟨y.1, y.2.1⟩
        refine ⟨m', hm, i + 1, H', (I'.unpinned (pins := [])).weak hl hk, T.keep _ _ _ st7 fun b hb o z => (pin' b hb o z).1, fun b hb => ?_, w'⟩
        obtain ⟨o, z, _⟩ := T.obj _ _ st7 b hb
        exact (pin' b hb o z).2
      have l8 : (wipe σ (own.map (·.2))).length = σ8.length := by rw [← hw8, wipe_length]
      have k8 : ∀ (j : Nat) v, (wipe σ (own.map (·.2)))[j]? = some (some v) → σ8[j]? = some (some v) ∧ j ∉ own.map (·.2) := fun j v z => by
        rw [← hw8] at z
        exact wipe_some z
      cases b with
      | false =>
        simp only [Bool.false_eq_true, if_false] at q9 ⊢
        exact wpAny_pure ⟨rfl, fin I9 l8 (fun j v z => (k8 j v z).1) q9⟩
      | true =>
        simp only [if_true] at q9 ⊢
        refine pm _ _ _ _ s9 σ8 H9 N1 I9 q9 fun σ10 H10 s10 I10 l10 k10 nx => ?_
        exact wpAny_pure ⟨rfl, fin I10 (l8.trans l10) (fun j v z => k10 j v (fun m => (k8 j v z).2 (hv j m)) (k8 j v z).1) nx⟩
  exact codeAny_compStart_list loop (T.self X.A 0 _ _ _ st4 loop)
/-- [elt for t0 in i0 for t1 in i1 for t2 in i2], each with its tests; v1, v2: the slots of the second and the third target, and of the third alone -/
theorem pe_lc3 {elt t0 i0 t1 i1 t2 i2 : Expr} {f0 f1 f2 : List Expr} {sc : Scope} {ps : Pos} {own : List (Str × Nat)} {w0 w1 w2 : TI} {g0 g1 g2 : TG} {tt0 tt1 tt2 : TT} {te : TE} (v1 v2 : List Nat) (hc : X.calm = true) (hN : X.N.Nodup) (hi : PI X t0 i0 w0) (ok : BlkOk X.N X.env.scope sc own)
    (h01 : ∀ i ∈ v1, i ∈ own.map (·.2)) (h12 : ∀ i ∈ v2, i ∈ v1)
    (hg0 : ∀ (s : Shared) (H : Hp) (C : Addr) (cl : List (Str × Addr)) (fp : List Addr), PG (X.blk s H sc (compEnvC sc cl C X.env) fp) t0 g0) (ht0 : ∀ (s : Shared) (H : Hp) (C : Addr) (cl : List (Str × Addr)) (fp : List Addr), PTs (X.blk s H sc (compEnvC sc cl C X.env) fp) f0 tt0)
    (hi1 : ∀ (s : Shared) (H : Hp) (C : Addr) (cl : List (Str × Addr)) (fp : List Addr), PI (X.blk s H sc (compEnvC sc cl C X.env) fp) t1 i1 w1)
    (hg1 : ∀ (s : Shared) (H : Hp) (C : Addr) (cl : List (Str × Addr)) (fp : List Addr), PG (X.blk s H sc (compEnvC sc cl C X.env) fp) t1 g1) (ht1 : ∀ (s : Shared) (H : Hp) (C : Addr) (cl : List (Str × Addr)) (fp : List Addr), PTs (X.blk s H sc (compEnvC sc cl C X.env) fp) f1 tt1)
    (hi2 : ∀ (s : Shared) (H : Hp) (C : Addr) (cl : List (Str × Addr)) (fp : List Addr), PI (X.blk s H sc (compEnvC sc cl C X.env) fp) t2 i2 w2)
    (hg2 : ∀ (s : Shared) (H : Hp) (C : Addr) (cl : List (Str × Addr)) (fp : List Addr), PG (X.blk s H sc (compEnvC sc cl C X.env) fp) t2 g2) (ht2 : ∀ (s : Shared) (H : Hp) (C : Addr) (cl : List (Str × Addr)) (fp : List Addr), PTs (X.blk s H sc (compEnvC sc cl C X.env) fp) f2 tt2)
    (he : ∀ (s : Shared) (H : Hp) (C : Addr) (cl : List (Str × Addr)) (fp : List Addr), PE (X.blk s H sc (compEnvC sc cl C X.env) fp) elt te)
    (s0 : ∀ x, foldedSetIterable i0 X.env x = pure x := by intro _; rfl) (s1 : ∀ env x, foldedSetIterable i1 env x = pure x := by intro _ _; rfl) (s2 : ∀ env x, foldedSetIterable i2 env x = pure x := by intro _ _; rfl) :
    PE X (.ListComp elt [⟨t0, i0, f0, 0⟩, ⟨t1, i1, f1, 0⟩, ⟨t2, i2, f2, 0⟩] sc ps) (tLcN w0 g0 tt0 (own.map (·.2)) fun D => tCl w1 g1 tt1 v1 (tCl w2 g2 tt2 v2 (tEl D te))) := by
  refine pe_lcN (vn := v1) (M := fun D ce k => do
      let x ← eval i1 ce
      standAt i1.pos
      let x ← foldedSetIterable i1 ce x
      let _ ← runOwn (.compStart (.ListComp elt [⟨t0, i0, f0, 0⟩, ⟨t1, i1, f1, 0⟩, ⟨t2, i2, f2, 0⟩] sc ps) 1 (← holding [x] (pyIter x)) (.ref D) ce) ce
      k) hc hN hi ok h01 hg0 ht0 (fun D ce it => rfl) (fun s H C cl fp D => ?_) s0
  refine piece_clause (vn := v2) (M := fun k => do
      let x ← eval i2 (compEnvC sc cl C X.env)
      standAt i2.pos
      let x ← foldedSetIterable i2 (compEnvC sc cl C X.env) x
      let _ ← runOwn (.compStart (.ListComp elt [⟨t0, i0, f0, 0⟩, ⟨t1, i1, f1, 0⟩, ⟨t2, i2, f2, 0⟩] sc ps) 2 (← holding [x] (pyIter x)) (.ref D) (compEnvC sc cl C X.env)) (compEnvC sc cl C X.env)
      k) hc (p := i1.pos) (fun it => rfl) ?_ h12 (hi1 s H C cl fp) (hg1 s H C cl fp) (ht1 s H C cl fp) (fun x => s1 _ x) (fun it => rfl)
  exact piece_clause (vn := []) (M := fun k => (do let _ ← call (.builtin "list.append") [.ref D, ← eval elt (compEnvC sc cl C X.env)] : Sem PUnit) >>= fun _ => k) hc (p := i2.pos) (fun it => rfl) (piece_elt (he s H C cl fp)) (fun _ m => nomatch m) (hi2 s H C cl fp) (hg2 s H C cl fp) (ht2 s H C cl fp) (fun x => s2 _ x) (fun it => rfl)
end
end KaC


set_option maxRecDepth 100000
set_option maxHeartbeats 4000000
namespace KaC
open PySem PySem.Spec PyProof.Rows L2
section
variable {K : PySem.W.Frag} {a : Addr} {xs : List V} {Hs : Hp} {Qd : Hp → Prop}
theorem go_tup {F : V → Hp → (Hp → Prop) → Prop} (Pv : Nat → Hp → Prop) (h0 : Pv 0 Hs) (hl : ∀ i H, i ≤ xs.length → Pv i H → SqT K H a xs) (hs : ∀ i x H, xs[i]? = some x → Pv i H → F x H (Pv (i + 1))) (hd : ∀ H, Pv xs.length H → Qd H) :
    ∃ W : Nat → Nat → Hp → Prop, (∃ m, W 0 m Hs) ∧ ∀ i m H, W i m H → ((Itt K a).stop i H ∧ Qd H) ∨ ((Itt K a).go i H ∧ ∃ N : Hp → Prop, (∀ H', N H' → ∃ m', m' < m ∧ W (i + 1) m' H') ∧ ∀ x H', (Itt K a).yld i H x H' → F x H' N) := by
  refine ⟨fun i m H => m = xs.length - i ∧ i ≤ xs.length ∧ Pv i H, ⟨_, rfl, Nat.zero_le _, h0⟩, fun i m H ⟨em, hi, p⟩ => ?_⟩
  have q := hl i H hi p
  rcases Nat.lt_or_ge i xs.length with lt | ge
  · refine .inr ⟨⟨xs, xs[i], q, List.getElem?_eq_getElem lt⟩, Pv (i + 1), fun H' p' => ⟨xs.length - (i + 1), by omega, rfl, lt, p'⟩, fun x H' ⟨e, y⟩ => ?_⟩
    subst e
    exact hs i x _ (y xs q) p
  · obtain rfl : i = xs.length := by omega
    exact .inl ⟨⟨xs, q, Nat.le_refl _⟩, hd H p⟩
theorem go_range {lo : Int} {n : Nat} {F : V → Hp → (Hp → Prop) → Prop} (Pv : Nat → Hp → Prop) (h0 : Pv 0 Hs) (hs : ∀ i H, i < n → Pv i H → F (.int (lo + i)) H (Pv (i + 1))) (hd : ∀ H, Pv n H → Qd H) :
    ∃ W : Nat → Nat → Hp → Prop, (∃ m, W 0 m Hs) ∧ ∀ i m H, W i m H → ((Itr lo n).stop i H ∧ Qd H) ∨ ((Itr lo n).go i H ∧ ∃ N : Hp → Prop, (∀ H', N H' → ∃ m', m' < m ∧ W (i + 1) m' H') ∧ ∀ x H', (Itr lo n).yld i H x H' → F x H' N) := by
  refine ⟨fun i m H => m = n - i ∧ i ≤ n ∧ Pv i H, ⟨_, rfl, Nat.zero_le _, h0⟩, fun i m H ⟨em, hi, p⟩ => ?_⟩
  rcases Nat.lt_or_ge i n with lt | ge
  · refine .inr ⟨lt, Pv (i + 1), fun H' p' => ⟨n - (i + 1), by omega, rfl, lt, p'⟩, fun x H' ⟨e, y⟩ => ?_⟩
    subst e; subst y
    exact hs i _ lt p
  · obtain rfl : i = n := by omega
    exact .inl ⟨Nat.le_refl _, hd H p⟩
theorem go_enumT {F : V → Hp → (Hp → Prop) → Prop} (Pv : Nat → Hp → Prop) (h0 : Pv 0 Hs) (hl : ∀ i H, i ≤ xs.length → Pv i H → SqT K H a xs) (hs : ∀ i x T H, xs[i]? = some x → Pv i H → H T = none → F (.ref T) (upd H T (.tup [.int (i : Nat), x])) (Pv (i + 1))) (hd : ∀ H, Pv xs.length H → Qd H) :
    ∃ W : Nat → Nat → Hp → Prop, (∃ m, W 0 m Hs) ∧ ∀ i m H, W i m H → ((ItT K a).stop i H ∧ Qd H) ∨ ((ItT K a).go i H ∧ ∃ N : Hp → Prop, (∀ H', N H' → ∃ m', m' < m ∧ W (i + 1) m' H') ∧ ∀ x H', (ItT K a).yld i H x H' → F x H' N) := by
  refine ⟨fun i m H => m = xs.length - i ∧ i ≤ xs.length ∧ Pv i H, ⟨_, rfl, Nat.zero_le _, h0⟩, fun i m H ⟨em, hi, p⟩ => ?_⟩
  have q := hl i H hi p
  rcases Nat.lt_or_ge i xs.length with lt | ge
  · refine .inr ⟨⟨xs, xs[i], q, List.getElem?_eq_getElem lt⟩, Pv (i + 1), fun H' p' => ⟨xs.length - (i + 1), by omega, rfl, lt, p'⟩, fun v H' ⟨T, x, e1, e2, e3, y⟩ => ?_⟩
    subst e1; subst e3
    exact hs i x T H (y xs q) p e2
  · obtain rfl : i = xs.length := by omega
    exact .inl ⟨⟨xs, q, Nat.le_refl _⟩, hd H p⟩
/-- for i, x in enumerate(t) -/
theorem for_enumT {g : TG} {tb : TS} {D : Ends} {σ : L2.St} {H : Hp} (Pv : Nat → L2.St → Hp → Prop) (h0 : Pv 0 σ H) (hl : ∀ i σ H, i ≤ xs.length → Pv i σ H → SqT K H a xs)
    (hs : ∀ i x T σ H, xs[i]? = some x → Pv i σ H → H T = none → g (.ref T) σ (upd H T (.tup [.int (i : Nat), x])) fun σ2 H2 => tb { D with nx := Pv (i + 1), ct := Pv (i + 1), bk := D.nx } σ2 H2) (hd : ∀ σ H, Pv xs.length σ H → D.nx σ H) :
    ∃ W : Nat → Nat → L2.St → Hp → Prop, (∃ m, W 0 m σ H) ∧ ∀ i m σ H, W i m σ H →
      ((ItT K a).stop i H ∧ D.nx σ H) ∨ ((ItT K a).go i H ∧ ∃ N : L2.St → Hp → Prop, (∀ σ' H', N σ' H' → ∃ m', m' < m ∧ W (i + 1) m' σ' H') ∧ ∀ x H', (ItT K a).yld i H x H' → g x σ H' fun σ2 H2 => tb { D with nx := N, ct := N, bk := D.nx } σ2 H2) := by
  refine ⟨fun i m σ H => m = xs.length - i ∧ i ≤ xs.length ∧ Pv i σ H, ⟨_, rfl, Nat.zero_le _, h0⟩, fun i m σ H ⟨em, hi, p⟩ => ?_⟩
  have q := hl i σ H hi p
  rcases Nat.lt_or_ge i xs.length with lt | ge
  · refine .inr ⟨⟨xs, xs[i], q, List.getElem?_eq_getElem lt⟩, Pv (i + 1), fun σ' H' p' => ⟨xs.length - (i + 1), by omega, rfl, lt, p'⟩, fun v H' ⟨T, x, e1, e2, e3, y⟩ => ?_⟩
    subst e1; subst e3
    exact hs i x T σ H (y xs q) p e2
  · obtain rfl : i = xs.length := by omega
    exact .inl ⟨⟨xs, q, Nat.le_refl _⟩, hd σ H p⟩
end
section
variable {X : Cx}
/-- two clauses, each with its tests -/
theorem pe_lc2n {elt t0 i0 t1 i1 : Expr} {f0 f1 : List Expr} {sc : Scope} {ps : Pos} {own : List (Str × Nat)} {w0 w1 : TI} {g0 g1 : TG} {tt0 tt1 : TT} {te : TE} (v1 : List Nat) (hc : X.calm = true) (hN : X.N.Nodup) (hi : PI X t0 i0 w0) (ok : BlkOk X.N X.env.scope sc own)
    (h01 : ∀ i ∈ v1, i ∈ own.map (·.2))
    (hg0 : ∀ (s : Shared) (H : Hp) (C : Addr) (cl : List (Str × Addr)) (fp : List Addr), PG (X.blk s H sc (compEnvC sc cl C X.env) fp) t0 g0) (ht0 : ∀ (s : Shared) (H : Hp) (C : Addr) (cl : List (Str × Addr)) (fp : List Addr), PTs (X.blk s H sc (compEnvC sc cl C X.env) fp) f0 tt0)
    (hi1 : ∀ (s : Shared) (H : Hp) (C : Addr) (cl : List (Str × Addr)) (fp : List Addr), PI (X.blk s H sc (compEnvC sc cl C X.env) fp) t1 i1 w1)
    (hg1 : ∀ (s : Shared) (H : Hp) (C : Addr) (cl : List (Str × Addr)) (fp : List Addr), PG (X.blk s H sc (compEnvC sc cl C X.env) fp) t1 g1) (ht1 : ∀ (s : Shared) (H : Hp) (C : Addr) (cl : List (Str × Addr)) (fp : List Addr), PTs (X.blk s H sc (compEnvC sc cl C X.env) fp) f1 tt1)
    (he : ∀ (s : Shared) (H : Hp) (C : Addr) (cl : List (Str × Addr)) (fp : List Addr), PE (X.blk s H sc (compEnvC sc cl C X.env) fp) elt te)
    (s0 : ∀ x, foldedSetIterable i0 X.env x = pure x := by intro _; rfl) (s1 : ∀ env x, foldedSetIterable i1 env x = pure x := by intro _ _; rfl) :
    PE X (.ListComp elt [⟨t0, i0, f0, 0⟩, ⟨t1, i1, f1, 0⟩] sc ps) (tLcN w0 g0 tt0 (own.map (·.2)) fun D => tCl w1 g1 tt1 v1 (tEl D te)) := by
  refine pe_lcN (vn := v1) (M := fun D ce k => do
      let x ← eval i1 ce
      standAt i1.pos
      let x ← foldedSetIterable i1 ce x
      let _ ← runOwn (.compStart (.ListComp elt [⟨t0, i0, f0, 0⟩, ⟨t1, i1, f1, 0⟩] sc ps) 1 (← holding [x] (pyIter x)) (.ref D) ce) ce
      k) hc hN hi ok h01 hg0 ht0 (fun D ce it => rfl) (fun s H C cl fp D => ?_) s0
  exact piece_clause (vn := []) (M := fun k => (do let _ ← call (.builtin "list.append") [.ref D, ← eval elt (compEnvC sc cl C X.env)] : Sem PUnit) >>= fun _ => k) hc (p := i1.pos) (fun it => rfl) (piece_elt (he s H C cl fp)) (fun _ m => nomatch m) (hi1 s H C cl fp) (hg1 s H C cl fp) (ht1 s H C cl fp) (fun x => s1 _ x) (fun it => rfl)
end
end KaC


set_option maxRecDepth 100000
set_option maxHeartbeats 2000000
namespace KaX
open PySem PySem.Builtin PySem.Builtin.BaseException
open PySem.W (Looks Frag findIn subIn looks_findIn looks_subIn clsIn)
section
variable {prog : Program} {w : World} {A : Around} {E : Value → Shared → Prop} {s : Shared} {K : Frag} {C e t0 : Addr}

/-- the class's own name, off the written part -/
theorem cdat {M : Model} {nm : Str} {cd : ClassData} (X : K.In s.heap) (hc : clsIn K C = some cd) (hn : cd.name = nm) {Q : String → Shared → Prop} (q : Q nm.toString s) :
    wpAny M A (typeNameWhole (.ref C)) Q E s := by
  unfold clsIn at hc
  split at hc
  · rename_i c' d' cd' sl' ho
    cases hc
    have hl := X _ _ ho
    unfold typeNameWhole classData
    refine wpAny_bind (wpAny_bind (wpAny_load hl ?_))
    subst hn
    exact wpAny_pure (wpAny_pure q)
  · cases hc

theorem tnm {M : Model} {nm : Str} {cd : ClassData} (x : ExcC K C e t0 s.heap) (hc : clsIn K C = some cd) (hn : cd.name = nm) {Q : String → Shared → Prop} (q : Q nm.toString s) :
    wpAny M A (typeNameOfWhole (.ref e)) Q E s := by
  unfold typeNameOfWhole shownTypeOf
  refine wpAny_bind (wpAny_bind (x.LT.here ?_))
  have hne : ((Value.ref C) == Value.type "builtin_function_or_method") = false := rfl
  rw [hne]
  simp only [Bool.false_eq_true, if_false]
  exact wpAny_pure (cdat x.1 hc hn q)

theorem bra {nm : Str} {cd : ClassData} {N T : Str} {u0 : Value} {d0 : Nat} {as : List Addr} {h₀ : Heap} {g : List Code} (b : Nat) (x : ExcC K C e t0 s.heap) (hc : clsIn K C = some cd) (hn : cd.name = nm) (hN : Str.ofString ((nm.toString.cutAt '.').getLastD "") = N)
    (ht : s.heap.TupAt t0 [u0]) (hu0 : ReprK prog w as h₀ d0 u0 T) (hg : A.guards = some g) (hcl : ∀ b ∈ as, Clear g b) (hu : A.units + d0 < cLine) (hk : ∀ b o, h₀.get? b = some o → s.heap.get? b = some o) {Q : Fin → Shared → Prop}
    (hq : ∀ u h' tk, (∀ b o, s.heap.get? b = some o → h'.get? b = some o) → Q (.done (.ret (.str (N ++ Str.ofString "(" ++ T ++ Str.ofString ")") u))) { s with heap := h', toks := tk })
    (hsz : b + (N ++ Str.ofString "(" ++ T ++ Str.ofString ")").length ≤ sizeLine) :
    wpAny (model prog w) A (bexcReprAt b ⟨[.ref e], []⟩) Q E s := by
  have e1 := hsz
  have hsz2 : (N ++ Str.ofString "(" ++ T ++ Str.ofString ")").length ≤ sizeLine := Nat.le_trans (Nat.le_add_left _ b) e1
  have eP : (Str.ofString "(").length = 1 := by rw [ofString_length]; rfl
  rw [strLen_append, strLen_append, strLen_append, eP] at e1
  have hpile : b + (N.length + 1) + T.length ≤ sizeLine := by omega
  unfold bexcReprAt
  refine wpAny_bind (wpAny_of_eq (a := ((Value.ref e : Value), ([] : List Value))) (by first | rfl | (simp only [slotArgs]; rfl)) ?_)
  refine wpAny_bind (tnm x hc hn ?_)
  refine wpAny_bind (bexcArgs_C x ht ?_)
  dsimp only
  rw [hN]
  refine wpAny_bind (wpAny_rule ?_)
  refine wpAny_bind (hu0 _ hpile A g E s _ hg hcl hu hk (fun h' tk' hk' => ?_))
  unfold retStr
  refine wpAny_bind (wpAny_mkStr (wpAny_pure ?_) hsz2)
  exact hq _ _ _ hk'
end
end KaX


set_option maxRecDepth 100000
set_option maxHeartbeats 2000000
namespace KaX
open PySem PySem.Builtin PySem.Builtin.BaseException
open PySem.W (Looks Frag findIn subIn looks_findIn looks_subIn clsIn)
section
variable {prog : Program} {w : World} {A : Around} {E : Value → Shared → Prop} {s : Shared} {K : Frag} {C e t0 : Addr}

theorem twinCall {nm : Str} {cd : ClassData} {N T : Str} {u0 : Value} {d0 : Nat} {as : List Addr} {h₀ : Heap} {g : List Code} (b : Nat) (x : ExcC K C e t0 s.heap) (hc : clsIn K C = some cd) (hn : cd.name = nm) (hN : Str.ofString ((nm.toString.cutAt '.').getLastD "") = N)
    (hB : subIn K (.ref C) (.type "BaseException") = some true)
    (ht : s.heap.TupAt t0 [u0]) (hu0 : ReprK prog w as h₀ d0 u0 T) (hg : A.guards = some g) (hcl : ∀ b ∈ as, Clear g b) (hu : A.units + 1 + d0 < cLine) (hk : ∀ b o, h₀.get? b = some o → s.heap.get? b = some o) {Q : Value → Shared → Prop}
    (hq : ∀ u h' tk, (∀ b o, s.heap.get? b = some o → h'.get? b = some o) → Q (.str (N ++ Str.ofString "(" ++ T ++ Str.ofString ")") u) { s with heap := h', toks := tk })
    (hsz : b + (N ++ Str.ofString "(" ++ T ++ Str.ofString ")").length ≤ sizeLine) :
    wpAny (model prog w) A (call (.builtin "BaseException.__repr__.under") [.ref e, rawInt b]) Q E s := by
  refine wpAny_call (codeAny_call_builtin F.plain_bexc_repr_under F.entry_bexc_repr_under ?_)
  rw [F.check_bexc_repr_under]
  refine wpAny_pure ?_
  unfold «BaseException.__repr__.under»
  rw [reprTwin_eq]
  refine wpAny_bind ?_
  refine PySem.W.check_slot (i := "BaseException.__repr__") (owner := "BaseException") (n := "__repr__") (by decide +kernel) (by decide +kernel) (x.LI hB) (F.args_bexc_repr _) ?_
  exact wpAny_mono (bra b x hc hn hN ht hu0 (by exact hg) hcl (show A.units + 1 + d0 < cLine by omega) hk (fun u h' tk k => hq u h' tk k) hsz) (fun _ _ z => z) fun _ _ z => z

theorem ReprK_exc {nm : Str} {cd : ClassData} {N T : Str} {u0 : Value} {d0 : Nat} {as : List Addr} {h₀ : Heap} (x : ExcC K C e t0 h₀) (hc : clsIn K C = some cd) (hn : cd.name = nm) (hN : Str.ofString ((nm.toString.cutAt '.').getLastD "") = N)
    (hB : subIn K (.ref C) (.type "BaseException") = some true) (hR : findIn K (.ref C) "__repr__" = some (some (.builtin "BaseException.__repr__")))
    (ht : h₀.TupAt t0 [u0]) (hu0 : ReprK prog w as h₀ d0 u0 T) : ReprK prog w as h₀ (d0 + 2) (.ref e) (N ++ Str.ofString "(" ++ T ++ Str.ofString ")") := by
  intro base hb A g E s Q hg hcl hu hk hQ
  have x1 : ExcC K C e t0 s.heap := by
    obtain ⟨X, o, vs, ho, hcc, hd, h0⟩ := x
    exact ⟨X.keeps hk, o, vs, hk _ _ ho, hcc, hd, h0⟩
  have t1 : s.heap.TupAt t0 [u0] := by
    obtain ⟨ot, k, hto, h1, h2⟩ := ht
    exact ⟨ot, k, hk _ _ hto, h1, h2⟩
  have hf : Looks (model prog w) s.heap (typeLookup (.ref C) "__repr__") (some (.builtin "BaseException.__repr__")) := looks_findIn x1.1 hR
  refine wpAny_pyReprUnder_ref (by omega) ?_
  unfold pyReprObjUnder pyReprObjBy
  refine wpAny_bind (wpAny_cRoomFor (by omega) ?_)
  refine wpAny_bind ?_
  unfold specialOf
  refine wpAny_bind (x1.LT.here (hf.here ?_))
  simp only [Option.isNone_some, Bool.false_eq_true, if_false]
  refine wpAny_bind ?_
  simp only [callSpecialIfBoundBy?, bindSpecialIfBound?]
  refine wpAny_holding (wpAny_bind (wpAny_bind ?_))
  unfold specialOf
  refine wpAny_bind (x1.LT.here (hf.here ?_))
  simp only [F.excStr_Exception.repr.bind]
  refine wpAny_bind (wpAny_askSetting (wpAny_ite ?_))
  have fin : wpAny (model prog w) A (call (.builtin "BaseException.__repr__.under") [.ref e, rawInt base]) (fun v s' => ∃ x u, v = .str x u ∧ Q x s') E s :=
    twinCall base x1 hc hn hN hB t1 hu0 hg hcl (by omega) hk (fun u h' tk k => ⟨_, _, rfl, hQ h' tk k⟩) hb
  have htw : reprUnder? (.builtin "BaseException.__repr__") = some (.builtin "BaseException.__repr__.under") := by kernel_rfl
  have fin2 : wpAny (model prog w) A (do
            let r ← call (.builtin "BaseException.__repr__.under") [.ref e, rawInt base]
            pure (some r)) (fun a s' => wpAny (model prog w) A (match a with
              | some r => do
                let c ← isInstance r (Value.type "str")
                if c = true then pure r
                  else do
                    let n ← typeNameOf r
                    raiseErrorMade "TypeError" (toString "__repr__ returned non-string (type " ++ toString n ++ toString ")")
              | none => unsupported "repr:special-get-raises") (fun v s' => ∃ x u, v = .str x u ∧ Q x s') E s') E s := by
    refine wpAny_bind (wpAny_mono fin (fun v s' hv => ?_) fun _ _ z => z)
    obtain ⟨y, u, rfl, hq⟩ := hv
    refine wpAny_pure ?_
    exact wpAny_bind (wpAny_isInstance (T := "str") (b := true) rfl isSubtype_str_str (wpAny_pure ⟨_, _, rfl, hq⟩))
  split
  · refine wpAny_bind (wpAny_pure (wpAny_pure ?_))
    simp only [htw]
    exact fin2
  · refine wpAny_tryCatch (wpAny_bind (wpAny_pure (wpAny_pure ?_)))
    simp only [htw]
    exact fin2
end
end KaX


set_option maxRecDepth 100000
set_option maxHeartbeats 2000000
/-! a def's promise where the guards around are known -/
namespace KaG
open PySem PySem.Spec PyProof.Rows L2

structure GR (k : Nat) (A : Around) : Prop where
  gd : A.guards = some []
  dp : A.depth + 3 * k + 5 < recursionLimit
  un : A.units + 16 * k + 200 < cLine
theorem GR.low {j k : Nat} {A : Around} (r : GR k A) (h : j ≤ k) : GR j A := ⟨r.gd, by have := r.dp; omega, by have := r.un; omega⟩
theorem GR.into {k : Nat} {A : Around} (r : GR (k + 1) A) (env : Env) (h : (A.deeper env).guards = A.guards := by rfl) : GR k (A.deeper env) :=
  ⟨by rw [h]; exact r.gd, by have := r.dp; show A.depth + 1 + 3 * k + 5 < _; omega, by have := r.un; show A.units + 3 + 16 * k + 200 < _; omega⟩
theorem GR.room {k : Nat} {A : Around} (r : GR k A) (h : A.handled = none) : Room k A := ⟨h, r.dp, r.un⟩

/-- the promise: c tells whether nothing is handled around -/
structure FnG (c : Bool) (P : Program) (w : World) (K : PySem.W.Frag) (mg : Str → Option Value) (base : Heap) (CX : CXT) (k : Nat) (f : Addr) (fd : FuncData) (ps : List Str) (sp : Sp) : Prop where
  len : ∀ vs H Q E, sp vs H Q E → vs.length = ps.length
  run : ∀ (A : Around) (outer : List Env) (s : Shared) (H : Hp) (args : Args) (us : List Value) (vs : List V) (Q : VK) (E : XK), GR k A → (c = true → A.handled = none) → Env0 P w K mg base A outer s H →
    BindsTo s fd args (ps.zip us) → Vals vs us → sp vs H Q E → codeAny (model P w) A (.call (.ref f) args) (CR CX outer P w H s Q E) s

/-- the same context under another look at what runs around -/
def recx (X : Cx) (A : Around) (c : Bool) : Cx := { X with A := A, calm := c }
theorem inv_re {X : Cx} {pins : List (Addr × Obj)} {σ : L2.St} {H : Hp} {s : Shared} (I : Inv X pins σ H s) (A : Around) (c : Bool) (hf : A.frames = some X.stack) (hc : c = true → A.handled = none) : Inv (recx X A c) pins σ H s :=
  let o := I.ok
  ⟨⟨o.mod, o.kind, o.glob, o.blt, o.above, o.inj, o.has, o.cab, hc, hf, o.stk, o.exf, o.bs, o.bsz, o.noex, o.exfs, o.funs, o.frf⟩, I.os, I.bare, I.base, I.loc, I.cell, I.free, I.freeC, I.pin, I.hok, I.len⟩

/-- the context of such a def's body -/
def cxG (c : Bool) (CX : CXT) (P : Program) (w : World) (K : PySem.W.Frag) (mg : Str → Option Value) (base : Heap) (N : List Str) (qual : Str) (scope : Scope) (f : Addr) (cd : Value) (A : Around) (outer : List Env) (s : Shared) (H : Hp) (E : XK) : Cx :=
  { cxOf CX P w K mg base N qual scope f cd A outer s H E with calm := c }

theorem fnG_of {c : Bool} {CX : CXT} {P : Program} {w : World} {K : PySem.W.Frag} {mg : Str → Option Value} {base : Heap} {k : Nat} {x qual : Str} {st : Stmt} {f : Addr} {fd : FuncData} {N ps : List Str} {sp : Sp} (F : Fun K x qual st f fd) (S : FnScope N ps (defScope st))
    (len : ∀ vs H Q E, sp vs H Q E → vs.length = ps.length)
    (hbody : ∀ (cdv : Value) (A : Around) (outer : List Env) (s : Shared) (H : Hp) (vs : List V) (Q : VK) (E : XK), GR k (A.deeper (envOfC qual (defScope st) s.heap.objs.size f cdv)) → (c = true → A.handled = none) → sp vs H Q E →
      ∃ t, PSs (cxG c CX P w K mg base N qual (defScope st) f cdv A outer s H E) (defBody st) t ∧ t { nx := fun _ H' => Q .non H', rt := Q } (start N vs) H) :
    FnG c P w K mg base CX (k + 1) f fd ps sp := by
  obtain ⟨oc, od, kV, doc, pm, an, cdv, ct, osl, rfl, lk, hcd⟩ := F.ex
  refine ⟨len, fun A outer s H args us vs Q E hr hcm e0 hb r hsp => ?_⟩
  have hl := len _ _ _ _ hsp
  have KX : K.In s.heap := e0.mod.kin.keeps fun b o e => (e0.bs b o e).1
  have lim : s.heap.NoLimit := e0.mod.nolimit.keeps fun b o e => (e0.bs b o e).1
  have hkind : ∀ y ∈ ps.zip us, (defScope st).names.lookup y.1 = some .local ∨ ((defScope st).names.lookup y.1 = some .cell ∧ ((cellsFrom (s.heap.objs.size + 1) (defScope st).names []).lookup y.1).isSome = true) := by
    rintro ⟨n, v⟩ hy
    rcases S.par n (List.of_mem_zip hy).1 with q | q
    · exact Or.inl q
    · exact Or.inr ⟨q, PySem.W.cellsFrom_some _ _ _ (.inl q)⟩
  refine codeAny_call_function (by have := hr.dp; omega) (KX _ _ lk) rfl S.co S.gen rfl (PySem.W.codeRec_of KX hcd) (hb _ _ _ _ ?_)
  refine wpAny_newFunctionEnv_cells S.kind hkind fun env he s1 y => ?_
  subst he
  refine ⟨lim.keeps y.toInCall.keep, codeAny_func ?_⟩
  obtain ⟨t, ht, hq⟩ := hbody cdv A outer s H vs Q E (hr.into _) hcm hsp
  have I0 : Inv (cxOf CX P w K mg base N qual (defScope st) f cdv ({ A with handled := none }) outer s H E) [] (start N vs) H s1 :=
    inv_start S rfl ⟨e0.frames, e0.mod, e0.bs, e0.bsz, e0.funs, e0.frf, e0.hok, e0.bare⟩ hl r y
  have I : Inv (cxG c CX P w K mg base N qual (defScope st) f cdv A outer s H E) [] (start N vs) H s1 := by
    have J := inv_re I0 (A.deeper (envOfC qual (defScope st) s.heap.objs.size f cdv)) c (Around.frames_deeper e0.frames) (fun z => hcm z)
    exact ⟨⟨J.ok.mod, J.ok.kind, J.ok.glob, J.ok.blt, J.ok.above, J.ok.inj, J.ok.has, J.ok.cab, J.ok.hd, J.ok.frames, J.ok.stk, J.ok.exf, J.ok.bs, J.ok.bsz, J.ok.noex, J.ok.exfs, J.ok.funs, J.ok.frf⟩, J.os, J.bare, J.base, J.loc, J.cell, J.free, J.freeC, J.pin, J.hok, J.len⟩
  refine wpAny_mono (ht.run [] s1 (start N vs) H _ I hq) (fun fl s' hs => ?_) fun e s' hs => hs
  have fin : ∀ {σ' : L2.St} {H' : Hp} {v : V} {u : Value}, Inv (cxG c CX P w K mg base N qual (defScope st) f cdv A outer s H E) [] σ' H' s' → RelV v u → Q v H' → CE outer P w H s Q u s' := by
    intro σ' H' v u J rv q
    exact ⟨v, H', J.os, J.bare, J.base, J.hok, rv, q⟩
  cases fl with
  | ret u => obtain ⟨v, σ', H', J, rv, q⟩ := hs; exact fin J rv q
  | next => obtain ⟨σ', H', J, q⟩ := hs; exact fin (v := V.non) (u := Value.none) J rfl q
  | brk => obtain ⟨_, _, _, q⟩ := hs; exact q.elim
  | cont => obtain ⟨_, _, _, q⟩ := hs; exact q.elim
end KaG


set_option maxRecDepth 100000
set_option maxHeartbeats 2000000
/-! what is shown: the text of a value, by the abstract heap -/
namespace KaG
open PySem PySem.Spec PyProof.Rows L2
/-- an exception at a, of the class at C, its own dict (none as yet | at d), its arguments at t1 -/
def exw (a C : Addr) (d : Option Addr) (t1 : Addr) : HO := .ext fun h => h.get? a = some ({ cls := .ref C, dict := d, data := .fields #[.ref t1, .none, .none, .none, .bool false, .none] } : Obj)
theorem exw_at {P : Program} {w : World} {H : Hp} {h : Heap} {a C t1 : Addr} {d : Option Addr} (hok : HOk P w H h) (e : H a = some (exw a C d t1)) : h.get? a = some ({ cls := .ref C, dict := d, data := .fields #[.ref t1, .none, .none, .none, .bool false, .none] } : Obj) := by
  have x : ObjOk P w H h a (.ext fun h => h.get? a = some ({ cls := .ref C, dict := d, data := .fields #[.ref t1, .none, .none, .none, .bool false, .none] } : Obj)) := hok a _ e
  exact x.1
theorem exw_ok {P : Program} {w : World} {H : Hp} {h : Heap} {a C t1 : Addr} {d : Option Addr} (e : h.get? a = some ({ cls := .ref C, dict := d, data := .fields #[.ref t1, .none, .none, .none, .bool false, .none] } : Obj)) : ObjOk P w H h a (exw a C d t1) :=
  ⟨e, ⟨_, e⟩, fun h1 h2 z k => k _ z⟩

mutual
inductive Sh (H : Hp) (CW : Addr) (NW : Str) : List Addr → Nat → V → Str → Prop
  | non {as d} : Sh H CW NW as d .non "None"
  | bl {as d} (b : Bool) : Sh H CW NW as d (.bl b) (if b then "True" else "False")
  | int {as d} (i : Int) (h : i.natAbs.log2 < 1920) : Sh H CW NW as d (.int i) (toString i : String)
  | str {as d} (x : Str) : Sh H CW NW as d (.str x) (reprText x)
  | lst {as as' d a xs ts} (e : H a = some (.lst xs)) (ha : a ∈ as') (hs : ∀ b ∈ as, b ∈ as') (hn : a ∉ as) (hi : ShA H CW NW as d xs ts) : Sh H CW NW as' (d + 1) (.ref a) (listText ts)
  | tup {as as' d a xs ts} (e : H a = some (.tup xs)) (ha : a ∈ as') (hs : ∀ b ∈ as, b ∈ as') (hn : a ∉ as) (hi : ShA H CW NW as d xs ts) : Sh H CW NW as' (d + 1) (.ref a) (tupleText ts)
  | dct {as as' d a kvs ps} (e : H a = some (.dK kvs)) (ha : a ∈ as') (hs : ∀ b ∈ as, b ∈ as') (hn : a ∉ as) (hi : ShD H CW NW as d kvs ps) : Sh H CW NW as' (d + 1) (.ref a) (dictText ps)
  | exc {as as' d a dd t1 v t} (e : H a = some (exw a CW dd t1)) (et : H t1 = some (.tup [v])) (ha : a ∈ as') (ht : t1 ∈ as') (hd : ∀ b, dd = some b → b ∈ as' ∧ ∃ fs, H b = some (exd b fs)) (hs : ∀ b ∈ as, b ∈ as') (hi : Sh H CW NW as d v t) : Sh H CW NW as' (d + 2) (.ref a) (NW ++ Str.ofString "(" ++ t ++ Str.ofString ")")
inductive ShA (H : Hp) (CW : Addr) (NW : Str) : List Addr → Nat → List V → List Str → Prop
  | nil {as d} : ShA H CW NW as d [] []
  | cons {as d v t vs ts} (h : Sh H CW NW as d v t) (r : ShA H CW NW as d vs ts) : ShA H CW NW as d (v :: vs) (t :: ts)
inductive ShD (H : Hp) (CW : Addr) (NW : Str) : List Addr → Nat → List (Key × V) → List Str → Prop
  | nil {as d} : ShD H CW NW as d [] []
  | cons {as d x v t kvs ps} (h : Sh H CW NW as d v t) (r : ShD H CW NW as d kvs ps) : ShD H CW NW as d ((Sum.inr x, v) :: kvs) ((reprText x ++ ": " ++ t) :: ps)
end

/-- what the written part says of the class of such exceptions -/
structure WrK (K : PySem.W.Frag) (CW : Addr) (NW : Str) : Prop where
  cl : ∃ cd : ClassData, PySem.W.clsIn K CW = some cd ∧ Str.ofString ((cd.name.toString.cutAt '.').getLastD "") = NW
  ex : PySem.W.subIn K (.ref CW) (.type "BaseException") = some true
  rp : PySem.W.findIn K (.ref CW) "__repr__" = some (some (.builtin "BaseException.__repr__"))
  eq : PySem.W.findIn K (.ref CW) "__eq__" = some (some (.builtin "object.__eq__"))
  ob : PySem.W.subIn K (.ref CW) (.type "object") = some true

section
variable {P : Program} {w : World} {K : PySem.W.Frag} {H : Hp} {CW : Addr} {NW : Str} {h : Heap}
theorem ReprK.str' {as : List Addr} {d : Nat} (x : Str) (t : Tok) : ReprK P w as h d (.str x t) (reprText x) := by
  intro base hb
  exact (ReprK.of_is (ReprIs.str x t (Nat.le_trans (Nat.le_add_left _ base) hb)) as h d) base hb
mutual
theorem Sh.run (T : WrK K CW NW) (X : K.In h) (hok : HOk P w H h) : ∀ {as : List Addr} {d : Nat} {v : V} {t : Str}, Sh H CW NW as d v t → ∀ u, RelV v u → ReprK P w as h d u t
  | _, _, _, _, .non, u, r => by cases (show u = Value.none from r); exact ReprK.of_is ReprIs.none _ _ _
  | _, _, _, _, .bl b, u, r => by cases (show u = Value.bool b from r); exact ReprK.of_is (ReprIs.bool b) _ _ _
  | _, _, _, _, .int i hi, u, r => by
    obtain ⟨tk, q⟩ := (show ∃ t, u = Value.int i t from r)
    cases q
    exact ReprK.of_is (ReprIs.int tk hi) _ _ _
  | _, _, _, _, .str x, u, r => by
    obtain ⟨tk, q⟩ := (show ∃ t, u = Value.str x t from r)
    cases q
    exact ReprK.str' x tk
  | _, _, _, _, .lst (as := as0) (a := a) (xs := xs) e ha hs hn hi, u, r => by
    cases (show u = Value.ref a from r)
    obtain ⟨_, its, n, rv, ho⟩ := (show ObjOk P w H h a (.lst xs) from hok a _ e)
    have hA := ShA.run T X hok hi its rv
    refine ReprK.more (as := a :: as0) ?_ (fun b hb => ?_)
    · cases its with
      | nil =>
        cases hA
        rw [listText_nil]
        exact (ReprK.listEmpty ho rfl rfl).level_le (Nat.le_succ _)
      | cons x l => exact ReprK.list ho rfl rfl hn (by simpa using hA.length_eq) (fun i y q => hA.item i y (by simpa using q))
    · rcases List.mem_cons.mp hb with z | z
      · rw [z]; exact ha
      · exact hs b z
  | _, _, _, _, .tup (as := as0) (a := a) (xs := xs) e ha hs hn hi, u, r => by
    cases (show u = Value.ref a from r)
    obtain ⟨_, its, rv, o, ho, hc, n, hd⟩ := (show ObjOk P w H h a (.tup xs) from hok a _ e)
    have hA := ShA.run T X hok hi its rv
    refine ReprK.more (as := a :: as0) (ReprK.tuple ho hc hd hn (by simpa using hA)) (fun b hb => ?_)
    rcases List.mem_cons.mp hb with z | z
    · rw [z]; exact ha
    · exact hs b z
  | _, _, _, _, .dct (as := as0) (a := a) (kvs := kvs) e ha hs hn hi, u, r => by
    cases (show u = Value.ref a from r)
    obtain ⟨_, hsys, vs, kv, o, es, ep, ho, hx, hd, _, hp, _⟩ := (show ObjOk P w H h a (.dK kvs) from hok a _ e)
    have hE := ShD.run T X hok hi vs kv es.toList hp
    refine ReprK.more (as := a :: as0) (ReprK.dict ho hx.1 hd hsys hn hE) (fun b hb => ?_)
    rcases List.mem_cons.mp hb with z | z
    · rw [z]; exact ha
    · exact hs b z
  | _, _, _, _, .exc (a := a) (t1 := t1) (v := v) e et ha ht _ hs hi, u, r => by
    cases (show u = Value.ref a from r)
    have ho := exw_at hok e
    obtain ⟨_, its, rv, o, hto, hc, n, hd⟩ := (show ObjOk P w H h t1 (.tup [v]) from hok t1 _ et)
    cases rv with
    | cons r1 r2 =>
      cases r2
      obtain ⟨cd, hcd, hN⟩ := T.cl
      have x : ExcC K CW a t1 h := ⟨X, _, _, ho, rfl, rfl, rfl⟩
      exact KaX.ReprK_exc x hcd rfl hN T.ex T.rp ⟨o, n, hto, hc, hd⟩ ((Sh.run T X hok hi _ r1).more hs)
theorem ShA.run (T : WrK K CW NW) (X : K.In h) (hok : HOk P w H h) : ∀ {as : List Addr} {d : Nat} {vs : List V} {ts : List Str}, ShA H CW NW as d vs ts → ∀ us, Vals vs us → ReprAllK P w as h d us ts
  | _, _, _, _, .nil, us, r => by cases r; exact .nil
  | _, _, _, _, .cons h1 h2, us, r => by
    cases r with
    | cons r1 r2 => exact .cons (Sh.run T X hok h1 _ r1) (ShA.run T X hok h2 _ r2)
theorem ShD.run (T : WrK K CW NW) (X : K.In h) (hok : HOk P w H h) : ∀ {as : List Addr} {d : Nat} {kvs : List (Key × V)} {ps : List Str}, ShD H CW NW as d kvs ps → ∀ vs, KV kvs vs → ∀ es, Pairs (mixKind P w) es vs → ReprEntriesK P w as h d es ps
  | _, _, _, _, .nil, vs, r, es, hp => by
    cases r
    cases hp
    exact .nil
  | _, _, _, _, .cons (x := x) h1 h2, vs, r, es, hp => by
    cases r with
    | cons r1 r2 =>
      rename_i q1 q2
      cases hp with
      | cons hk hv hp2 =>
        obtain ⟨e1, rv⟩ := r1
        have e1' : Sum.inr x = q1.1 := e1
        rw [← e1', mixKind_is] at hk
        rcases keyIs_shape hk with ⟨i, tk, z, _⟩ | ⟨y, tk, z, ek⟩
        · cases z
        · cases z
          refine .cons ?_ (Sh.run T X hok h1 _ (by rw [hv]; exact rv)) (ShD.run T X hok h2 _ r2 _ hp2)
          rw [ek]
          exact ReprK.str' x tk
end
end
end KaG


set_option maxRecDepth 100000
set_option maxHeartbeats 2000000
namespace KaG
open PySem PySem.Spec PyProof.Rows L2
section
variable {H H' : Hp} {CW : Addr} {NW : Str}
mutual
theorem Sh.wide : ∀ {as bs : List Addr} {d e : Nat} {v : V} {t : Str}, Sh H CW NW as d v t → (∀ b ∈ as, b ∈ bs) → d ≤ e → Sh H CW NW bs e v t
  | _, _, _, _, _, _, .non, _, _ => .non
  | _, _, _, _, _, _, .bl b, _, _ => .bl b
  | _, _, _, _, _, _, .int i h, _, _ => .int i h
  | _, _, _, _, _, _, .str x, _, _ => .str x
  | _, _, _, e + 1, _, _, .lst x1 x2 x3 x4 x5, k, hd => .lst x1 (k _ x2) (fun b z => k b (x3 b z)) x4 (ShA.wide x5 (fun _ z => z) (Nat.le_of_succ_le_succ hd))
  | _, _, _, e + 1, _, _, .tup x1 x2 x3 x4 x5, k, hd => .tup x1 (k _ x2) (fun b z => k b (x3 b z)) x4 (ShA.wide x5 (fun _ z => z) (Nat.le_of_succ_le_succ hd))
  | _, _, _, e + 1, _, _, .dct x1 x2 x3 x4 x5, k, hd => .dct x1 (k _ x2) (fun b z => k b (x3 b z)) x4 (ShD.wide x5 (fun _ z => z) (Nat.le_of_succ_le_succ hd))
  | _, _, _, e + 2, _, _, .exc x1 x2 x3 x4 x7 x5 x6, k, hd => .exc x1 x2 (k _ x3) (k _ x4) (fun b z => ⟨k _ (x7 b z).1, (x7 b z).2⟩) (fun b z => k b (x5 b z)) (Sh.wide x6 (fun _ z => z) (Nat.le_of_succ_le_succ (Nat.le_of_succ_le_succ hd)))
theorem ShA.wide : ∀ {as bs : List Addr} {d e : Nat} {vs : List V} {ts : List Str}, ShA H CW NW as d vs ts → (∀ b ∈ as, b ∈ bs) → d ≤ e → ShA H CW NW bs e vs ts
  | _, _, _, _, _, _, .nil, _, _ => .nil
  | _, _, _, _, _, _, .cons h r, k, hd => .cons (Sh.wide h k hd) (ShA.wide r k hd)
theorem ShD.wide : ∀ {as bs : List Addr} {d e : Nat} {vs : List (Key × V)} {ts : List Str}, ShD H CW NW as d vs ts → (∀ b ∈ as, b ∈ bs) → d ≤ e → ShD H CW NW bs e vs ts
  | _, _, _, _, _, _, .nil, _, _ => .nil
  | _, _, _, _, _, _, .cons h r, k, hd => .cons (Sh.wide h k hd) (ShD.wide r k hd)
end
mutual
theorem Sh.fr : ∀ {as : List Addr} {d : Nat} {v : V} {t : Str}, Sh H CW NW as d v t → (∀ b ∈ as, H' b = H b) → Sh H' CW NW as d v t
  | _, _, _, _, .non, _ => .non
  | _, _, _, _, .bl b, _ => .bl b
  | _, _, _, _, .int i h, _ => .int i h
  | _, _, _, _, .str x, _ => .str x
  | _, _, _, _, .lst x1 x2 x3 x4 x5, k => .lst ((k _ x2).trans x1) x2 x3 x4 (ShA.fr x5 fun b z => k b (x3 b z))
  | _, _, _, _, .tup x1 x2 x3 x4 x5, k => .tup ((k _ x2).trans x1) x2 x3 x4 (ShA.fr x5 fun b z => k b (x3 b z))
  | _, _, _, _, .dct x1 x2 x3 x4 x5, k => .dct ((k _ x2).trans x1) x2 x3 x4 (ShD.fr x5 fun b z => k b (x3 b z))
  | _, _, _, _, .exc x1 x2 x3 x4 x7 x5 x6, k => .exc ((k _ x3).trans x1) ((k _ x4).trans x2) x3 x4 (fun b z => ⟨(x7 b z).1, let ⟨fs, q⟩ := (x7 b z).2; ⟨fs, (k _ (x7 b z).1).trans q⟩⟩) x5 (Sh.fr x6 fun b z => k b (x5 b z))
theorem ShA.fr : ∀ {as : List Addr} {d : Nat} {vs : List V} {ts : List Str}, ShA H CW NW as d vs ts → (∀ b ∈ as, H' b = H b) → ShA H' CW NW as d vs ts
  | _, _, _, _, .nil, _ => .nil
  | _, _, _, _, .cons h r, k => .cons (Sh.fr h k) (ShA.fr r k)
theorem ShD.fr : ∀ {as : List Addr} {d : Nat} {vs : List (Key × V)} {ts : List Str}, ShD H CW NW as d vs ts → (∀ b ∈ as, H' b = H b) → ShD H' CW NW as d vs ts
  | _, _, _, _, .nil, _ => .nil
  | _, _, _, _, .cons h r, k => .cons (Sh.fr h k) (ShD.fr r k)
end
theorem Sh.same {as : List Addr} {d : Nat} {v : V} {t : Str} (h : Sh H CW NW as d v t) (s : Same H H') (k : ∀ b ∈ as, H b ≠ none) : Sh H' CW NW as d v t := h.fr fun b hb => by
  cases e : H b with
  | none => exact absurd e (k b hb)
  | some o => rw [s b o e]
theorem ShA.same {as : List Addr} {d : Nat} {vs : List V} {ts : List Str} (h : ShA H CW NW as d vs ts) (s : Same H H') (k : ∀ b ∈ as, H b ≠ none) : ShA H' CW NW as d vs ts := h.fr fun b hb => by
  cases e : H b with
  | none => exact absurd e (k b hb)
  | some o => rw [s b o e]
theorem ShA.len : ∀ {as : List Addr} {d : Nat} {vs : List V} {ts : List Str}, ShA H CW NW as d vs ts → ts.length = vs.length
  | _, _, _, _, .nil => rfl
  | _, _, _, _, .cons _ r => by rw [List.length_cons, List.length_cons, r.len]
theorem ShA.get : ∀ {as : List Addr} {d : Nat} {vs : List V} {ts : List Str} {i : Nat} {v : V}, ShA H CW NW as d vs ts → vs[i]? = some v → ∃ t, t ∈ ts ∧ Sh H CW NW as d v t
  | _, _, _, _, i, _, .nil, e => by simp at e
  | _, _, _, _, 0, _, .cons (t := t) h r, e => by
    have e' := Option.some.inj e
    subst e'
    exact ⟨t, List.mem_cons_self .., h⟩
  | _, _, _, _, i + 1, _, .cons h r, e => by
    obtain ⟨t, m, q⟩ := ShA.get r (show _ = some _ from e)
    exact ⟨t, List.mem_cons_of_mem _ m, q⟩
theorem ShA.app : ∀ {as : List Addr} {d : Nat} {vs ws : List V} {ts us : List Str}, ShA H CW NW as d vs ts → ShA H CW NW as d ws us → ShA H CW NW as d (vs ++ ws) (ts ++ us)
  | _, _, _, _, _, _, .nil, q => q
  | _, _, _, _, _, _, .cons h r, q => .cons h (r.app q)
end
end KaG


set_option maxRecDepth 100000
set_option maxHeartbeats 2000000
namespace KaG
open PySem PySem.Spec PyProof.Rows L2
/-! ### lengths of texts -/
theorem piled_le {n : Nat} : ∀ {ts : List Str}, (∀ t ∈ ts, t.length ≤ n) → piled ts ≤ ts.length * (n + 2)
  | [], _ => by rw [piled_nil]; exact Nat.zero_le _
  | t :: r, h => by
    have h1 := h t (List.mem_cons_self ..)
    have h2 := piled_le (ts := r) fun u hu => h u (List.mem_cons_of_mem _ hu)
    rw [piled_cons, List.length_cons, Nat.succ_mul]
    omega
theorem listText_le (ts : List Str) : (listText ts).length ≤ piled ts + 2 := by
  cases ts with
  | nil => rw [listText_nil]; decide
  | cons t r =>
    have h := textFrom_length_pos r 1 (("[" : Str) ++ (if (0 : Nat) > 0 then ", " else "" : String) ++ t) (Nat.succ_pos 0)
    have e : ((("[" : Str) ++ (if (0 : Nat) > 0 then ", " else "" : String) ++ t)).length = 1 + t.length := by
      rw [strLen_append, strLen_append]; rfl
    have hX : (listText (t :: r)).length = (textFrom 0 "[" (t :: r)).length + 1 := by
      show (textFrom 0 "[" (t :: r) ++ "]").length = _
      rw [strLen_append]; rfl
    have hY : (textFrom 0 "[" (t :: r)).length = (textFrom 1 (("[" : Str) ++ (if (0 : Nat) > 0 then ", " else "" : String) ++ t) r).length := rfl
    rw [hX, hY, h, e, piled_cons]; omega
theorem join_le (ts : List Str) : (Str.join ", " ts).length ≤ piled ts := by
  by_cases h : ts = []
  · subst h; exact Nat.zero_le _
  · have := join_length_add ts h
    omega
theorem tupleText_le (ts : List Str) : (tupleText ts).length ≤ piled ts + 3 := by
  unfold tupleText
  rw [strLen_append, strLen_append]
  have e1 : ((("(" : String) : Str)).length = 1 := rfl
  have e3 : (((if ts.length == 1 then ",)" else ")" : String) : Str)).length ≤ 2 := by split <;> decide
  have := join_le ts
  omega
theorem dictText_le (ts : List Str) : (dictText ts).length ≤ piled ts + 2 := by
  unfold dictText
  rw [strLen_append, strLen_append]
  have e1 : ((("{" : String) : Str)).length = 1 := rfl
  have e2 : ((("}" : String) : Str)).length = 1 := rfl
  have := join_le ts
  omega

/-! ### what a step may do beside: new objects, and the bag's own list -/
/-- the bag at bg: four items, the last one the list of what is drawn from -/
def Bag (H : Hp) (bg : Addr) : Prop := ∃ (c st i : Int) (b : Addr) (ns : List Int), H bg = some (.lst [.int c, .int st, .int i, .ref b]) ∧ H b = some (.lst (ns.map V.int)) ∧ 0 ≤ c ∧ 0 ≤ i ∧ ns.length ≤ 100
/-- b is the bag's own list of cells -/
def Inn (H : Hp) (bg b : Addr) : Prop := ∃ c st i : Int, H bg = some (.lst [.int c, .int st, .int i, .ref b])
structure Ext (bg : Addr) (H H' : Hp) : Prop where
  keep : ∀ b o, b ≠ bg → H b = some o → H' b = some o
  bag : Bag H' bg
  inn : ∀ b, Inn H bg b → Inn H' bg b
theorem Bag.there {H : Hp} {bg : Addr} (h : Bag H bg) : H bg ≠ none := by
  obtain ⟨c, st, i, b, ns, h1, _⟩ := h
  rw [h1]
  exact fun z => nomatch z
theorem Bag.same {H H' : Hp} {bg : Addr} (h : Bag H bg) (s : Same H H') : Bag H' bg := by
  obtain ⟨c, st, i, b, ns, h1, h2, h3⟩ := h
  exact ⟨c, st, i, b, ns, s _ _ h1, s _ _ h2, h3⟩
theorem same_upd {H : Hp} {p : Addr} {o : HO} (h : H p = none) : Same H (upd H p o) := fun b u e => by
  rw [upd_ne (ne_of_none e h)]
  exact e
theorem Same.refl' {H : Hp} : Same H H := fun _ _ e => e
theorem Same.tr {H H1 H2 : Hp} (s : Same H H1) (t : Same H1 H2) : Same H H2 := fun b o e => t b o (s b o e)
theorem Ext.of_same {bg : Addr} {H H' : Hp} (h : Bag H bg) (s : Same H H') : Ext bg H H' := ⟨fun b o _ e => s b o e, h.same s, fun _ ⟨c, st, i, e⟩ => ⟨c, st, i, s _ _ e⟩⟩
theorem Ext.trans {bg : Addr} {H H1 H2 : Hp} (a : Ext bg H H1) (b : Ext bg H1 H2) : Ext bg H H2 := ⟨fun x o n e => b.keep x o n (a.keep x o n e), b.bag, fun x h => b.inn x (a.inn x h)⟩
theorem Ext.new {bg p : Addr} {H H1 : Hp} {o : HO} (a : Ext bg H H1) (h : H1 p = none) : Ext bg H (upd H1 p o) := a.trans (Ext.of_same a.bag (same_upd h))
theorem Ext.stay {bg : Addr} {H H' : Hp} (a : Ext bg H H') {b : Addr} (h : H b ≠ none) : H' b ≠ none := by
  by_cases e : b = bg
  · rw [e]; exact a.bag.there
  · cases q : H b with
    | none => exact absurd q h
    | some o => rw [a.keep b o e q]; exact fun z => nomatch z
/-- as are new between H and H' -/
def Nw (H H' : Hp) (as : List Addr) : Prop := ∀ b ∈ as, H b = none ∧ H' b ≠ none
section
variable {CW : Addr} {NW : Str} {bg : Addr} {H H1 H2 : Hp}
theorem Sh.ext {as : List Addr} {d : Nat} {v : V} {t : Str} (h : Sh H1 CW NW as d v t) (hb : bg ∉ as) (s : Ext bg H1 H2) (k : ∀ b ∈ as, H1 b ≠ none) : Sh H2 CW NW as d v t := h.fr fun b m => by
  cases e : H1 b with
  | none => exact absurd e (k b m)
  | some o => exact s.keep b o (fun z => hb (z ▸ m)) e
theorem ShA.ext {as : List Addr} {d : Nat} {vs : List V} {ts : List Str} (h : ShA H1 CW NW as d vs ts) (hb : bg ∉ as) (s : Ext bg H1 H2) (k : ∀ b ∈ as, H1 b ≠ none) : ShA H2 CW NW as d vs ts := h.fr fun b m => by
  cases e : H1 b with
  | none => exact absurd e (k b m)
  | some o => exact s.keep b o (fun z => hb (z ▸ m)) e
theorem Nw.out {as : List Addr} (n : Nw H H1 as) {b : Addr} (h : H b ≠ none) : b ∉ as := fun m => h (n b m).1
theorem Nw.ext {as : List Addr} (n : Nw H H1 as) (s : Ext bg H1 H2) : Nw H H2 as := fun b m => ⟨(n b m).1, s.stay (n b m).2⟩
theorem Nw.before {as : List Addr} (n : Nw H1 H2 as) (s : Ext bg H H1) : Nw H H2 as := fun b m => ⟨by
  cases e : H b with
  | none => rfl
  | some o => exact absurd (n b m).1 (s.stay (by rw [e]; exact fun z => nomatch z)), (n b m).2⟩
end

/-! ### good values, one by one -/
/-- an expression that gives a good value: told by its text's length, its depth -/
def tG (CW : Addr) (NW : Str) (i : Nat) (bg : Addr) (d n : Nat) : TE := fun σ H Q => (Bag H bg ∧ σ[i]? = some (some (.ref bg))) ∧ ∀ v H' as t, Ext bg H H' → Sh H' CW NW as d v t → t.length ≤ n → Nw H H' as → Q v H'
def tGs (CW : Addr) (NW : Str) (i : Nat) (bg : Addr) (d n m : Nat) : TA := fun σ H Q => (Bag H bg ∧ σ[i]? = some (some (.ref bg))) ∧ ∀ vs H' as ts, Ext bg H H' → ShA H' CW NW as d vs ts → (∀ t ∈ ts, t.length ≤ n) → vs.length = m → Nw H H' as → Q vs H'
theorem pe_imp {X : Cx} {e : Expr} {t t' : TE} (h : PE X e t) (k : ∀ σ H Q, t' σ H Q → t σ H Q) : PE X e t' := ⟨fun pins s σ H Q I q => h.run pins s σ H Q I (k σ H Q q)⟩
theorem pa_imp {X : Cx} {es : List Expr} {t t' : TA} (h : PA X es t) (k : ∀ σ H Q, t' σ H Q → t σ H Q) : PA X es t' := ⟨fun pos pins s σ H Q I q => h.run pos pins s σ H Q I (k σ H Q q)⟩
section
variable {X : Cx} {CW : Addr} {NW : Str} {i : Nat} {bg : Addr} {d n m : Nat} {e : Expr} {es : List Expr} {pos : Pos}
theorem pa_g0 : PA X [] (tGs CW NW i bg d n 0) := pa_imp pa_nil fun σ H Q ⟨⟨b, _⟩, k⟩ => k [] H [] [] (Ext.of_same b Same.refl') .nil (fun _ z => nomatch z) rfl (fun _ z => nomatch z)
theorem pa_g1 (h : PE X e (tG CW NW i bg d n)) (r : PA X es (tGs CW NW i bg d n m)) (hs : starEach (e :: es) X.env = (false, eval e X.env) :: starEach es X.env := by rfl) : PA X (e :: es) (tGs CW NW i bg d n (m + 1)) := by
  refine pa_imp (pa_cons h r hs) fun σ H Q z => ?_
  obtain ⟨⟨b, p⟩, k⟩ := z
  refine ⟨⟨b, p⟩, fun v H1 as t E1 s1 l1 n1 => ⟨⟨E1.bag, p⟩, fun vs H2 bs ts E2 s2 l2 hm n2 => ?_⟩⟩
  have b1 : bg ∉ as := n1.out b.there
  refine k (v :: vs) H2 (as ++ bs) (t :: ts) (E1.trans E2) (.cons ((s1.ext b1 E2 fun b m => (n1 b m).2).wide (fun _ z => List.mem_append_left _ z) (Nat.le_refl _)) (s2.wide (fun _ z => List.mem_append_right _ z) (Nat.le_refl _)))
    (fun u hu => ?_) (by rw [List.length_cons, hm]) (fun x hx => ?_)
  · rcases List.mem_cons.mp hu with q | q
    · rw [q]; exact l1
    · exact l2 u q
  · rcases List.mem_append.mp hx with q | q
    · exact n1.ext E2 x q
    · exact n2.before E1 x q
theorem pe_gw {d' n' : Nat} (h : PE X e (tG CW NW i bg d n)) (hd : d ≤ d' := by decide) (hn : n ≤ n' := by decide) : PE X e (tG CW NW i bg d' n') :=
  pe_imp h fun σ H Q ⟨p, k⟩ => ⟨p, fun v H' as t E s l w => k v H' as t E (s.wide (fun _ z => z) hd) (Nat.le_trans l hn) w⟩
theorem pe_gleaf {v : V} {t : Str} (h : PE X e (tC v)) (s : ∀ H, Sh H CW NW [] d v t) (hl : t.length ≤ n) : PE X e (tG CW NW i bg d n) :=
  pe_imp h fun σ H Q ⟨⟨b, _⟩, k⟩ => k v H [] t (Ext.of_same b Same.refl') (s H) hl (fun _ z => nomatch z)
theorem pe_gtup {x1} (h : PA X es (tGs CW NW i bg d n m)) (hz : m ≤ 1000 := by decide) : PE X (.Tuple es x1 pos) (tG CW NW i bg (d + 1) (m * (n + 2) + 3)) := by
  refine pe_imp (pe_tup h) fun σ H Q z => ?_
  obtain ⟨p, k⟩ := z
  refine ⟨p, fun vs H1 as ts E s l hm w => ⟨Nat.le_of_lt (small1000 (by rw [hm]; exact hz)), fun q hq => ?_⟩⟩
  have hl := s.len
  have hp := piled_le l
  rw [hl, hm] at hp
  have nq : q ∉ as := fun z => (w q z).2 hq
  refine k (.ref q) _ (q :: as) (tupleText ts) (E.new hq) (.tup upd_same (List.mem_cons_self ..) (fun b z => List.mem_cons_of_mem _ z) nq (s.same (same_upd hq) fun b z => (w b z).2)) (Nat.le_trans (tupleText_le ts) (by omega)) (fun b z => ?_)
  rcases List.mem_cons.mp z with y | y
  · rw [y, upd_same]
    refine ⟨?_, fun z => nomatch z⟩
    cases e : H q with
    | none => rfl
    | some o => exact absurd hq (E.stay (by rw [e]; exact fun z => nomatch z))
  · exact w.ext (Ext.of_same E.bag (same_upd hq)) b y
theorem pe_glst (h : PA X es (tGs CW NW i bg d n m)) (hz : m ≤ 1000 := by decide) : PE X (.List es pos) (tG CW NW i bg (d + 1) (m * (n + 2) + 2)) := by
  refine pe_imp (pe_lst h) fun σ H Q z => ?_
  obtain ⟨p, k⟩ := z
  refine ⟨p, fun vs H1 as ts E s l hm w => ⟨Nat.le_of_lt (small1000 (by rw [hm]; exact hz)), fun q hq => ?_⟩⟩
  have hl := s.len
  have hp := piled_le l
  rw [hl, hm] at hp
  have nq : q ∉ as := fun z => (w q z).2 hq
  refine k (.ref q) _ (q :: as) (listText ts) (E.new hq) (.lst upd_same (List.mem_cons_self ..) (fun b z => List.mem_cons_of_mem _ z) nq (s.same (same_upd hq) fun b z => (w b z).2)) (Nat.le_trans (listText_le ts) (by omega)) (fun b z => ?_)
  rcases List.mem_cons.mp z with y | y
  · rw [y, upd_same]
    refine ⟨?_, fun z => nomatch z⟩
    cases e : H q with
    | none => rfl
    | some o => exact absurd hq (E.stay (by rw [e]; exact fun z => nomatch z))
  · exact w.ext (Ext.of_same E.bag (same_upd hq)) b y
theorem pe_gd0 : PE X (.Dict [] [] pos) (tG CW NW i bg 1 2) := by
  refine pe_imp pe_dnewK fun σ H Q z => ?_
  obtain ⟨⟨b, _⟩, k⟩ := z
  intro q hq
  refine k (.ref q) _ [q] (dictText []) ((Ext.of_same b Same.refl').new hq) (.dct (as := []) upd_same (List.mem_cons_self ..) (fun _ z => nomatch z) (fun z => nomatch z) .nil) (by decide) (fun x z => ?_)
  rw [List.mem_singleton.mp z, upd_same]
  exact ⟨hq, fun z => nomatch z⟩
theorem pe_gd1 {y : Str} {j pk} (h : PE X e (tG CW NW i bg d n)) (hy : (reprText y).length ≤ 10) : PE X (.Dict [some (.Constant (.str y) j pk)] [e] pos) (tG CW NW i bg (d + 1) (n + 20)) := by
  refine pe_imp (pe_disp (pps_cons pe_str h pps_nil) (by rfl) (by rfl) (by simp) (by show 1 ≤ 15; decide)) fun σ H Q z => ?_
  obtain ⟨⟨b, p⟩, k⟩ := z
  intro q hq
  have E0 : Ext bg H (upd H q (.dK [])) := (Ext.of_same b Same.refl').new hq
  refine ⟨⟨E0.bag, p⟩, fun v H1 as t E s l w => ?_⟩
  have nq : q ∉ as := w.out (by rw [upd_same]; exact fun z => nomatch z)
  have qb : q ≠ bg := fun z => b.there (z ▸ hq)
  have e1 : H1 q = some (.dK []) := E.keep q _ qb upd_same
  refine ⟨e1, [(Sum.inr y, v)], rfl, by simp, ?_⟩
  have km : mergeK [] [((Sum.inr y : Key), v)] = [(Sum.inr y, v)] := rfl
  rw [km]
  have kk : ∀ x, x ≠ q → upd H1 q (HO.dK [(Sum.inr y, v)]) x = H1 x := fun x hx => upd_ne hx
  have s2 : Sh (upd H1 q (HO.dK [(Sum.inr y, v)])) CW NW as d v t := s.fr fun x hx => kk x fun z => nq (z ▸ hx)
  have E2 : Ext bg H (upd H1 q (HO.dK [(Sum.inr y, v)])) := by
    have E1 := E0.trans E
    refine ⟨fun x o n e => ?_, ?_, fun x h => ?_⟩
    · rw [kk x (ne_of_none e hq)]
      exact E1.keep x o n e
    · obtain ⟨c, st, i', b', ns, h1, h2, h3⟩ := E1.bag
      refine ⟨c, st, i', b', ns, by rw [kk bg qb.symm]; exact h1, ?_, h3⟩
      rw [kk b' fun z => ?_]
      · exact h2
      · rw [z, e1] at h2
        cases h2
    · obtain ⟨c, st, i', e⟩ := E1.inn x h
      exact ⟨c, st, i', by rw [kk bg qb.symm]; exact e⟩
  refine k (.ref q) _ (q :: as) _ E2 (.dct upd_same (List.mem_cons_self ..) (fun b z => List.mem_cons_of_mem _ z) nq (.cons s2 .nil)) ?_ (fun x z => ?_)
  · refine Nat.le_trans (dictText_le _) ?_
    rw [piled_cons, piled_nil, strLen_append, strLen_append]
    have e1 : (((": " : String) : Str)).length = 2 := rfl
    omega
  · rcases List.mem_cons.mp z with y | y
    · rw [y, upd_same]
      exact ⟨hq, fun z => nomatch z⟩
    · rw [kk x fun z => nq (z ▸ y)]
      exact w.before E0 x y
end
end KaG


set_option maxRecDepth 100000
set_option maxHeartbeats 2000000
namespace KaG
open PySem PySem.Spec PyProof.Rows L2
/-- the read of xs[i] += e -/
def rGetL (K : PySem.W.Frag) : V → V → Hp → VK → Prop := fun o i H Q => ∃ p xs k v, o = .ref p ∧ i = .int k ∧ SqL K H p xs ∧ 0 ≤ k ∧ k < 1000 ∧ xs[k.toNat]? = some v ∧ Q v H
theorem get_listP {X : Cx} : PGet X (rGetL X.K) := by
  intro pins s σ H o i ov iv Q I ro ri h
  obtain ⟨p, xs, k, v, rfl, rfl, hq, h0, h1, e, q⟩ := h
  cases ro
  obtain ⟨t, rfl⟩ := ri
  obtain ⟨its, r, pl, hz⟩ := I.list hq
  obtain ⟨w, ew, rw'⟩ := r.get e
  exact wpAny_getItem_list pl.isList h0 (by omega) (by simpa using ew) ⟨v, H, I, rw', q⟩
def top (i : Nat) : Stmt := PySem.Challenge.pw_goneyet_k12_rulebooks_asked.main.body.getD i (.Pass ⟨0, 0, 0, 0⟩)
abbrev sBag : Stmt := top 16
abbrev sTake : Stmt := top 17
abbrev sSome : Stmt := top 18
abbrev sAlike : Stmt := top 19
abbrev sMixed : Stmt := top 20
abbrev sNamed : Stmt := top 21
abbrev sNumbers : Stmt := top 22
abbrev sNeed : Stmt := top 23
abbrev sGround : Stmt := top 24
abbrev sAny : Stmt := top 25
abbrev sPlanted : Stmt := top 26
abbrev sMore : Stmt := top 27
abbrev sThreaded : Stmt := top 28
abbrev sRulebook : Stmt := top 29
abbrev sOdd : Stmt := top 30
abbrev sKinds : Stmt := top 31
abbrev sPlaces : Stmt := top 32
abbrev sDead : Stmt := top 33
abbrev sDials : Stmt := top 34
abbrev sNumberAt : Stmt := top 35
abbrev sHeard : Stmt := top 36
abbrev sTold : Stmt := top 37
abbrev sLaw : Stmt := top 38
theorem scTake : FnScope ["bag", "upto", "cell", "stirred", "value", "begin", "second"] ["bag", "upto"] (defScope sTake) := ⟨rfl, rfl, rfl, by decide +kernel, rfl, by decide +kernel, by decide +kernel⟩
theorem scBag : FnScope ["script"] ["script"] (defScope sBag) := ⟨rfl, rfl, rfl, by decide +kernel, rfl, by decide +kernel, by decide +kernel⟩
theorem scSome : FnScope ["bag", "things"] ["bag", "things"] (defScope sSome) := ⟨rfl, rfl, rfl, by decide +kernel, rfl, by decide +kernel, by decide +kernel⟩
theorem scAlike : FnScope ["found", "due"] ["found", "due"] (defScope sAlike) := ⟨rfl, rfl, rfl, by decide +kernel, rfl, by decide +kernel, by decide +kernel⟩

theorem seqGo {a b : TS} {D : Ends} {σ : L2.St} {H : Hp} (R : TS → Ends → Prop) (hr : R b D) (hm : R b D → a { D with nx := fun σ' H' => b D σ' H' } σ H) : tSeq a b D σ H := hm hr
theorem bag_ne {H : Hp} {bg b : Addr} {c st i : Int} {ns : List Int} (e1 : H bg = some (.lst [.int c, .int st, .int i, .ref b])) (e2 : H b = some (.lst (ns.map V.int))) : b ≠ bg := by
  intro z
  rw [z, e1] at e2
  have e3 := HO.lst.inj (Option.some.inj e2)
  match ns, e3 with
  | [], e3 => simp at e3
  | [_], e3 => simp at e3
  | [_, _], e3 => simp at e3
  | [_, _, _], e3 => simp at e3
  | _ :: _ :: _ :: _ :: _, e3 => simp at e3
theorem Ext.put {H H1 : Hp} {bg b : Addr} {c st i c' st' i' : Int} {ns : List Int} (E : Ext bg H H1) (e1 : H1 bg = some (.lst [.int c, .int st, .int i, .ref b])) (e2 : H1 b = some (.lst (ns.map V.int))) (c0 : 0 ≤ c') (i0 : 0 ≤ i') (nl : ns.length ≤ 100) :
    Ext bg H (upd H1 bg (.lst [.int c', .int st', .int i', .ref b])) :=
  ⟨fun x o hx e => by rw [upd_ne hx]; exact E.keep x o hx e, ⟨c', st', i', b, ns, upd_same, by rw [upd_ne (bag_ne e1 e2)]; exact e2, c0, i0, nl⟩, fun x h => by
    obtain ⟨c2, s2, i2, z⟩ := E.inn x h
    rw [e1] at z
    cases z
    exact ⟨c', st', i', upd_same⟩⟩
theorem cut_ints (ns : List Int) (lo hi : Option Int) : ∃ ms : List Int, cutV (ns.map V.int) lo hi = ms.map V.int ∧ ms.length ≤ ns.length := by
  refine ⟨(ns.drop (HT.sIx (ns.map V.int).length 0 lo)).take (HT.sIx (ns.map V.int).length (ns.map V.int).length hi - HT.sIx (ns.map V.int).length 0 lo), ?_, ?_⟩
  · unfold cutV
    rw [← List.map_drop, ← List.map_take]
  · rw [List.length_take, List.length_drop]
    omega
theorem head_int : ∀ ms : List Int, ∃ z, atI (ms.map V.int ++ [V.int 0]) 0 = some (V.int z)
  | [] => ⟨0, rfl⟩
  | z :: _ => ⟨z, atI_nat (j := 0) rfl⟩
structure TxtB (mg : Str → Option Value) : Prop where
  abs : mg "abs" = none
  len : mg "len" = none
  int : mg "int" = none
  repr : mg "repr" = none
  isin : mg "isinstance" = none
  range : mg "range" = none
  list : mg "list" = none
  verr : mg "ValueError" = none
section
variable {P : Program} {w : World} {K : PySem.W.Frag} {mg : Str → Option Value} {base : Heap}
def spTake : Sp := fun vs H Q _ => ∃ (bg : Addr) (n : Int), vs = [.ref bg, .int n] ∧ Bag H bg ∧ 0 < n ∧ n ≤ 1000000 ∧ ∀ (z : Int) (H' : Hp), Ext bg H H' → 0 ≤ z → z < n → Q (.int z) H'
theorem bx (i : Nat) {X : Cx} {e : Expr} {pos : Pos} {te : TE} (h : PE X e te) {j : Int} {jp ip : _} : PE X (.Subscript e (.Constant (.int j) jp ip) pos) (tOp (rIxL X.K) te (tC (.int j))) := pe_ix ix_list h pe_int (fun _ _ => rfl)
theorem ok_take {f : Addr} {fd : FuncData} (F : Fun K "_law_take" "_law_take" sTake f fd) (T : TxtB mg) : FnOk P w K mg base CX0 1 f fd ["bag", "upto"] spTake := by
  refine F.ok scTake (fun vs H Q E h => ?_) (fun cdv A outer s H vs Q E hr h => ?_)
  · obtain ⟨bg, n, rfl, _⟩ := h
    rfl
  · obtain ⟨bg, n, rfl, hB, h0, h1, k⟩ := h
    refine ⟨_, pss_cons (ps_if (pt_cmpR op_eq (pe_ix ix_list (pv 0) pe_int (fun _ _ => rfl)) pe_int (nomark _))
        (pss_cons (ps_set (i := 2) scTake.nd rfl (Or.inl rfl) (pe_ix ix_list (pe_op op_cat (pe_slice sl_list (pe_ix ix_list (pv 0) pe_int (fun _ _ => rfl)) (po_some (pe_ix ix_list (pv 0) pe_int (fun _ _ => rfl))) po_none) (pe_lst (pa_cons pe_int pa_nil))) pe_int (fun _ _ => rfl)))
        (pss_cons (ps_augS (pv 0) pe_int get_listP pe_int ip_add set_list)
        (pss_cons (ps_if (pt_cmpR op_ge (pv 2) (pe_op op_pow pe_int pe_int) (nomark _)) (pss_one (ps_asg (pv 2) (pg_sub (pv 0) pe_int set_list))) pss_nil)
        (pss_cons (ps_set (i := 3) scTake.nd rfl (Or.inl rfl) (pe_op op_add (pe_op op_add (pe_op op_mul (pe_ix ix_list (pv 0) pe_int (fun _ _ => rfl)) pe_int) (pe_op op_mod (pe_callTy call_int1 (by rfl) T.int (by decide +kernel) (pa_cons (pv 2) pa_nil)) pe_int)) (pe_op op_mul pe_int (pe_ix ix_list (pv 0) pe_int (fun _ _ => rfl)))))
        (pss_one (ps_asg (pe_op op_mod (pe_callTy call_int1 (by rfl) T.int (by decide +kernel) (pa_cons (pv 3) pa_nil)) pe_int) (pg_sub (pv 0) pe_int set_list))))))) pss_nil)
      (pss_cons (ps_if (pt_cmpR op_gt (pe_ix ix_list (pv 0) pe_int (fun _ _ => rfl)) pe_int (nomark _))
        (pss_cons (ps_set (i := 4) scTake.nd rfl (Or.inl rfl) (pe_op op_mod (pe_callTy call_int1 (by rfl) T.int (by decide +kernel) (pa_cons (pe_ix ix_list (pv 0) pe_int (fun _ _ => rfl)) pa_nil)) (pv 1)))
        (pss_cons (ps_asg (pe_op op_fdivN (pe_callTy call_int1 (by rfl) T.int (by decide +kernel) (pa_cons (pe_ix ix_list (pv 0) pe_int (fun _ _ => rfl)) pa_nil)) (pv 1)) (pg_sub (pv 0) pe_int set_list))
        (pss_one (ps_ret (pv 4))))) pss_nil)
      (pss_cons (ps_set (i := 5) scTake.nd rfl (Or.inl rfl) (pe_op op_mod (pe_callTy call_int1 (by rfl) T.int (by decide +kernel) (pa_cons (pe_op op_mul (pe_op op_add (pe_ix ix_list (pv 0) pe_int (fun _ _ => rfl)) pe_int) pe_int) pa_nil)) pe_int))
      (pss_cons (ps_set (i := 6) scTake.nd rfl (Or.inl rfl) (pe_op op_mod (pe_callTy call_int1 (by rfl) T.int (by decide +kernel) (pa_cons (pe_op op_mul (pe_op op_mod (pe_callTy call_int1 (by rfl) T.int (by decide +kernel) (pa_cons (pe_op op_mul (pv 5) (pv 5)) pa_nil)) pe_int) pe_int) pa_nil)) pe_int))
      (pss_one (ps_ret (pe_op op_mod (pe_callTy call_int1 (by rfl) T.int (by decide +kernel) (pa_cons (pe_op op_fdivN (pv 6) pe_int) pa_nil)) (pv 1))))))), ?_⟩
    refine seqGo (fun b D => ∀ (x2 x3 : Option V) (H' : Hp), Ext bg H H' → b D [some (.ref bg), some (.int n), x2, x3, none, none, none] H') (fun x2 x3 H1 E1 => ?rest) (fun rest => ?_)
    case rest =>
      obtain ⟨c, st, i, b, ns, e1, e2, c0, i0, nl⟩ := E1.bag
      refine ⟨_, rfl, _, _, _, _, rfl, rfl, SqL.of e1, rfl, _, _, rfl, rfl, _, rfl, ite2 (fun hc => ?_) fun hc => ?_⟩
      · refine ⟨_, rfl, _, _, _, _, rfl, rfl, SqL.of e1, rfl, .inl ⟨_, rfl, _, rfl, _, _, rfl, rfl, h0, ?_⟩⟩
        refine ⟨_, rfl, _, _, _, _, rfl, rfl, SqL.of e1, rfl, .inl ⟨_, rfl, _, rfl, _, _, rfl, rfl, ⟨by omega, by omega⟩, _, rfl, ⟨_, _, _, 0, rfl, rfl, e1, rfl, ?_⟩⟩⟩
        refine ⟨_, rfl, ?_⟩
        exact k _ _ (E1.put e1 e2 (Int.fdiv_nonneg c0 (Int.le_of_lt h0)) i0 nl) (Int.emod_nonneg _ (by omega)) (Int.emod_lt_of_pos _ h0)
      · refine ⟨_, rfl, _, _, _, _, rfl, rfl, SqL.of e1, rfl, _, _, rfl, rfl, _, _, rfl, rfl, .inr ⟨by decide, by decide⟩, .inl ⟨_, rfl, _, _, rfl, rfl, by show (0 : Int) < 1000000007; decide, ?_⟩⟩
        refine ⟨_, rfl, _, rfl, _, _, rfl, rfl, .inl ⟨?_, ?_⟩, .inl ⟨_, rfl, _, _, rfl, rfl, by show (0 : Int) < 998244353; decide, _, _, rfl, rfl, .inr ⟨by decide, by decide⟩, .inl ⟨_, rfl, _, _, rfl, rfl, by show (0 : Int) < 998244353; decide, ?_⟩⟩⟩
        · have := Int.emod_nonneg ((st + 1) * 39373) (show (1000000007 : Int) ≠ 0 by decide); omega
        · have := Int.emod_lt_of_pos ((st + 1) * 39373) (show (0 : Int) < 1000000007 by decide); omega
        · refine ⟨_, rfl, _, _, rfl, rfl, ⟨by decide, by decide⟩, .inl ⟨_, rfl, _, rfl, _, _, rfl, rfl, h0, ?_⟩⟩
          exact k _ _ E1 (Int.emod_nonneg _ (by omega)) (Int.emod_lt_of_pos _ h0)
    obtain ⟨c, st, i, b, ns, e1, e2, c0, i0, nl⟩ := hB
    refine ⟨_, rfl, _, _, _, _, rfl, rfl, SqL.of e1, rfl, rfl, _, rfl, ite2 (fun hc => ?_) fun hc => ?_⟩
    · refine ⟨_, rfl, _, _, _, _, rfl, rfl, SqL.of e1, rfl, ?_⟩
      refine ⟨_, rfl, _, _, _, _, rfl, rfl, SqL.of e1, rfl, _, rfl, _, _, rfl, SqL.of e2, fun p1 hp1 => ⟨by show 1 ≤ sizeLine; decide, fun p2 hp2 => ?_⟩⟩
      obtain ⟨ms, em, hm⟩ := cut_ints ns (some i) none
      rw [em]
      have n21 : p1 ≠ p2 := fun z => by
        rw [← z, em, upd_same] at hp2
        cases hp2
      have s1 : Same H (upd H p1 (.lst (ms.map V.int))) := same_upd hp1
      rw [em] at hp2
      have s2 : Same H (upd (upd H p1 (.lst (ms.map V.int))) p2 (.lst [.int 0])) := KaG.Same.tr s1 (same_upd hp2)
      refine ⟨_, _, _, _, rfl, rfl, by rw [upd_ne n21, upd_same], upd_same, by rw [List.length_map]; exact Nat.le_of_lt (small1000 (by simp only [List.length_cons, List.length_nil]; omega)), fun p3 hp3 => ?_⟩
      obtain ⟨z, hz⟩ := head_int ms
      refine ⟨_, _, _, _, rfl, rfl, SqL.of upd_same, hz, ?_⟩
      have s3 := KaG.Same.tr s2 (same_upd (o := .lst (ms.map V.int ++ [V.int 0])) hp3)
      have B3 := Bag.same ⟨c, st, i, b, ns, e1, e2, c0, i0, nl⟩ s3
      have E3 := Ext.of_same ⟨c, st, i, b, ns, e1, e2, c0, i0, nl⟩ s3
      have f1 := s3 _ _ e1
      have f2 := s3 _ _ e2
      generalize upd (upd (upd H p1 (.lst (ms.map V.int))) p2 (.lst [.int 0])) p3 (.lst (ms.map V.int ++ [V.int 0])) = H3 at *
      refine ⟨_, rfl, _, _, _, _, rfl, rfl, SqL.of f1, by decide, by decide, rfl, _, _, rfl, rfl, ⟨_, _, _, 2, rfl, rfl, f1, rfl, ?_⟩⟩
      have E4 := E3.put (c' := c) (st' := st) (i' := i + 1) f1 f2 c0 (by omega) nl
      have g1 : upd H3 bg (.lst [.int c, .int st, .int (i + 1), .ref b]) bg = some (.lst [.int c, .int st, .int (i + 1), .ref b]) := upd_same
      have g2 : upd H3 bg (.lst [.int c, .int st, .int (i + 1), .ref b]) b = some (.lst (ns.map V.int)) := by rw [upd_ne (bag_ne e1 e2)]; exact f2
      dsimp only
      refine seqGo (fun b' D => ∀ (c' : Int) (H' : Hp), 0 ≤ c' → Ext bg H H' → H' bg = some (.lst [.int c', .int st, .int (i + 1), .ref b]) → H' b = some (.lst (ns.map V.int)) →
          b' D [some (.ref bg), some (.int n), some (.int z), none, none, none, none] H') (fun c' H5 c0' E5 x1 x2 => ?_) (fun rest2 => ?_)
      · refine ⟨_, rfl, _, _, _, _, rfl, rfl, SqL.of x1, rfl, _, _, rfl, rfl, .inr ⟨by decide, by decide⟩, _, rfl, .inl ⟨_, rfl, _, _, rfl, rfl, by show (0 : Int) < 2147483647; decide, _, _, rfl, rfl, ?_⟩⟩
        refine ⟨_, rfl, _, _, _, _, rfl, rfl, SqL.of x1, rfl, _, _, rfl, rfl, .inl ⟨by decide, by decide⟩, _, _, rfl, rfl, ?_⟩
        refine ⟨_, rfl, .inl ⟨_, rfl, _, _, rfl, rfl, by show (0 : Int) < 2147483647; decide, _, rfl, _, _, _, 1, rfl, rfl, x1, rfl, ?_⟩⟩
        exact rest _ _ _ (E5.put x1 x2 c0' (by omega) nl)
      · refine ⟨_, rfl, _, _, rfl, rfl, ⟨by decide, by decide, by decide⟩, _, _, rfl, rfl, _, rfl, ite2 (fun hg => ?_) fun hg => ?_⟩
        · have hg' : (10 : Int) ^ (18 : Int).toNat ≤ z := of_decide_eq_true hg
          have z0 : 0 ≤ z := Int.le_trans (by decide) hg'
          exact ⟨_, rfl, _, rfl, _, _, _, 0, rfl, rfl, g1, rfl, rest2 z _ z0 (E4.put g1 g2 z0 (by omega) nl) upd_same (by rw [upd_ne (bag_ne e1 e2)]; exact g2)⟩
        · exact rest2 c _ c0 E4 g1 g2
    · exact rest _ _ H (Ext.of_same ⟨c, st, i, b, ns, e1, e2, c0, i0, nl⟩ Same.refl')
end
end KaG


set_option maxRecDepth 100000
set_option maxHeartbeats 2000000
namespace KaG
open PySem PySem.Spec PyProof.Rows L2
section
variable {P : Program} {w : World} {K : PySem.W.Frag} {mg : Str → Option Value} {base : Heap}
structure Ct (P : Program) (w : World) (K : PySem.W.Frag) (mg : Str → Option Value) (base : Heap) (x : Str) (k : Nat) (ps : List Str) (sp : Sp) (f : Addr) (fd : FuncData) : Prop where
  G : FnOk P w K mg base CX0 k f fd ps sp
  m : mg x = some (.ref f)
  kp : PySem.W.keepIn K (.ref f) = true
  b : Binds K fd ps []
def spSome : Sp := fun vs H Q _ => ∃ (bg l : Addr) (xs : List V), vs = [.ref bg, .ref l] ∧ Bag H bg ∧ l ≠ bg ∧ H l = some (.lst xs) ∧ 0 < xs.length ∧ xs.length ≤ 1000 ∧ ∀ (i : Nat) (v : V) (H' : Hp), xs[i]? = some v → Ext bg H H' → Q v H'
theorem ok_some {f fT : Addr} {fd fdT : FuncData} (F : Fun K "_law_some" "_law_some" sSome f fd) (T : TxtB mg) (C : Ct P w K mg base "_law_take" 1 ["bag", "upto"] spTake fT fdT) : FnOk P w K mg base CX0 2 f fd ["bag", "things"] spSome := by
  refine F.ok scSome (fun vs H Q E h => ?_) (fun cdv A outer s H vs Q E hr h => ?_)
  · obtain ⟨bg, l, xs, rfl, _⟩ := h
    rfl
  · obtain ⟨bg, l, xs, rfl, hB, hne, hl, h0, h1, k⟩ := h
    refine ⟨_, pss_one (ps_ret (pe_ix ix_list (pv 1) (pe_call C.G hr (by rfl) C.m C.kp C.b .nil pass0 (pa_cons (pv 0) (pa_cons (pe_callB call_len_seq (by rfl) T.len PySem.boot_len (pa_cons (pv 1) pa_nil)) pa_nil))) (fun _ _ => rfl))), ?_⟩
    refine ⟨_, rfl, _, rfl, _, rfl, _, _, rfl, .inl (SqL.of hl), bg, (xs.length : Int), rfl, hB, by omega, by omega, fun z H' E1 z0 z1 => ?_⟩
    have hz : z.toNat < xs.length := by omega
    have ez : xs[z.toNat]? = some xs[z.toNat] := by simp [hz]
    have ea : atI xs z = some xs[z.toNat] := by
      have q := atI_nat ez
      rwa [show ((z.toNat : Nat) : Int) = z by omega] at q
    exact ⟨l, xs, z, _, rfl, rfl, SqL.of (E1.keep l _ hne hl), ea, k _ _ _ ez E1⟩
def spBag (K : PySem.W.Frag) : Sp := fun vs H Q _ => ∃ (a : Addr) (ns : List Int), vs = [.ref a] ∧ SqL K H a (ns.map V.int) ∧ ns.length ≤ 63 ∧ ∀ (bg : Addr) (H' : Hp), Same H H' → H bg = none → Bag H' bg → Q (.ref bg) H'
theorem scBag2 : FnScope ["script", "cell"] ["script"] (defScope sBag) := ⟨rfl, rfl, rfl, by decide +kernel, rfl, by decide +kernel, by decide +kernel⟩
theorem ok_bag {f : Addr} {fd : FuncData} (F : Fun K "_law_bag" "_law_bag" sBag f fd) (T : TxtB mg) : FnOk P w K mg base CX0 1 f fd ["script"] (spBag K) := by
  refine F.ok scBag2 (fun vs H Q E h => ?_) (fun cdv A outer s H vs Q E hr h => ?_)
  · obtain ⟨a, ns, rfl, _⟩ := h
    rfl
  · obtain ⟨a, ns, rfl, hS, hn, k⟩ := h
    refine ⟨_, pss_one (ps_ret (pe_lst (pa_cons pe_int (pa_cons pe_int (pa_cons pe_int (pa_cons (pe_lc (own := [("cell", 1)]) (g := gName 1) (by rfl) scBag2.nd (pi_list (pe_slice sl_list (pv 0) po_none (po_some pe_int)))
      (blkOk_by (own := [("cell", 1)]) (N := ["script", "cell"]) (sc := defScope sBag) (by decide +kernel)) (fun _ _ _ _ _ => pg_name (i := 1) scBag2.nd rfl (Or.inl rfl)) (fun _ _ _ _ _ => pts_nil)
      (fun _ _ _ _ _ => pe_callB call_abs (by rfl) T.abs (by decide +kernel) (pa_cons (pv 1) pa_nil))) pa_nil)))))), ?_⟩
    refine ⟨_, rfl, _, rfl, _, _, rfl, hS, fun p hp => ?_⟩
    obtain ⟨ms, em, hm⟩ := cut_ints ns none (some 63)
    rw [em]
    refine ⟨p, rfl, ?_⟩
    refine ⟨⟨_, SqL.of upd_same⟩, fun D hD => lc_list (K := K) (a := p) (xs := ms.map V.int) (fun i H' => ∃ qs : List Int, qs.length = i ∧ H' = upd (upd H p (.lst (ms.map V.int))) D (.lst (qs.map V.int))) ⟨[], rfl, rfl⟩ ?_ ?_ ?_⟩
    · rintro i H' _ ⟨qs, _, rfl⟩
      refine SqL.of ?_
      rw [upd_ne, upd_same]
      intro z
      rw [← z, upd_same] at hD
      cases hD
    · rintro i x H' hx ⟨qs, hq, rfl⟩
      have hi : i < ms.length := by
        have := (List.getElem?_eq_some_iff.mp hx).1
        rwa [List.length_map] at this
      rw [List.getElem?_map] at hx
      obtain ⟨z, hz, rfl⟩ := Option.map_eq_some_iff.mp hx
      refine ⟨rfl, ?_⟩
      unfold tYes
      dsimp only
      rw [if_pos rfl]
      refine ⟨_, rfl, _, rfl, _, upd_same, ?_, qs ++ [if z < 0 then -z else z], by rw [List.length_append, hq]; rfl, ?_⟩
      · rw [List.length_map]
        exact small1000 (by omega)
      · rw [upd_upd, List.map_append]
        rfl
    · rintro H' ⟨qs, hq, rfl⟩
      refine ⟨by show 4 ≤ sizeLine; decide, fun bg hb => ?_⟩
      have s1 : Same H (upd H p (.lst (ms.map V.int))) := same_upd hp
      have s2 : Same H (upd (upd H p (.lst (ms.map V.int))) D (.lst (qs.map V.int))) := KaG.Same.tr s1 (same_upd hD)
      have s3 := KaG.Same.tr s2 (same_upd (o := .lst [.int 0, .int 1234567891, .int 0, .ref D]) hb)
      refine k bg _ s3 ?_ ⟨0, 1234567891, 0, D, qs, upd_same, ?_, by decide, by decide, by rw [hq, List.length_map]; omega⟩
      · cases e : H bg with
        | none => rfl
        | some o => rw [s2 _ _ e] at hb; cases hb
      · rw [upd_ne (fun z => by rw [← z, upd_same] at hb; cases hb), upd_same]
end
end KaG


set_option maxRecDepth 100000
set_option maxHeartbeats 2000000
namespace KaG
open PySem PySem.Spec PyProof.Rows L2
/-- over what is a list, or a tuple -/
theorem pi_or {X : Cx} {tg iter : Expr} {w1 w2 : TI} (h1 : PI X tg iter w1) (h2 : PI X tg iter w2) : PI X tg iter (fun σ H R => w1 σ H R ∨ w2 σ H R) :=
  ⟨fun pins s σ H R I h => h.elim (h1.run pins s σ H R I) (h2.run pins s σ H R I)⟩
section
variable {P : Program} {w : World} {K : PySem.W.Frag} {mg : Str → Option Value} {base : Heap}
theorem scMixed : FnScope ["bag", "things", "found", "thing"] ["bag", "things"] (defScope sMixed) := ⟨rfl, rfl, rfl, by decide +kernel, rfl, by decide +kernel, by decide +kernel⟩
/-- a list or tuple of things at l -/
def Sq2 (H : Hp) (l : Addr) (xs : List V) : Prop := H l = some (.lst xs) ∨ H l = some (.tup xs)
theorem Sq2.ext {H H' : Hp} {bg l : Addr} {xs : List V} (h : Sq2 H l xs) (n : l ≠ bg) (E : Ext bg H H') : Sq2 H' l xs := h.imp (E.keep l _ n) (E.keep l _ n)
/-- a new list of the same things, in a drawn order -/
def spMixed : Sp := fun vs H Q _ => ∃ (bg l : Addr) (xs : List V), vs = [.ref bg, .ref l] ∧ Bag H bg ∧ l ≠ bg ∧ Sq2 H l xs ∧ xs.length ≤ 900 ∧ ∀ (p : Addr) (ys : List V) (H' : Hp), Ext bg H H' → H p = none → H' p = some (.lst ys) → ys.Perm xs → Q (.ref p) H'
theorem put_perm' {α : Type} (l : List α) (i : Nat) (y : α) : (l.take i ++ [y] ++ l.drop i).Perm (l ++ [y]) := by
  have h1 : (l.take i ++ [y] ++ l.drop i).Perm (l.take i ++ (l.drop i ++ [y])) := by
    rw [List.append_assoc]
    exact List.Perm.append_left _ List.perm_append_comm
  rwa [← List.append_assoc, List.take_append_drop] at h1
theorem Ext.write {bg p : Addr} {H H1 : Hp} {o : HO} (hb : Bag H bg) (E : Ext bg H H1) (h : H p = none) : Ext bg H (upd H1 p o) := by
  have pb : p ≠ bg := fun z => hb.there (z ▸ h)
  obtain ⟨c, st, i, b, ns, e1, e2, e3⟩ := id hb
  have ib : Inn H bg b := ⟨c, st, i, e1⟩
  have pn : p ≠ b := fun z => by rw [z, e2] at h; cases h
  obtain ⟨c2, s2, i2, f1⟩ := E.inn b ib
  obtain ⟨c1, st1, i1, b1, ns1, g1, g2, g3⟩ := E.bag
  rw [f1] at g1
  cases g1
  refine ⟨fun x u n e => ?_, ⟨_, _, _, b, ns1, by rw [upd_ne pb.symm]; exact f1, by rw [upd_ne pn.symm]; exact g2, g3⟩, fun x hx => ?_⟩
  · rw [upd_ne (ne_of_none e h)]
    exact E.keep x u n e
  · obtain ⟨c3, s3, i3, q⟩ := E.inn x hx
    exact ⟨c3, s3, i3, by rw [upd_ne pb.symm]; exact q⟩
theorem ok_mixed {f fT : Addr} {fd fdT : FuncData} (F : Fun K "_law_mixed" "_law_mixed" sMixed f fd) (T : TxtB mg) (C : Ct P w K mg base "_law_take" 1 ["bag", "upto"] spTake fT fdT) : FnOk P w K mg base CX0 2 f fd ["bag", "things"] spMixed := by
  refine F.ok scMixed (fun vs H Q E h => ?_) (fun cdv A outer s H vs Q E hr h => ?_)
  · obtain ⟨bg, l, xs, rfl, _⟩ := h
    rfl
  · obtain ⟨bg, l, xs, rfl, hB, hne, hl, hn, k⟩ := h
    refine ⟨_, (pss_cons (ps_set (i := 2) scMixed.nd rfl (Or.inl rfl) (pe_lst pa_nil))
      (pss_cons (ps_for PassesOwn.never rfl (pi_or (pi_list (pv 1)) (pi_tup (pv 1))) (pg_name (i := 3) scMixed.nd rfl (Or.inl rfl))
        (pss_one (ps_expr (pe_bm PySem.F.plainAttrs_list PySem.F.slot_list_insert PySem.F.type_list_insert mt_insert (pv 2)
          (pa_cons (pe_call C.G hr (by rfl) C.m C.kp C.b .nil pass0 (pa_cons (pv 0) (pa_cons (pe_op op_add (pe_callB call_len_seq (by rfl) T.len PySem.boot_len (pa_cons (pv 2) pa_nil)) pe_int) pa_nil))) (pa_cons (pv 3) pa_nil))))))
      (pss_one (ps_ret (pv 2))))), ?_⟩
    have sz2 : ∀ {m : Nat}, m ≤ 900 → m < sizeLine := fun h => small1000 (by omega)
    refine ⟨Nat.zero_le _, fun p np => ?_⟩
    have pl : p ≠ l := fun z => by
      rw [z] at np
      rcases hl with h | h <;> rw [h] at np <;> cases np
    let Pv : Nat → L2.St → Hp → Prop := fun i σ' H' => (∃ x3 : Option V, σ' = [some (.ref bg), some (.ref l), some (.ref p), x3]) ∧ Ext bg H H' ∧ ∃ ys, H' p = some (.lst ys) ∧ ys.Perm (xs.take i)
    have E0 : Ext bg H (upd H p (.lst [])) := (Ext.of_same hB Same.refl').new np
    have h0 : Pv 0 [some (.ref bg), some (.ref l), some (.ref p), none] (upd H p (.lst [])) := ⟨⟨_, rfl⟩, E0, [], upd_same, by rw [List.take_zero]⟩
    rcases hl with hl | hl
    · refine .inl ⟨_, rfl, l, rfl, ⟨_, SqL.of (E0.keep l _ hne hl)⟩, for_list (K := K) (a := l) (xs := xs) Pv h0 ?_ ?_ ?_⟩
      · rintro i σ' H' _ ⟨_, E1, _⟩
        exact SqL.of (E1.keep l _ hne hl)
      · rintro i x σ' H' hx ⟨⟨x3, rfl⟩, E1, ys, ey, py⟩
        have hi : i < xs.length := (List.getElem?_eq_some_iff.mp hx).1
        have hy : ys.length = i := by
          rw [py.length_eq, List.length_take]
          omega
        refine ⟨_, rfl, .inl ⟨rfl, _, SqL.of ey⟩, _, rfl, _, rfl, p, ys, rfl, .inl (SqL.of ey), _, _, rfl, rfl, bg, _, rfl, E1.bag, by omega, by omega, fun z H2 E2 z0 z1 => ?_⟩
        have pb : p ≠ bg := fun w => hB.there (w ▸ np)
        refine ⟨_, rfl, p, ys, z, x, rfl, rfl, E2.keep p _ pb ey, sz2 (by omega), z0, by omega, ⟨_, rfl⟩, (E1.trans E2).write hB np, _, upd_same, ?_⟩
        refine (put_perm' ys z.toNat x).trans ?_
        have ex : xs.take (i + 1) = xs.take i ++ [x] := by rw [List.take_add_one, hx]; rfl
        rw [ex]
        exact List.Perm.append_right _ py
      · rintro σ' H' ⟨⟨x3, rfl⟩, E1, ys, ey, py⟩
        rw [List.take_length] at py
        exact ⟨_, rfl, k p ys H' E1 np ey py⟩
    · refine .inr ⟨_, rfl, l, rfl, ⟨_, SqT.of (E0.keep l _ hne hl)⟩, for_tup (K := K) (a := l) (xs := xs) Pv h0 ?_ ?_ ?_⟩
      · rintro i σ' H' _ ⟨_, E1, _⟩
        exact SqT.of (E1.keep l _ hne hl)
      · rintro i x σ' H' hx ⟨⟨x3, rfl⟩, E1, ys, ey, py⟩
        have hi : i < xs.length := (List.getElem?_eq_some_iff.mp hx).1
        have hy : ys.length = i := by
          rw [py.length_eq, List.length_take]
          omega
        refine ⟨_, rfl, .inl ⟨rfl, _, SqL.of ey⟩, _, rfl, _, rfl, p, ys, rfl, .inl (SqL.of ey), _, _, rfl, rfl, bg, _, rfl, E1.bag, by omega, by omega, fun z H2 E2 z0 z1 => ?_⟩
        have pb : p ≠ bg := fun w => hB.there (w ▸ np)
        refine ⟨_, rfl, p, ys, z, x, rfl, rfl, E2.keep p _ pb ey, sz2 (by omega), z0, by omega, ⟨_, rfl⟩, (E1.trans E2).write hB np, _, upd_same, ?_⟩
        refine (put_perm' ys z.toNat x).trans ?_
        have ex : xs.take (i + 1) = xs.take i ++ [x] := by rw [List.take_add_one, hx]; rfl
        rw [ex]
        exact List.Perm.append_right _ py
      · rintro σ' H' ⟨⟨x3, rfl⟩, E1, ys, ey, py⟩
        rw [List.take_length] at py
        exact ⟨_, rfl, k p ys H' E1 np ey py⟩
end
end KaG


set_option maxRecDepth 100000
set_option maxHeartbeats 2000000
namespace KaG
open PySem PySem.Spec PyProof.Rows L2
theorem newAt {bg : Addr} {H0 H : Hp} {l : Addr} (E : Ext bg H0 H) (h : H l = none) : H0 l = none := by
  cases e : H0 l with
  | none => rfl
  | some o => exact absurd h (E.stay (by rw [e]; exact fun z => nomatch z))
theorem perm_of_map {α β : Type} {f : α → β} {ys zs : List β} (h : ys.Perm zs) : ∀ l : List α, zs = l.map f → ∃ l' : List α, l'.Perm l ∧ ys = l'.map f := by
  induction h with
  | nil => intro l e; exact ⟨[], by rw [List.map_eq_nil_iff.mp e.symm], rfl⟩
  | cons x h ih =>
    intro l e
    cases l with
    | nil => cases e
    | cons a r =>
      rw [List.map_cons] at e
      obtain ⟨rfl, e2⟩ := List.cons.inj e
      obtain ⟨l', p, q⟩ := ih r e2
      exact ⟨a :: l', p.cons a, by rw [q, List.map_cons]⟩
  | swap x y l0 =>
    intro l e
    cases l with
    | nil => cases e
    | cons a r =>
      cases r with
      | nil => cases e
      | cons b r =>
        rw [List.map_cons, List.map_cons] at e
        obtain ⟨rfl, e2⟩ := List.cons.inj e
        obtain ⟨rfl, e3⟩ := List.cons.inj e2
        exact ⟨b :: a :: r, List.Perm.swap a b r, by rw [e3]; rfl⟩
  | trans h1 h2 i1 i2 =>
    intro l e
    obtain ⟨l2, p2, q2⟩ := i2 l e
    obtain ⟨l1, p1, q1⟩ := i1 l2 q2
    exact ⟨l1, p1.trans p2, q1⟩
theorem cut_to (xs : List V) (j : Int) (h0 : 0 ≤ j) : cutV xs none (some j) = xs.take j.toNat := by
  obtain ⟨k, rfl⟩ := Int.eq_ofNat_of_zero_le h0
  unfold cutV
  rw [HT.sIx_none, List.drop_zero, HT.sIx_nat, Nat.sub_zero, Int.toNat_natCast]
  by_cases h : k ≤ xs.length
  · rw [Nat.min_eq_left h]
  · rw [Nat.min_eq_right (by omega), List.take_of_length_le (Nat.le_refl _), List.take_of_length_le (by omega)]
def nmAll : List Str := ["a", "b", "c", "p", "q", "r", "ab", "ba", "zz", "abcdefgh", "row", "kind", "tell", "ever", "z"]
/-- names, ascending -/
structure Nms (ns : List Str) : Prop where
  up : sortedS ns = true
  nd : ns.Nodup
  of : ∀ n ∈ ns, n ∈ nmAll
section
variable {P : Program} {w : World} {K : PySem.W.Frag} {mg : Str → Option Value} {base : Heap}
theorem scNamed : FnScope ["bag", "many", "names"] ["bag", "many"] (defScope sNamed) := ⟨rfl, rfl, rfl, by decide +kernel, rfl, by decide +kernel, by decide +kernel⟩
structure TxtC (mg : Str → Option Value) : Prop where
  b : TxtB mg
  tup : mg "tuple" = none
  sor : mg "sorted" = none
  set : mg "set" = none
  dct : mg "dict" = none
def spNamed : Sp := fun vs H Q _ => ∃ (bg : Addr) (m : Int), vs = [.ref bg, .int m] ∧ Bag H bg ∧ 0 ≤ m ∧ m ≤ 15 ∧ ∀ (p : Addr) (ns : List Str) (H' : Hp), Ext bg H H' → H p = none → H' p = some (.tup (ns.map V.str)) → Nms ns → ns.length = m.toNat → Q (.ref p) H'
theorem ok_named {f fM : Addr} {fd fdM : FuncData} (F : Fun K "_law_named" "_law_named" sNamed f fd) (T : TxtC mg) (C : Ct P w K mg base "_law_mixed" 2 ["bag", "things"] spMixed fM fdM) : FnOk P w K mg base CX0 3 f fd ["bag", "many"] spNamed := by
  refine F.ok scNamed (fun vs H Q E h => ?_) (fun cdv A outer s H vs Q E hr h => ?_)
  · obtain ⟨bg, m, rfl, _⟩ := h
    rfl
  · obtain ⟨bg, m, rfl, hB, h0, h15, k⟩ := h
    refine ⟨_, (pss_cons (ps_set (i := 2) scNamed.nd rfl (Or.inl rfl) (pe_lst (pa_cons pe_str (pa_cons pe_str (pa_cons pe_str (pa_cons pe_str (pa_cons pe_str (pa_cons pe_str (pa_cons pe_str (pa_cons pe_str (pa_cons pe_str (pa_cons pe_str (pa_cons pe_str (pa_cons pe_str (pa_cons pe_str (pa_cons pe_str (pa_cons pe_str pa_nil)))))))))))))))))
      (pss_one (ps_ret (pe_callTy call_tuple_of (by rfl) T.tup (by decide +kernel) (pa_cons (pe_callB cr_sortedS (by rfl) T.sor (by decide +kernel)
        (pa_cons (pe_slice sl_list (pe_call C.G hr (by rfl) C.m C.kp C.b .nil pass0 (pa_cons (pv 0) (pa_cons (pv 2) pa_nil))) po_none (po_some (pv 1))) pa_nil)) pa_nil))))), ?_⟩
    have hl15 : nmAll.length = 15 := by decide
    refine ⟨Nat.le_of_lt (small1000 (by decide)), fun p np => ?_⟩
    have E0 : Ext bg H (upd H p (.lst (nmAll.map V.str))) := (Ext.of_same hB Same.refl').new np
    have pb : p ≠ bg := fun w => hB.there (w ▸ np)
    refine ⟨_, rfl, _, rfl, bg, p, nmAll.map V.str, rfl, E0.bag, pb, .inl upd_same, by rw [List.length_map, hl15]; decide, fun q ys H2 E2 nq eq py => ?_⟩
    obtain ⟨zs, pz, rfl⟩ := perm_of_map py nmAll rfl
    have hz : zs.length = 15 := by rw [pz.length_eq, hl15]
    have E02 := E0.trans E2
    refine ⟨_, rfl, _, rfl, _, _, rfl, SqL.of eq, fun r nr => ?_⟩
    rw [cut_to _ m h0, ← List.map_take]
    refine ⟨r, zs.take m.toNat, rfl, SqL.of upd_same, by rw [List.length_take]; omega, fun us t pu su nt => ?_⟩
    refine ⟨t, _, rfl, .inl ⟨SqL.of upd_same, fun l nl => ?_⟩⟩
    have E3 : Ext bg H (upd (upd (upd H2 r (.lst ((zs.take m.toNat).map V.str))) t (.lst (us.map V.str))) l (.tup (us.map V.str))) := ((E02.new nr).new nt).new nl
    have ndz : zs.Nodup := pz.nodup_iff.mpr (by decide +kernel)
    refine k l us _ E3 (newAt ((E02.new nr).new nt) nl) upd_same ⟨su, pu.nodup_iff.mpr (ndz.sublist (List.take_sublist ..)), fun n hn => pz.mem_iff.mp (List.mem_of_mem_take (pu.mem_iff.mp hn))⟩ ?_
    rw [pu.length_eq, List.length_take]
    omega
end
end KaG


set_option maxRecDepth 100000
set_option maxHeartbeats 2000000
namespace KaG
open PySem PySem.Spec PyProof.Rows L2
theorem ix_or {X : Cx} {r1 r2 : R2} (h1 : IxR X r1) (h2 : IxR X r2) : IxR X (fun x y H Q => r1 x y H Q ∨ r2 x y H Q) :=
  fun value slice pins s σ H x y v u Q I rx ry h hs => h.elim (fun z => h1 value slice pins s σ H x y v u Q I rx ry z hs) (fun z => h2 value slice pins s σ H x y v u Q I rx ry z hs)
section
variable {P : Program} {w : World} {K : PySem.W.Frag} {mg : Str → Option Value} {base : Heap}
def spSome2 : Sp := fun vs H Q _ => ∃ (bg l : Addr) (xs : List V), vs = [.ref bg, .ref l] ∧ Bag H bg ∧ l ≠ bg ∧ Sq2 H l xs ∧ 0 < xs.length ∧ xs.length ≤ 1000 ∧ ∀ (v : V) (H' : Hp), v ∈ xs → Ext bg H H' → Q v H'
theorem ok_some2 {f fT : Addr} {fd fdT : FuncData} (F : Fun K "_law_some" "_law_some" sSome f fd) (T : TxtB mg) (C : Ct P w K mg base "_law_take" 1 ["bag", "upto"] spTake fT fdT) : FnOk P w K mg base CX0 2 f fd ["bag", "things"] spSome2 := by
  refine F.ok scSome (fun vs H Q E h => ?_) (fun cdv A outer s H vs Q E hr h => ?_)
  · obtain ⟨bg, l, xs, rfl, _⟩ := h
    rfl
  · obtain ⟨bg, l, xs, rfl, hB, hne, hl, h0, h1, k⟩ := h
    refine ⟨_, pss_one (ps_ret (pe_ix (ix_or ix_list ix_tup) (pv 1) (pe_call C.G hr (by rfl) C.m C.kp C.b .nil pass0 (pa_cons (pv 0) (pa_cons (pe_callB call_len_seq (by rfl) T.len PySem.boot_len (pa_cons (pv 1) pa_nil)) pa_nil))) (fun _ _ => rfl))), ?_⟩
    have at1 : ∀ z : Int, 0 ≤ z → z < xs.length → ∃ v, atI xs z = some v ∧ v ∈ xs := fun z z0 z1 => by
      have hz : z.toNat < xs.length := by omega
      have q := atI_nat (show xs[z.toNat]? = some xs[z.toNat] by simp [hz])
      rw [show ((z.toNat : Nat) : Int) = z by omega] at q
      exact ⟨_, q, List.getElem_mem hz⟩
    rcases hl with hl | hl
    · refine ⟨_, rfl, _, rfl, _, rfl, _, _, rfl, .inl (SqL.of hl), bg, (xs.length : Int), rfl, hB, by omega, by omega, fun z H' E1 z0 z1 => ?_⟩
      obtain ⟨v, ea, mv⟩ := at1 z z0 z1
      exact .inl ⟨l, xs, z, v, rfl, rfl, SqL.of (E1.keep l _ hne hl), ea, k v _ mv E1⟩
    · refine ⟨_, rfl, _, rfl, _, rfl, _, _, rfl, .inr (SqT.of hl), bg, (xs.length : Int), rfl, hB, by omega, by omega, fun z H' E1 z0 z1 => ?_⟩
      obtain ⟨v, ea, mv⟩ := at1 z z0 z1
      exact .inr ⟨l, xs, z, v, rfl, rfl, SqT.of (E1.keep l _ hne hl), ea, k v _ mv E1⟩
/-! ### the numbers of a need -/
theorem scNumbers : FnScope ["bag", "most"] ["bag"] (defScope sNumbers) := ⟨rfl, rfl, rfl, by decide +kernel, rfl, by decide +kernel, by decide +kernel⟩
def spNumbers : Sp := fun vs H Q _ => ∃ bg : Addr, vs = [.ref bg] ∧ Bag H bg ∧ ∀ (p : Addr) (a t m : Int) (H' : Hp), Ext bg H H' → H p = none → H' p = some (.tup [.int a, .int t, .int m]) → 1 ≤ a → a ≤ 9 → 0 ≤ t → t ≤ 4 → 0 ≤ m → m ≤ 9 → Q (.ref p) H'
theorem ints_in {lo hi : Int} {ns : List Int} (h : ∀ n ∈ ns, lo ≤ n ∧ n ≤ hi) {v : V} (m : v ∈ ns.map V.int) : ∃ n, v = .int n ∧ lo ≤ n ∧ n ≤ hi := by
  obtain ⟨n, hn, rfl⟩ := List.mem_map.mp m
  exact ⟨n, rfl, h n hn⟩
theorem ok_numbers {f fS fT : Addr} {fd fdS fdT : FuncData} (F : Fun K "_law_numbers" "_law_numbers" sNumbers f fd) (C : Ct P w K mg base "_law_some" 2 ["bag", "things"] spSome2 fS fdS) (CT : Ct P w K mg base "_law_take" 1 ["bag", "upto"] spTake fT fdT) : FnOk P w K mg base CX0 3 f fd ["bag"] spNumbers := by
  refine F.ok scNumbers (fun vs H Q E h => ?_) (fun cdv A outer s H vs Q E hr h => ?_)
  · obtain ⟨bg, rfl, _⟩ := h
    rfl
  · obtain ⟨bg, rfl, hB, k⟩ := h
    have hr1 : Room 1 (A.deeper (envOfC "_law_numbers" (defScope sNumbers) s.heap.objs.size f cdv)) := hr.mono (by decide)
    refine ⟨_, (pss_cons (ps_set (i := 1) scNumbers.nd rfl (Or.inl rfl) (pe_call C.G hr (by rfl) C.m C.kp C.b .nil pass0 (pa_cons (pv 0) (pa_cons (pe_lst (pa_cons pe_int (pa_cons pe_int (pa_cons pe_int (pa_cons pe_int (pa_cons pe_int (pa_cons pe_int (pa_cons pe_int (pa_cons pe_int (pa_cons pe_int (pa_cons pe_int pa_nil))))))))))) pa_nil))))
      (pss_one (ps_ret (pe_tup (pa_cons (pe_op op_add pe_int (pe_call C.G hr (by rfl) C.m C.kp C.b .nil pass0 (pa_cons (pv 0) (pa_cons (pe_lst (pa_cons pe_int (pa_cons pe_int (pa_cons pe_int (pa_cons pe_int (pa_cons (pe_call CT.G hr1 (by rfl) CT.m CT.kp CT.b .nil pass0 (pa_cons (pv 0) (pa_cons pe_int pa_nil))) pa_nil)))))) pa_nil))))
        (pa_cons (pe_call C.G hr (by rfl) C.m C.kp C.b .nil pass0 (pa_cons (pv 0) (pa_cons (pe_lst (pa_cons pe_int (pa_cons pe_int (pa_cons pe_int (pa_cons pe_int (pa_cons pe_int (pa_cons pe_int pa_nil))))))) pa_nil))) (pa_cons (pv 1) pa_nil))))))), ?_⟩
    have sz : ∀ {m : Nat}, m ≤ 900 → m ≤ sizeLine := fun h => Nat.le_of_lt (small1000 (by omega))
    refine ⟨_, rfl, sz (by decide), fun p1 n1 => ?_⟩
    have E1 : Ext bg H (upd H p1 (.lst (([9, 9, 9, 9, 1, 2, 3, 5, 8, 0] : List Int).map V.int))) := (Ext.of_same hB Same.refl').new n1
    refine ⟨bg, p1, _, rfl, E1.bag, fun w => hB.there (w ▸ n1), .inl (show upd H p1 (.lst (([9, 9, 9, 9, 1, 2, 3, 5, 8, 0] : List Int).map V.int)) p1 = _ from upd_same), by decide, by decide, fun v H2 mv E2 => ?_⟩
    obtain ⟨m, rfl, m0, m9⟩ := ints_in (lo := 0) (hi := 9) (by decide) mv
    have E12 := E1.trans E2
    refine ⟨_, rfl, _, rfl, bg, 9, rfl, E12.bag, by decide, by decide, fun z H3 E3 z0 z1 => ?_⟩
    have E13 := E12.trans E3
    refine ⟨sz (by show 5 ≤ 900; decide), fun p2 n2 => ?_⟩
    have E4 : Ext bg H (upd H3 p2 (.lst (([0, 0, 1, 2, z] : List Int).map V.int))) := E13.new n2
    refine ⟨bg, p2, _, rfl, E4.bag, fun w => E13.bag.there (w ▸ n2), .inl (show upd H3 p2 (.lst (([0, 0, 1, 2, z] : List Int).map V.int)) p2 = _ from upd_same), by show 0 < 5; decide, by show 5 ≤ 1000; decide, fun v H5 mv E5 => ?_⟩
    obtain ⟨b, rfl, b0, b8⟩ := ints_in (lo := 0) (hi := 8) (by
      intro n hn
      simp only [List.mem_cons, List.mem_nil_iff, or_false] at hn
      omega) mv
    have E15 := E4.trans E5
    refine ⟨_, _, rfl, rfl, _, rfl, sz (by decide), fun p3 n3 => ?_⟩
    have E6 : Ext bg H (upd H5 p3 (.lst (([0, 1, 1, 2, 3, 4] : List Int).map V.int))) := E15.new n3
    refine ⟨bg, p3, _, rfl, E6.bag, fun w => E15.bag.there (w ▸ n3), .inl (show upd H5 p3 (.lst (([0, 1, 1, 2, 3, 4] : List Int).map V.int)) p3 = _ from upd_same), by decide, by decide, fun v H7 mv E7 => ?_⟩
    obtain ⟨t, rfl, t0, t4⟩ := ints_in (lo := 0) (hi := 4) (by decide) mv
    have E17 := E6.trans E7
    refine ⟨_, rfl, sz (by show 3 ≤ 900; decide), fun p n => ?_⟩
    exact k p (1 + b) t m _ (E17.new n) (newAt E17 n) upd_same (by omega) (by omega) t0 t4 m0 m9
end
end KaG


set_option maxRecDepth 100000
set_option maxHeartbeats 2000000
namespace KaG
open PySem PySem.Spec PyProof.Rows L2
/-- the items of a need on some rows and kinds -/
inductive NeedV (rows names : List Str) : List V → Prop
  | row (n : Str) (t m : Int) (h : n ∈ rows) (t0 : 0 ≤ t) (t4 : t ≤ 4) (m0 : 0 ≤ m) (m9 : m ≤ 9) : NeedV rows names [.str "row", .str n, .int t, .int m]
  | kind (n : Str) (a t m : Int) (h : n ∈ names) (a1 : 1 ≤ a) (a9 : a ≤ 9) (t0 : 0 ≤ t) (t4 : t ≤ 4) (m0 : 0 ≤ m) (m9 : m ≤ 9) : NeedV rows names [.str "kind", .str n, .int a, .int t, .int m]
section
variable {P : Program} {w : World} {K : PySem.W.Frag} {mg : Str → Option Value} {base : Heap}
theorem scNeed : FnScope ["bag", "rows", "names", "after", "tell", "most"] ["bag", "rows", "names"] (defScope sNeed) := ⟨rfl, rfl, rfl, by decide +kernel, rfl, by decide +kernel, by decide +kernel⟩
def spNeed : Sp := fun vs H Q _ => ∃ (bg r n : Addr) (rows names : List Str), vs = [.ref bg, .ref r, .ref n] ∧ Bag H bg ∧ r ≠ bg ∧ n ≠ bg ∧ H r = some (.tup (rows.map V.str)) ∧ H n = some (.tup (names.map V.str)) ∧ 0 < rows.length ∧ 0 < names.length ∧ rows.length ≤ 20 ∧ names.length ≤ 20 ∧
  ∀ (p : Addr) (xs : List V) (H' : Hp), Ext bg H H' → H p = none → H' p = some (.tup xs) → NeedV rows names xs → Q (.ref p) H'
theorem strs_in {ns : List Str} {v : V} (m : v ∈ ns.map V.str) : ∃ n, v = .str n ∧ n ∈ ns := by
  obtain ⟨n, hn, rfl⟩ := List.mem_map.mp m
  exact ⟨n, rfl, hn⟩
theorem ok_need {f fN fS fT : Addr} {fd fdN fdS fdT : FuncData} (F : Fun K "_law_need" "_law_need" sNeed f fd) (CN : Ct P w K mg base "_law_numbers" 3 ["bag"] spNumbers fN fdN) (C : Ct P w K mg base "_law_some" 2 ["bag", "things"] spSome2 fS fdS) (CT : Ct P w K mg base "_law_take" 1 ["bag", "upto"] spTake fT fdT) : FnOk P w K mg base CX0 4 f fd ["bag", "rows", "names"] spNeed := by
  refine F.ok scNeed (fun vs H Q E h => ?_) (fun cdv A outer s H vs Q E hr h => ?_)
  · obtain ⟨bg, r, n, rows, names, rfl, _⟩ := h
    rfl
  · obtain ⟨bg, r, n, rows, names, rfl, hB, rb, nb, er, en, r0, n0, r20, n20, k⟩ := h
    have hr2 : Room 2 (A.deeper (envOfC "_law_need" (defScope sNeed) s.heap.objs.size f cdv)) := hr.mono (by decide)
    have hr1 : Room 1 (A.deeper (envOfC "_law_need" (defScope sNeed) s.heap.objs.size f cdv)) := hr.mono (by decide)
    refine ⟨_, (pss_cons (ps_asg (pe_call CN.G hr (by rfl) CN.m CN.kp CN.b .nil pass0 (pa_cons (pv 0) pa_nil)) (pg_tup (by rfl) (pgs_cons (pg_name (i := 3) scNeed.nd rfl (Or.inl rfl)) (pgs_cons (pg_name (i := 4) scNeed.nd rfl (Or.inl rfl)) (pgs_cons (pg_name (i := 5) scNeed.nd rfl (Or.inl rfl)) pgs_nil)))))
      (pss_cons (ps_if (pt_cmpR op_lt (pe_call CT.G hr1 (by rfl) CT.m CT.kp CT.b .nil pass0 (pa_cons (pv 0) (pa_cons pe_int pa_nil))) pe_int (nomark _))
        (pss_one (ps_ret (pe_tup (pa_cons pe_str (pa_cons (pe_call C.G hr2 (by rfl) C.m C.kp C.b .nil pass0 (pa_cons (pv 0) (pa_cons (pv 1) pa_nil))) (pa_cons (pv 4) (pa_cons (pv 5) pa_nil))))))) pss_nil)
      (pss_one (ps_ret (pe_tup (pa_cons pe_str (pa_cons (pe_call C.G hr2 (by rfl) C.m C.kp C.b .nil pass0 (pa_cons (pv 0) (pa_cons (pv 2) pa_nil))) (pa_cons (pv 3) (pa_cons (pv 4) (pa_cons (pv 5) pa_nil)))))))))), ?_⟩
    have sz : ∀ {m : Nat}, m ≤ 900 → m ≤ sizeLine := fun h => Nat.le_of_lt (small1000 (by omega))
    refine ⟨_, rfl, bg, rfl, hB, fun p a t m H1 E1 np ep a1 a9 t0 t4 m0 m9 => ?_⟩
    refine ⟨p, _, rfl, SqT.of ep, by rfl, _, _, rfl, _, _, rfl, _, _, rfl, rfl, ?_⟩
    refine ⟨_, rfl, bg, 5, rfl, E1.bag, by decide, by decide, fun z H2 E2 z0 z1 => ?_⟩
    have E12 := E1.trans E2
    refine ⟨_, _, rfl, rfl, _, rfl, ite2 (fun hc => ?_) fun hc => ?_⟩
    · refine ⟨_, rfl, _, rfl, bg, r, rows.map V.str, rfl, E12.bag, rb, .inr (E12.keep r _ rb er), by rw [List.length_map]; exact r0, by rw [List.length_map]; omega, fun v H3 mv E3 => ?_⟩
      obtain ⟨x, rfl, hx⟩ := strs_in mv
      have E13 := E12.trans E3
      refine ⟨_, rfl, _, rfl, sz (by show 4 ≤ 900; decide), fun q nq => ?_⟩
      exact k q _ _ (E13.new nq) (newAt E13 nq) upd_same (.row x t m hx t0 t4 m0 m9)
    · refine ⟨_, rfl, _, rfl, bg, n, names.map V.str, rfl, E12.bag, nb, .inr (E12.keep n _ nb en), by rw [List.length_map]; exact n0, by rw [List.length_map]; omega, fun v H3 mv E3 => ?_⟩
      obtain ⟨x, rfl, hx⟩ := strs_in mv
      have E13 := E12.trans E3
      refine ⟨_, rfl, _, rfl, _, rfl, sz (by show 5 ≤ 900; decide), fun q nq => ?_⟩
      exact k q _ _ (E13.new nq) (newAt E13 nq) upd_same (.kind x a t m hx a1 a9 t0 t4 m0 m9)
end
end KaG


set_option maxRecDepth 100000
set_option maxHeartbeats 2000000
namespace KaG
open PySem PySem.Spec PyProof.Rows L2
section
variable {P : Program} {w : World} {K : PySem.W.Frag} {mg : Str → Option Value} {base : Heap}
theorem scMore : FnScope ["bag", "sort", "rows"] ["bag", "sort", "rows"] (defScope sMore) := ⟨rfl, rfl, rfl, by decide +kernel, rfl, by decide +kernel, by decide +kernel⟩
def spMore : Sp := fun vs H Q _ => ∃ (bg r : Addr) (v : V) (rows : List Str), vs = [.ref bg, v, .ref r] ∧ Bag H bg ∧ r ≠ bg ∧ H r = some (.tup (rows.map V.str)) ∧ rows.length = 2 ∧
  ∀ (p : Addr) (xs : List V) (H' : Hp), Ext bg H H' → H p = none → H' p = some (.lst xs) → (xs = [] ∨ ∃ q its, xs = [.ref q] ∧ H q = none ∧ H' q = some (.tup its) ∧ ∀ names, NeedV rows names its) → Q (.ref p) H'
theorem ok_more {f fS fT : Addr} {fd fdS fdT : FuncData} (F : Fun K "_law_more_needs" "_law_more_needs" sMore f fd) (C : Ct P w K mg base "_law_some" 2 ["bag", "things"] spSome2 fS fdS) (CT : Ct P w K mg base "_law_take" 1 ["bag", "upto"] spTake fT fdT) : FnOk P w K mg base CX0 3 f fd ["bag", "sort", "rows"] spMore := by
  refine F.ok scMore (fun vs H Q E h => ?_) (fun cdv A outer s H vs Q E hr h => ?_)
  · obtain ⟨bg, r, v, rows, rfl, _⟩ := h
    rfl
  · obtain ⟨bg, r, v, rows, rfl, hB, rb, er, r2, k⟩ := h
    have hr1 : Room 1 (A.deeper (envOfC "_law_more_needs" (defScope sMore) s.heap.objs.size f cdv)) := hr.mono (by decide)
    refine ⟨_, (pss_cons (ps_if (pt_cmpR op_gt (pe_call CT.G hr1 (by rfl) CT.m CT.kp CT.b .nil pass0 (pa_cons (pv 0) (pa_cons pe_int pa_nil))) pe_int (nomark _)) (pss_one (ps_ret (pe_lst pa_nil))) pss_nil)
      (pss_one (ps_ret (pe_lst (pa_cons (pe_tup (pa_cons pe_str (pa_cons (pe_ix ix_tup (pv 2) pe_int (fun _ _ => rfl)) (pa_cons (pe_call CT.G hr1 (by rfl) CT.m CT.kp CT.b .nil pass0 (pa_cons (pv 0) (pa_cons pe_int pa_nil)))
        (pa_cons (pe_call C.G hr (by rfl) C.m C.kp C.b .nil pass0 (pa_cons (pv 0) (pa_cons (pe_lst (pa_cons pe_int (pa_cons pe_int (pa_cons pe_int (pa_cons pe_int pa_nil))))) pa_nil))) pa_nil))))) pa_nil))))), ?_⟩
    have sz : ∀ {m : Nat}, m ≤ 900 → m ≤ sizeLine := fun h => Nat.le_of_lt (small1000 (by omega))
    obtain ⟨ra, rc, rfl⟩ : ∃ a b, rows = [a, b] := by
      match rows, r2 with
      | [a, b], _ => exact ⟨a, b, rfl⟩
    refine ⟨_, rfl, bg, 3, rfl, hB, by decide, by decide, fun z H1 E1 z0 z1 => ?_⟩
    refine ⟨_, _, rfl, rfl, _, rfl, ite2 (fun hc => ?_) fun hc => ?_⟩
    · refine ⟨Nat.zero_le _, fun p np => ?_⟩
      exact k p [] _ (E1.new np) (newAt E1 np) upd_same (.inl rfl)
    · refine ⟨_, rfl, r, _, 1, .str rc, rfl, rfl, SqT.of (E1.keep r _ rb er), rfl, _, rfl, bg, 5, rfl, E1.bag, by decide, by decide, fun t H2 E2 t0 t5 => ?_⟩
      have E12 := E1.trans E2
      refine ⟨_, rfl, sz (by decide), fun p2 n2 => ?_⟩
      have E4 : Ext bg H (upd H2 p2 (.lst (([9, 9, 0, 4] : List Int).map V.int))) := E12.new n2
      refine ⟨bg, p2, _, rfl, E4.bag, fun w => E12.bag.there (w ▸ n2), .inl (show upd H2 p2 (.lst (([9, 9, 0, 4] : List Int).map V.int)) p2 = _ from upd_same), by decide, by decide, fun v H5 mv E5 => ?_⟩
      obtain ⟨m, rfl, m0, m9⟩ := ints_in (lo := 0) (hi := 9) (by decide) mv
      have E15 := E4.trans E5
      refine ⟨sz (by show 4 ≤ 900; decide), fun q nq => ⟨sz (by show 1 ≤ 900; decide), fun p np => ?_⟩⟩
      have E6 := E15.new (o := .tup [.str "row", .str rc, .int t, .int m]) nq
      have pq : q ≠ p := fun z => by rw [← z, upd_same] at np; cases np
      exact k p _ _ (E6.new np) (newAt E6 np) upd_same (.inr ⟨q, _, rfl, newAt E15 nq, by rw [upd_ne pq, upd_same], fun names => .row rc t m (by simp) t0 (by omega) m0 m9⟩)
end
end KaG


set_option maxRecDepth 100000
set_option maxHeartbeats 2000000
namespace KaG
open PySem PySem.Spec PyProof.Rows L2
/-! ### a rulebook, as it stands in the heap (tuples in tuples) -/
structure Kd where
  name : Str
  keep : Int
  bar : Int
  gs : List (List (List V))
abbrev Grd (H : Hp) (ga : Addr) (g : List (List V)) : Prop := ∃ ns : List Addr, H ga = some (.tup (ns.map V.ref)) ∧ Paired (fun n its => H n = some (.tup its)) ns g
abbrev KdAt (H : Hp) (ka : Addr) (k : Kd) : Prop := ∃ (gt : Addr) (gas : List Addr), H ka = some (.tup [.str k.name, .int k.keep, .int k.bar, .ref gt]) ∧ H gt = some (.tup (gas.map V.ref)) ∧ Paired (fun ga g => Grd H ga g) gas k.gs
structure BookAt (H : Hp) (b : Addr) (rows : List Str) (ks : List Kd) : Prop where
  it : ∃ (r kt : Addr) (kas : List Addr), H b = some (.tup [.ref r, .ref kt]) ∧ H r = some (.tup (rows.map V.str)) ∧ H kt = some (.tup (kas.map V.ref)) ∧ Paired (fun ka k => KdAt H ka k) kas ks
/-- what the numbers and names of a rulebook are -/
structure BookOk (rows : List Str) (ks : List Kd) : Prop where
  rw : Nms rows
  nm : Nms (ks.map Kd.name)
  r0 : 0 < rows.length
  k0 : 0 < ks.length
  k5 : ks.length ≤ 5
  num : ∀ k ∈ ks, 1 ≤ k.keep ∧ k.keep ≤ 8 ∧ 0 ≤ k.bar ∧ k.bar ≤ 12 ∧ k.gs.length ≤ 4
  grd : ∀ k ∈ ks, ∀ g ∈ k.gs, 0 < g.length ∧ g.length ≤ 3 ∧ ∀ n ∈ g, NeedV rows (ks.map Kd.name) n
theorem Paired.mono' {α β : Type} {R S : α → β → Prop} (h : ∀ a b, R a b → S a b) : ∀ {xs : List α} {ys : List β}, Paired R xs ys → Paired S xs ys
  | _, _, .nil => .nil
  | _, _, .cons a r => .cons (h _ _ a) (Paired.mono' h r)
/-- what of the heap's tuples stays -/
def TSame (H H' : Hp) : Prop := ∀ b xs, H b = some (.tup xs) → H' b = some (.tup xs)
theorem TSame.of {H H' : Hp} (s : Same H H') : TSame H H' := fun b xs e => s b _ e
theorem TSame.ext {H H' : Hp} {bg : Addr} (hb : Bag H bg) (E : Ext bg H H') : TSame H H' := fun b xs e => E.keep b _ (fun z => by
  obtain ⟨c, st, i, b2, ns, e1, _⟩ := hb
  rw [z, e1] at e
  cases e) e
theorem Grd.ts {H H' : Hp} {ga : Addr} {g : List (List V)} (h : Grd H ga g) (s : TSame H H') : Grd H' ga g := by
  obtain ⟨ns, e, p⟩ := h
  exact ⟨ns, s _ _ e, Paired.mono' (fun a b q => s _ _ q) p⟩
theorem KdAt.ts {H H' : Hp} {ka : Addr} {k : Kd} (h : KdAt H ka k) (s : TSame H H') : KdAt H' ka k := by
  obtain ⟨gt, gas, e1, e2, p⟩ := h
  exact ⟨gt, gas, s _ _ e1, s _ _ e2, Paired.mono' (fun a b q => Grd.ts q s) p⟩
theorem BookAt.ts {H H' : Hp} {b : Addr} {rows : List Str} {ks : List Kd} (h : BookAt H b rows ks) (s : TSame H H') : BookAt H' b rows ks := by
  obtain ⟨r, kt, kas, e1, e2, e3, p⟩ := h
  exact ⟨⟨r, kt, kas, s _ _ e1, s _ _ e2, s _ _ e3, Paired.mono' (fun a b q => KdAt.ts q s) p⟩⟩
theorem paired_at {α β : Type} {R : α → β → Prop} : ∀ {xs : List α} {ys : List β} {i : Nat} {x : α}, Paired R xs ys → xs[i]? = some x → ∃ y, ys[i]? = some y ∧ R x y
  | _, _, i, _, .nil, e => by simp at e
  | _, _, 0, _, .cons h r, e => by
    cases e
    exact ⟨_, rfl, h⟩
  | _, _, i + 1, _, .cons h r, e => by
    obtain ⟨y, q1, q2⟩ := paired_at r (show _ = some _ from e)
    exact ⟨y, q1, q2⟩
theorem paired_len {α β : Type} {R : α → β → Prop} : ∀ {xs : List α} {ys : List β}, Paired R xs ys → xs.length = ys.length
  | _, _, .nil => rfl
  | _, _, .cons h r => by rw [List.length_cons, List.length_cons, paired_len r]
/-! ### kind_names -/
abbrev sKindNames : Stmt := top 7
section
variable {P : Program} {w : World} {K : PySem.W.Frag} {mg : Str → Option Value} {base : Heap}
theorem scKindNames : FnScope ["rulebook", "kind"] ["rulebook"] (defScope sKindNames) := ⟨rfl, rfl, rfl, by decide +kernel, rfl, by decide +kernel, by decide +kernel⟩
def spKindNames : Sp := fun vs H Q _ => ∃ (b : Addr) (rows : List Str) (ks : List Kd), vs = [.ref b] ∧ BookAt H b rows ks ∧ ks.length ≤ 900 ∧ ∀ (p : Addr) (H' : Hp), Same H H' → H p = none → H' p = some (.lst ((ks.map Kd.name).map V.str)) → Q (.ref p) H'
theorem ok_kindNames {f : Addr} {fd : FuncData} (F : Fun K "kind_names" "kind_names" sKindNames f fd) : FnOk P w K mg base CX0 1 f fd ["rulebook"] spKindNames := by
  refine F.ok scKindNames (fun vs H Q E h => ?_) (fun cdv A outer s H vs Q E hr h => ?_)
  · obtain ⟨b, rows, ks, rfl, _⟩ := h
    rfl
  · obtain ⟨b, rows, ks, rfl, hA, hk, k⟩ := h
    refine ⟨_, pss_one (ps_ret (pe_lc (own := [("kind", 1)]) (g := gName 1) (by rfl) scKindNames.nd (pi_tup (pe_ix ix_tup (pv 0) pe_int (fun _ _ => rfl)))
      (blkOk_by (own := [("kind", 1)]) (N := ["rulebook", "kind"]) (sc := defScope sKindNames) (by decide +kernel)) (fun _ _ _ _ _ => pg_name (i := 1) scKindNames.nd rfl (Or.inl rfl)) (fun _ _ _ _ _ => pts_nil)
      (fun _ _ _ _ _ => pe_ix (r := rIxT K) ix_tup (pv 1) pe_int (fun _ _ => rfl)))), ?_⟩
    obtain ⟨r, kt, kas, e1, e2, e3, pk⟩ := hA
    have hlen := paired_len pk
    refine ⟨_, rfl, b, _, 1, .ref kt, rfl, rfl, SqT.of e1, rfl, kt, rfl, ⟨_, SqT.of e3⟩, fun D hD => lc_tup (K := K) (a := kt) (xs := kas.map V.ref) (fun i G => Same H G ∧ G D = some (.lst (((ks.take i).map Kd.name).map V.str))) ?_ ?_ ?_ ?_⟩
    · exact ⟨same_upd hD, upd_same⟩
    · rintro i G _ ⟨S, _⟩
      exact SqT.of (S _ _ e3)
    · rintro i x G hx ⟨S, gD⟩
      rw [List.getElem?_map] at hx
      obtain ⟨ka, ha, rfl⟩ := Option.map_eq_some_iff.mp hx
      obtain ⟨kd, hkd, gt, gas, f1, _⟩ := paired_at pk ha
      refine ⟨rfl, ?_⟩
      unfold tYes
      dsimp only
      refine iteT ⟨_, rfl, ka, _, 0, .str kd.name, rfl, rfl, SqT.of (S _ _ f1), rfl, _, gD, ?_, ?_, ?_⟩
      · rw [List.length_map, List.length_map, List.length_take]
        exact small1000 (by omega)
      · exact fun b u e => by rw [upd_ne (ne_of_none e hD)]; exact S b u e
      · rw [upd_same, List.take_add_one, hkd]
        simp
    · rintro G ⟨S, gD⟩
      rw [List.length_map, hlen, List.take_length] at gD
      exact k D G S hD gD
end
end KaG


set_option maxRecDepth 100000
set_option maxHeartbeats 2000000
namespace KaG
open PySem PySem.Spec PyProof.Rows L2
theorem paired_snoc {α β : Type} {R : α → β → Prop} {x : α} {y : β} (h : R x y) : ∀ {xs : List α} {ys : List β}, Paired R xs ys → Paired R (xs ++ [x]) (ys ++ [y])
  | _, _, .nil => .cons h .nil
  | _, _, .cons a r => .cons a (paired_snoc h r)
theorem merge_new : ∀ (kvs acc : List (Key × V)), ((acc ++ kvs).map (·.1)).Nodup → mergeK acc kvs = acc ++ kvs
  | [], acc, _ => by rw [List.append_nil]; rfl
  | p :: r, acc, h => by
    have hn : valV acc p.1 = none := by
      unfold valV
      have : acc.find? (fun kv => decide (kv.1 = p.1)) = none := by
        rw [List.find?_eq_none]
        intro q hq e
        rw [List.map_append, List.nodup_append] at h
        exact h.2.2 q.1 (List.mem_map_of_mem hq) p.1 (List.mem_map_of_mem (List.mem_cons_self ..)) (of_decide_eq_true e)
      rw [this] <;> rfl
    show mergeK (putK acc p.1 p.2) r = _
    rw [putK_new p.2 hn, merge_new r _ (by simpa using h)]
    simp
theorem refs_inj : ∀ {xs ys : List Addr}, xs.map V.ref = ys.map V.ref → xs = ys
  | [], [], _ => rfl
  | [], _ :: _, h => by cases h
  | _ :: _, [], h => by cases h
  | x :: xs, y :: ys, h => by
    rw [List.map_cons, List.map_cons] at h
    obtain ⟨h1, h2⟩ := List.cons.inj h
    cases h1
    rw [refs_inj h2]
/-- the addresses of the kinds of the rulebook at b -/
def KasOf (H : Hp) (b : Addr) (kas : List Addr) : Prop := ∃ r kt, H b = some (.tup [.ref r, .ref kt]) ∧ H kt = some (.tup (kas.map V.ref))
def kvsOf (ks : List Kd) (kas : List Addr) : List (Key × V) := (ks.zip kas).map fun z => (Sum.inr z.1.name, V.ref z.2)
section
variable {P : Program} {w : World} {K : PySem.W.Frag} {mg : Str → Option Value} {base : Heap}
theorem scKinds : FnScope ["rulebook", "kind"] ["rulebook"] (defScope sKinds) := ⟨rfl, rfl, rfl, by decide +kernel, rfl, by decide +kernel, by decide +kernel⟩
def spKinds : Sp := fun vs H Q _ => ∃ (b : Addr) (rows : List Str) (ks : List Kd) (kas : List Addr), vs = [.ref b] ∧ BookAt H b rows ks ∧ KasOf H b kas ∧ ks.length ≤ 900 ∧ (ks.map Kd.name).Nodup ∧ ∀ (p : Addr) (H' : Hp), Same H H' → H p = none → H' p = some (.dK (kvsOf ks kas)) → Q (.ref p) H'
theorem ok_kinds {f : Addr} {fd : FuncData} (F : Fun K "_law_kinds" "_law_kinds" sKinds f fd) (T : TxtC mg) : FnOk P w K mg base CX0 1 f fd ["rulebook"] spKinds := by
  refine F.ok scKinds (fun vs H Q E h => ?_) (fun cdv A outer s H vs Q E hr h => ?_)
  · obtain ⟨b, rows, ks, kas, rfl, _⟩ := h
    rfl
  · obtain ⟨b, rows, ks, kas, rfl, hA, hK, hk, nd, k⟩ := h
    refine ⟨_, pss_one (ps_ret (pe_callTy (call_dictP rfl) (by rfl) T.dct (by decide +kernel) (pa_cons (pe_lc (own := [("kind", 1)]) (g := gName 1) (by rfl) scKinds.nd (pi_tup (pe_ix ix_tup (pv 0) pe_int (fun _ _ => rfl)))
      (blkOk_by (own := [("kind", 1)]) (N := ["rulebook", "kind"]) (sc := defScope sKinds) (by decide +kernel)) (fun _ _ _ _ _ => pg_name (i := 1) scKinds.nd rfl (Or.inl rfl)) (fun _ _ _ _ _ => pts_nil)
      (fun _ _ _ _ _ => pe_tup (pa_cons (pe_ix (r := rIxT K) ix_tup (pv 1) pe_int (fun _ _ => rfl)) (pa_cons (pv 1) pa_nil)))) pa_nil))), ?_⟩
    obtain ⟨r, kt, kas', e1, e2, e3, pk⟩ := hA
    obtain ⟨r', kt', g1, g2⟩ := hK
    rw [e1] at g1
    cases g1
    rw [e3] at g2
    obtain rfl : kas' = kas := refs_inj (HO.tup.inj (Option.some.inj g2))
    have hlen := paired_len pk
    refine ⟨_, rfl, b, _, 1, .ref kt, rfl, rfl, SqT.of e1, rfl, kt, rfl, ⟨_, SqT.of e3⟩, fun D hD => lc_tup (K := K) (a := kt) (xs := kas'.map V.ref) (fun i G => Same H G ∧ ∃ qs : List Addr, qs.length = i ∧ G D = some (.lst (qs.map V.ref)) ∧ Paired (fun q (kv : Key × V) => G q = some (.tup [kV kv.1, kv.2])) qs ((kvsOf ks kas').take i)) ?_ ?_ ?_ ?_⟩
    · exact ⟨same_upd hD, [], rfl, upd_same, .nil⟩
    · rintro i G _ ⟨S, _⟩
      exact SqT.of (S _ _ e3)
    · rintro i x G hx ⟨S, qs, ql, gD, pq⟩
      rw [List.getElem?_map] at hx
      obtain ⟨ka, ha, rfl⟩ := Option.map_eq_some_iff.mp hx
      obtain ⟨kd, hkd, gt, gas, f1, _⟩ := paired_at pk ha
      have hi : i < kas'.length := (List.getElem?_eq_some_iff.mp ha).1
      have hz : (kvsOf ks kas')[i]? = some (Sum.inr kd.name, V.ref ka) := by
        unfold kvsOf
        rw [List.getElem?_map, (List.getElem?_zip_eq_some (z := (kd, ka))).mpr ⟨hkd, ha⟩] <;> rfl
      refine ⟨rfl, ?_⟩
      unfold tYes
      dsimp only
      refine iteT ⟨_, rfl, ka, _, 0, .str kd.name, rfl, rfl, SqT.of (S _ _ f1), rfl, _, rfl, Nat.le_of_lt (small1000 (by show 2 ≤ 1000; decide)), fun q nq => ?_⟩
      have s1 : Same G (upd G q (.tup [.str kd.name, .ref ka])) := same_upd nq
      have qD : q ≠ D := fun z => by rw [z, gD] at nq; cases nq
      refine ⟨_, s1 _ _ gD, small1000 (by rw [List.length_map]; omega), ?_, qs ++ [q], by rw [List.length_append, ql]; rfl, by rw [upd_same, List.map_append]; rfl, ?_⟩
      · exact fun b u e => by rw [upd_ne (ne_of_none e hD)]; exact s1 _ _ (S b u e)
      · rw [List.take_add_one, hz]
        refine paired_snoc ?_ (Paired.mono' (fun a kv h => ?_) pq)
        · rw [upd_ne qD, upd_same]
          rfl
        · have : a ≠ D := fun z => by rw [z, gD] at h; cases h
          rw [upd_ne this]
          exact s1 _ _ h
    · rintro G ⟨S, qs, ql, gD, pq⟩
      have hkl : (kvsOf ks kas').length = kas'.length := by
        unfold kvsOf
        rw [List.length_map, List.length_zip, hlen, Nat.min_self]
      rw [List.length_map, ← hkl, List.take_length] at pq
      have hnd : ((([] : List (Key × V)) ++ kvsOf ks kas').map (·.1)).Nodup := by
        rw [List.nil_append]
        have e : (kvsOf ks kas').map (·.1) = (ks.map Kd.name).map Sum.inr := by
          unfold kvsOf
          rw [List.map_map, List.map_map]
          have : ((fun x : Key × V => x.1) ∘ fun z : Kd × Addr => (Sum.inr z.1.name, V.ref z.2)) = (Sum.inr ∘ Kd.name) ∘ Prod.fst := rfl
          rw [this, ← List.map_map, List.map_fst_zip (by omega)]
        rw [e]
        exact List.pairwise_map.mpr (nd.imp fun h z => h (Sum.inr.inj z))
      refine ⟨D, qs, kvsOf ks kas', rfl, SqL.of gD, Paired.mono' (fun a kv h => SqT.of h) pq, fun p np => ?_⟩
      rw [merge_new _ _ hnd, List.nil_append]
      refine k p _ (KaG.Same.tr S (same_upd np)) ?_ upd_same
      cases e : H p with
      | none => rfl
      | some u => rw [S _ _ e] at np; cases np
end
end KaG


set_option maxRecDepth 100000
set_option maxHeartbeats 2000000
namespace KaG
open PySem PySem.Spec PyProof.Rows L2
abbrev Plc := Str × Nat × Nat
def plG (k : Kd) (g : Nat) : List Plc := (List.range (k.gs.getD g []).length).map fun n => (k.name, g, n)
def plK (k : Kd) : List Plc := (List.range k.gs.length).flatMap (plG k)
def placesOf (ks : List Kd) : List Plc := ks.flatMap plK
/-- tuples of places, at these addresses -/
def PlAt (H : Hp) (as : List Addr) (ps : List Plc) : Prop := Paired (fun a (p : Plc) => H a = some (.tup [.str p.1, .int (p.2.1 : Int), .int (p.2.2 : Int)])) as ps
theorem PlAt.ts {H H' : Hp} {as : List Addr} {ps : List Plc} (h : PlAt H as ps) (s : TSame H H') : PlAt H' as ps := Paired.mono' (fun a p q => s _ _ q) h
theorem paired_app {α β : Type} {R : α → β → Prop} : ∀ {xs xs' : List α} {ys ys' : List β}, Paired R xs ys → Paired R xs' ys' → Paired R (xs ++ xs') (ys ++ ys')
  | _, _, _, _, .nil, q => q
  | _, _, _, _, .cons a r, q => .cons a (paired_app r q)
theorem range_snoc (f : Nat → List Plc) (n : Nat) : (List.range (n + 1)).flatMap f = (List.range n).flatMap f ++ f n := by
  rw [List.range_succ, List.flatMap_append]
  simp
theorem ts_lst {H : Hp} {p : Addr} {xs ys : List V} (e : H p = some (.lst xs)) : TSame H (upd H p (.lst ys)) := fun b zs q => by
  rw [upd_ne (fun z => by rw [z, e] at q; cases q)]
  exact q
section
variable {P : Program} {w : World} {K : PySem.W.Frag} {mg : Str → Option Value} {base : Heap}
theorem scPlaces : FnScope ["rulebook", "found", "name", "keep", "bar", "grounds", "g", "n"] ["rulebook"] (defScope sPlaces) := ⟨rfl, rfl, rfl, by decide +kernel, rfl, by decide +kernel, by decide +kernel⟩
def spPlaces : Sp := fun vs H Q _ => ∃ (b : Addr) (rows : List Str) (ks : List Kd), vs = [.ref b] ∧ BookAt H b rows ks ∧ BookOk rows ks ∧ ∀ (p : Addr) (as : List Addr) (H' : Hp), Same H H' → H p = none → H' p = some (.lst (as.map V.ref)) → PlAt H' as (placesOf ks) → as.length ≤ 60 → Q (.ref p) H'
theorem ok_places {f : Addr} {fd : FuncData} (F : Fun K "_law_places" "_law_places" sPlaces f fd) (T : TxtC mg) : FnOk P w K mg base CX0 1 f fd ["rulebook"] spPlaces := by
  refine F.ok scPlaces (fun vs H Q E h => ?_) (fun cdv A outer s H vs Q E hr h => ?_)
  · obtain ⟨b, rows, ks, rfl, _⟩ := h
    rfl
  · obtain ⟨b, rows, ks, rfl, hA, hO, k⟩ := h
    refine ⟨_, (pss_cons (ps_set (i := 1) scPlaces.nd rfl (Or.inl rfl) (pe_lst pa_nil))
      (pss_cons (ps_for PassesOwn.never rfl (pi_tup (pe_ix ix_tup (pv 0) pe_int (fun _ _ => rfl))) (pg_tup (by rfl) (pgs_cons (pg_name (i := 2) scPlaces.nd rfl (Or.inr rfl)) (pgs_cons (pg_name (i := 3) scPlaces.nd rfl (Or.inl rfl)) (pgs_cons (pg_name (i := 4) scPlaces.nd rfl (Or.inl rfl)) (pgs_cons (pg_name (i := 5) scPlaces.nd rfl (Or.inl rfl)) pgs_nil)))))
        (pss_one (ps_for PassesOwn.never rfl (pi_range1 rfl T.b.range (pa_cons (pe_callB call_len_seq (by rfl) T.b.len PySem.boot_len (pa_cons (pv 5) pa_nil)) pa_nil)) (pg_name (i := 6) scPlaces.nd rfl (Or.inr rfl))
          (pss_one (ps_expr (pe_bm PySem.F.plainAttrs_list PySem.F.slot_list_extend PySem.F.type_list_extend mt_extend (pv 1) (pa_cons (pe_lc (own := [("n", 7)]) (g := gName 7) (by rfl) scPlaces.nd
            (pi_range1 rfl T.b.range (pa_cons (pe_callB call_len_seq (by rfl) T.b.len PySem.boot_len (pa_cons (pe_ix ix_tup (pv 5) (pv 6) (fun _ _ => rfl)) pa_nil)) pa_nil))
            (blkOk_by (own := [("n", 7)]) (N := ["rulebook", "found", "name", "keep", "bar", "grounds", "g", "n"]) (sc := defScope sPlaces) (by decide +kernel)) (fun _ _ _ _ _ => pg_name (i := 7) scPlaces.nd rfl (Or.inl rfl)) (fun _ _ _ _ _ => pts_nil)
            (fun _ _ _ _ _ => pe_tup (pa_cons (pv 2) (pa_cons (pv 6) (pa_cons (pv 7) pa_nil))))) pa_nil)))))))
      (pss_one (ps_ret (pv 1))))), ?_⟩
    have sz : ∀ {m : Nat}, m ≤ 900 → m ≤ sizeLine := fun h => Nat.le_of_lt (small1000 (by omega))
    have sz2 : ∀ {m : Nat}, m ≤ 900 → m < sizeLine := fun h => small1000 (by omega)
    obtain ⟨r, kt, kas, e1, e2, e3, pk⟩ := hA
    have hlen := paired_len pk
    have hk5 := hO.k5
    refine ⟨Nat.zero_le _, fun p np => ?_⟩
    have s0 : Same H (upd H p (.lst [])) := same_upd np
    refine ⟨_, rfl, b, _, 1, .ref kt, rfl, rfl, SqT.of (s0 _ _ e1), rfl, kt, rfl, ⟨_, SqT.of (s0 _ _ e3)⟩, for_tup (K := K) (a := kt) (xs := kas.map V.ref) (fun i σ' G => (∃ x2 x3 x4 x5 x6 x7 : Option V, σ' = [some (.ref b), some (.ref p), x2, x3, x4, x5, x6, x7]) ∧ Same H G ∧ ∃ as : List Addr, G p = some (.lst (as.map V.ref)) ∧ PlAt G as ((ks.take i).flatMap plK) ∧ as.length ≤ 12 * i) ?_ ?_ ?_ ?_⟩
    · exact ⟨⟨_, _, _, _, _, _, rfl⟩, s0, [], upd_same, .nil, Nat.le_refl _⟩
    · rintro i σ' G _ ⟨_, S, _⟩
      exact SqT.of (S _ _ e3)
    · rintro i x σ' G hx ⟨⟨x2, x3, x4, x5, x6, x7, rfl⟩, S, as, gp, pa, la⟩
      rw [List.getElem?_map] at hx
      obtain ⟨ka, ha, rfl⟩ := Option.map_eq_some_iff.mp hx
      obtain ⟨kd, hkd, gt, gas, f1, f2, f3⟩ := paired_at pk ha
      have mk : kd ∈ ks := List.mem_of_getElem? hkd
      have hi : i < kas.length := (List.getElem?_eq_some_iff.mp ha).1
      have hgl := paired_len f3
      obtain ⟨_, _, _, _, hg4⟩ := hO.num kd mk
      refine ⟨ka, _, rfl, SqT.of (S _ _ f1), by rfl, _, _, rfl, _, _, rfl, _, _, rfl, _, _, rfl, rfl, ?_⟩
      refine ⟨_, rfl, gt, gas.map V.ref, rfl, .inr (SqT.of (S _ _ f2)), _, rfl, by omega, by rw [List.length_map]; omega, for_range (fun g σ' J => (∃ y6 y7 : Option V, σ' = [some (.ref b), some (.ref p), some (.str kd.name), some (.int kd.keep), some (.int kd.bar), some (.ref gt), y6, y7]) ∧ Same H J ∧ ∃ bs : List Addr, J p = some (.lst (bs.map V.ref)) ∧ PlAt J bs ((ks.take i).flatMap plK ++ (List.range g).flatMap (plG kd)) ∧ bs.length ≤ 12 * i + 3 * g) ?_ ?_ ?_⟩
      · exact ⟨⟨_, _, rfl⟩, S, as, gp, by simpa using pa, by omega⟩
      · rintro g σ' J hg ⟨⟨y6, y7, rfl⟩, S2, bs, jp, pb, lb⟩
        rw [Int.toNat_natCast, List.length_map] at hg
        have hga : gas[g]? = some gas[g] := by simp [hg]
        obtain ⟨gr, hgr, ns, h1, h2⟩ := paired_at f3 hga
        have hnl := paired_len h2
        obtain ⟨_, h3, _⟩ := hO.grd kd mk gr (List.mem_of_getElem? hgr)
        have egr : kd.gs.getD g [] = gr := by simp [hgr]
        have ea : atI (gas.map V.ref) (0 + (g : Int)) = some (.ref gas[g]) := by
          rw [Int.zero_add]
          exact atI_nat (by rw [List.getElem?_map, hga]; rfl)
        refine ⟨_, rfl, .inl ⟨rfl, _, SqL.of jp⟩, _, rfl, _, rfl, gt, _, _, .ref gas[g], rfl, rfl, SqT.of (S2 _ _ f2), ea, _, ns.map V.ref, rfl, .inr (SqT.of (S2 _ _ h1)), _, rfl, by omega, by rw [List.length_map]; omega, fun D hD => lc_range (fun m G => Same J G ∧ ∃ qs : List Addr, qs.length = m ∧ G D = some (.lst (qs.map V.ref)) ∧ PlAt G qs ((List.range m).map fun n => (kd.name, g, n))) ?_ ?_ ?_⟩
        · exact ⟨same_upd hD, [], rfl, upd_same, .nil⟩
        · rintro m G hm ⟨S3, qs, ql, gD, pq⟩
          rw [Int.toNat_natCast, List.length_map] at hm
          refine ⟨rfl, ?_⟩
          unfold tYes
          dsimp only
          refine iteT ⟨_, rfl, _, rfl, _, rfl, sz (by show 3 ≤ 900; decide), fun q nq => ?_⟩
          have s1 : Same G (upd G q (.tup [.str kd.name, .int (0 + (g : Int)), .int (0 + (m : Int))])) := same_upd nq
          have qD : q ≠ D := fun z => by rw [z, gD] at nq; cases nq
          refine ⟨_, s1 _ _ gD, small1000 (by rw [List.length_map]; omega), ?_, qs ++ [q], by rw [List.length_append, ql]; rfl, by rw [upd_same, List.map_append]; rfl, ?_⟩
          · exact fun b u e => by rw [upd_ne (ne_of_none e hD)]; exact s1 _ _ (S3 b u e)
          · rw [List.range_succ, List.map_append]
            refine paired_snoc ?_ ((pq.ts (TSame.of s1)).ts (ts_lst (s1 _ _ gD)))
            rw [upd_ne qD, upd_same, Int.zero_add, Int.zero_add]
        · rintro G ⟨S3, qs, ql, gD, pq⟩
          rw [Int.toNat_natCast, List.length_map] at ql pq
          have pD : p ≠ D := fun z => by rw [← z, jp] at hD; cases hD
          refine ⟨p, D, _, _, rfl, rfl, S3 _ _ jp, gD, sz (by rw [List.length_map, List.length_map]; omega), ?_⟩
          have ts1 : TSame G (upd G p (.lst (bs.map V.ref ++ qs.map V.ref))) := ts_lst (S3 _ _ jp)
          refine ⟨⟨_, _, rfl⟩, ?_, bs ++ qs, by rw [upd_same, List.map_append], ?_, by rw [List.length_append]; omega⟩
          · exact fun b u e => by rw [upd_ne (ne_of_none e np)]; exact S3 _ _ (S2 b u e)
          · rw [range_snoc, ← List.append_assoc]
            refine paired_app ((pb.ts (TSame.of S3)).ts ts1) ?_
            have e : plG kd g = (List.range ns.length).map fun n => (kd.name, g, n) := by
              unfold plG
              rw [egr, hnl]
            rw [e]
            exact pq.ts ts1
      · rintro σ' J ⟨⟨y6, y7, rfl⟩, S2, bs, jp, pb, lb⟩
        rw [Int.toNat_natCast, List.length_map, hgl] at pb
        rw [Int.toNat_natCast, List.length_map] at lb
        refine ⟨⟨_, _, _, _, _, _, rfl⟩, S2, bs, jp, ?_, by omega⟩
        have e : (ks.take (i + 1)).flatMap plK = (ks.take i).flatMap plK ++ (List.range kd.gs.length).flatMap (plG kd) := by
          rw [List.take_add_one, hkd, List.flatMap_append]
          simp [plK]
        rw [e]
        exact pb
    · rintro σ' G ⟨⟨x2, x3, x4, x5, x6, x7, rfl⟩, S, as, gp, pa, la⟩
      rw [List.length_map, hlen, List.take_length] at pa
      rw [List.length_map] at la
      exact ⟨_, rfl, k p as G S np gp pa (by omega)⟩
end
end KaG


set_option maxRecDepth 100000
set_option maxHeartbeats 4000000
namespace KaG
open PySem PySem.Spec PyProof.Rows L2 KaC
def rLenOf (K : PySem.W.Frag) : List V → Hp → VK → Prop := fun xs H Q => ∃ p ys, xs = [.ref p] ∧ (SqL K H p ys ∨ SqT K H p ys) ∧ Q (.int ys.length) H
theorem call_lenOf {X : Cx} : CallR X (.builtin "len") (rLenOf X.K) := call_len_seq
theorem same_back {H G : Hp} {p : Addr} (S : Same H G) (n : G p = none) : H p = none := by
  cases e : H p with
  | none => rfl
  | some u => rw [S _ _ e] at n; cases n
abbrev sPlacesOf : Stmt := top 8
section
variable {P : Program} {w : World} {K : PySem.W.Frag} {mg : Str → Option Value} {base : Heap}
abbrev nmPO : List Str := ["rulebook", "kind", "at", "ground", "place"]
theorem scPO : FnScope nmPO ["rulebook"] (defScope sPlacesOf) := ⟨rfl, rfl, rfl, by decide +kernel, rfl, by decide +kernel, by decide +kernel⟩
theorem ok_placesOf {f : Addr} {fd : FuncData} (F : Fun K "places_of" "places_of" sPlacesOf f fd) (T : TxtC mg) (hen : mg "enumerate" = none) : FnOk P w K mg base CX0 1 f fd ["rulebook"] spPlaces := by
  refine F.ok scPO (fun vs H Q E h => ?_) (fun cdv A outer s H vs Q E hr h => ?_)
  · obtain ⟨b, rows, ks, rfl, _⟩ := h
    rfl
  · obtain ⟨b, rows, ks, rfl, hA, hO, k⟩ := h
    refine ⟨_, pss_one (ps_ret (pe_lc3 [2, 3, 4] [4] (own := [("kind", 1), ("at", 2), ("ground", 3), ("place", 4)]) (g0 := gName 1) (g1 := gTup K 2 (gCons (gName 2) (gCons (gName 3) gNil))) (g2 := gName 4)
      (w1 := iEnumT K (tCons (tOp (rIxT K) (tVar 1) (tC (.int 3))) tNil)) (te := tTup (tCons (tOp (rIxT K) (tVar 1) (tC (.int 0))) (tCons (tVar 2) (tCons (tVar 4) tNil))))
      (by rfl) scPO.nd (pi_tup (pe_ix ix_tup (pv 0) pe_int (fun _ _ => rfl)))
      (blkOk_by (own := [("kind", 1), ("at", 2), ("ground", 3), ("place", 4)]) (N := nmPO) (sc := defScope sPlacesOf) (by decide +kernel)) (by decide) (by decide)
      (fun _ _ _ _ _ => pg_name (i := 1) scPO.nd rfl (Or.inl rfl)) (fun _ _ _ _ _ => pts_nil)
      (fun _ _ _ _ _ => pi_enumT (by rfl) hen (pa_cons (pe_ix (r := rIxT K) ix_tup (pv 1) pe_int (fun _ _ => rfl)) pa_nil))
      (fun _ _ _ _ _ => pg_tup (t := gCons (gName 2) (gCons (gName 3) gNil)) rfl (pgs_cons (pg_name (i := 2) scPO.nd rfl (Or.inl rfl)) (pgs_cons (pg_name (i := 3) scPO.nd rfl (Or.inl rfl)) pgs_nil))) (fun _ _ _ _ _ => pts_nil)
      (fun _ _ _ _ _ => pi_range1 rfl T.b.range (pa_cons (pe_callB (id := "len") (r := rLenOf K) call_lenOf (by rfl) T.b.len PySem.boot_len (pa_cons (pv 3) pa_nil)) pa_nil))
      (fun _ _ _ _ _ => pg_name (i := 4) scPO.nd rfl (Or.inl rfl)) (fun _ _ _ _ _ => pts_nil)
      (fun _ _ _ _ _ => pe_tup (pa_cons (pe_ix (r := rIxT K) ix_tup (pv 1) pe_int (fun _ _ => rfl)) (pa_cons (pv 2) (pa_cons (pv 4) pa_nil)))))), ?_⟩
    have sz : ∀ {m : Nat}, m ≤ 900 → m ≤ sizeLine := fun h => Nat.le_of_lt (small1000 (by omega))
    obtain ⟨r, kt, kas, e1, e2, e3, pk⟩ := hA
    have hlen := paired_len pk
    have hk5 := hO.k5
    refine ⟨_, rfl, b, _, 1, .ref kt, rfl, rfl, SqT.of e1, rfl, kt, rfl, ⟨_, SqT.of e3⟩, fun D hD => go_tup (K := K) (a := kt) (xs := kas.map V.ref) (fun i G => Same H G ∧ ∃ as : List Addr, G D = some (.lst (as.map V.ref)) ∧ PlAt G as ((ks.take i).flatMap plK) ∧ as.length ≤ 12 * i) ?_ ?_ ?_ ?_⟩
    · exact ⟨same_upd hD, [], upd_same, .nil, Nat.le_refl _⟩
    · rintro i G _ ⟨S, _⟩
      exact SqT.of (S _ _ e3)
    · rintro i x G hx ⟨S, as, gD, pa, la⟩
      rw [List.getElem?_map] at hx
      obtain ⟨ka, ha, rfl⟩ := Option.map_eq_some_iff.mp hx
      obtain ⟨kd, hkd, gt, gas, f1, f2, f3⟩ := paired_at pk ha
      have mk : kd ∈ ks := List.mem_of_getElem? hkd
      have hi : i < kas.length := (List.getElem?_eq_some_iff.mp ha).1
      have hgl := paired_len f3
      obtain ⟨_, _, _, _, hg4⟩ := hO.num kd mk
      refine ⟨rfl, ?_⟩
      unfold tYes
      dsimp only
      refine iteT ⟨_, rfl, ka, _, 3, .ref gt, rfl, rfl, SqT.of (S _ _ f1), rfl, gt, gas.map V.ref, rfl, SqT.of (S _ _ f2), go_enumT (K := K) (a := gt) (xs := gas.map V.ref) (fun g J => Same H J ∧ ∃ bs : List Addr, J D = some (.lst (bs.map V.ref)) ∧ PlAt J bs ((ks.take i).flatMap plK ++ (List.range g).flatMap (plG kd)) ∧ bs.length ≤ 12 * i + 3 * g) ?_ ?_ ?_ ?_⟩
      · exact ⟨S, as, gD, by simpa using pa, by omega⟩
      · rintro g J _ ⟨S2, _⟩
        exact SqT.of (S2 _ _ f2)
      · rintro g x T J hx ⟨S2, bs, jD, pb, lb⟩ nT
        rw [List.getElem?_map] at hx
        obtain ⟨ga, hga, rfl⟩ := Option.map_eq_some_iff.mp hx
        have hg := (List.getElem?_eq_some_iff.mp hga).1
        obtain ⟨gr, hgr, ns, h1, h2⟩ := paired_at f3 hga
        have hnl := paired_len h2
        obtain ⟨_, h3, _⟩ := hO.grd kd mk gr (List.mem_of_getElem? hgr)
        have egr : kd.gs.getD g [] = gr := by simp [hgr]
        refine ⟨T, _, rfl, SqT.of upd_same, rfl, _, _, rfl, _, _, rfl, rfl, rfl, ?_⟩
        have sT := same_upd (o := .tup [.int (g : Nat), .ref ga]) nT
        have S3 := KaG.Same.tr S2 sT
        have jD3 := sT _ _ jD
        have pb3 := pb.ts (TSame.of sT)
        generalize upd J T (.tup [.int (g : Nat), .ref ga]) = J3 at S3 jD3 pb3 ⊢
        dsimp only
        refine iteT ⟨_, rfl, ga, ns.map V.ref, rfl, .inr (SqT.of (S3 _ _ h1)), _, rfl, by omega, by rw [List.length_map]; omega, go_range (fun m G => Same H G ∧ ∃ qs : List Addr, qs.length = m ∧ G D = some (.lst ((bs ++ qs).map V.ref)) ∧ PlAt G (bs ++ qs) (((ks.take i).flatMap plK ++ (List.range g).flatMap (plG kd)) ++ (List.range m).map fun n => (kd.name, g, n))) ?_ ?_ ?_⟩
        · exact ⟨S3, [], rfl, by simpa using jD3, by simpa using pb3⟩
        · rintro m G hm ⟨S4, qs, ql, gD4, pq⟩
          rw [Int.toNat_natCast, List.length_map] at hm
          refine ⟨rfl, ?_⟩
          dsimp only
          refine iteT ⟨_, rfl, ka, _, 0, .str kd.name, rfl, rfl, SqT.of (S4 _ _ f1), rfl, _, rfl, _, rfl, sz (by show 3 ≤ 900; decide), fun q nq => ?_⟩
          have s1 := same_upd (o := .tup [.str kd.name, .int (g : Nat), .int (0 + (m : Int))]) nq
          refine ⟨_, s1 _ _ gD4, small1000 (by rw [List.length_map, List.length_append]; omega), fun b u e => by rw [upd_ne (ne_of_none e hD)]; exact s1 _ _ (S4 b u e), qs ++ [q], by rw [List.length_append, ql]; rfl, by rw [upd_same, List.map_append, List.map_append, List.map_append, List.append_assoc]; rfl, ?_⟩
          have er : (List.range (m + 1)).map (fun n => (kd.name, g, n)) = (List.range m).map (fun n => (kd.name, g, n)) ++ [(kd.name, g, m)] := by rw [List.range_succ, List.map_append]; rfl
          rw [er, ← List.append_assoc bs qs [q], ← List.append_assoc _ ((List.range m).map _)]
          have tsl := ts_lst (ys := (bs ++ qs).map V.ref ++ [V.ref q]) (s1 _ _ gD4)
          refine paired_snoc ?_ ((pq.ts (TSame.of s1)).ts tsl)
          refine (tsl q _ upd_same).trans ?_
          rw [Int.zero_add]
        · rintro G ⟨S4, qs, ql, gD4, pq⟩
          rw [Int.toNat_natCast, List.length_map] at ql pq
          refine ⟨S4, bs ++ qs, gD4, ?_, by rw [List.length_append]; omega⟩
          rw [range_snoc, ← List.append_assoc]
          have e : plG kd g = (List.range ns.length).map fun n => (kd.name, g, n) := by
            unfold plG
            rw [egr, hnl]
          rw [e]
          exact pq
      · rintro J ⟨S2, bs, jD, pb, lb⟩
        rw [List.length_map, hgl] at pb
        rw [List.length_map] at lb
        refine ⟨S2, bs, jD, ?_, by omega⟩
        have e : (ks.take (i + 1)).flatMap plK = (ks.take i).flatMap plK ++ (List.range kd.gs.length).flatMap (plG kd) := by
          rw [List.take_add_one, hkd, List.flatMap_append]
          simp [plK]
        rw [e]
        exact pb
    · rintro G ⟨S, as, gD, pa, la⟩
      rw [List.length_map, hlen, List.take_length] at pa
      rw [List.length_map] at la
      exact k D as G S hD gD pa (by omega)
end
end KaG


set_option maxRecDepth 100000
set_option maxHeartbeats 4000000
namespace KaG
open PySem PySem.Spec PyProof.Rows L2
section
variable {X : Cx} {CW : Addr} {NW : Str} {i : Nat} {bg : Addr} {d n : Nat} {e : Expr} {es : List Expr} {pos : Pos}
theorem pe_negC {j : Int} {jp ip p : _} : PE X (.UnaryOp .USub (.Constant (.int j) jp ip) p) (tC (.int (-j))) := pe_imp (pe_un un_neg pe_int) fun σ H Q q => ⟨_, rfl, q⟩
theorem pe_powC {a b : Int} {jp ip kp lp p : _} (hb : 0 ≤ b ∧ b ≤ 1000000 ∧ a.natAbs < 2 ^ 64) : PE X (.BinOp (.Constant (.int a) jp ip) .Pow (.Constant (.int b) kp lp) p) (tC (.int (a ^ b.toNat))) := pe_imp (pe_op op_pow pe_int pe_int) fun σ H Q q => ⟨_, _, rfl, rfl, hb, q⟩
theorem pe_gtupL {x1} (h : PA X es (tGs CW NW i bg d n es.length)) {d' n' : Nat} (hz : es.length ≤ 1000 := by decide) (hd : d + 1 ≤ d' := by decide) (hn : es.length * (n + 2) + 3 ≤ n' := by decide) : PE X (.Tuple es x1 pos) (tG CW NW i bg d' n') := pe_gw (pe_gtup h hz) hd hn
theorem pe_glstL (h : PA X es (tGs CW NW i bg d n es.length)) {d' n' : Nat} (hz : es.length ≤ 1000 := by decide) (hd : d + 1 ≤ d' := by decide) (hn : es.length * (n + 2) + 2 ≤ n' := by decide) : PE X (.List es pos) (tG CW NW i bg d' n') := pe_gw (pe_glst h hz) hd hn
end
section
variable {P : Program} {w : World} {K : PySem.W.Frag} {mg : Str → Option Value} {base : Heap} {CW : Addr} {NW : Str}
theorem scOdd : FnScope ["bag", "some"] ["bag"] (defScope sOdd) := ⟨rfl, rfl, rfl, by decide +kernel, rfl, by decide +kernel, by decide +kernel⟩
def oddList (j : Nat) : List Expr := match (defBody sOdd)[j]? with
  | some (.Assign _ (.List es _) _) => es
  | some (.Assign _ (.BinOp _ _ (.List es _) _) _) => es
  | _ => []
theorem odd0 {X : Cx} {bg : Addr} : PA X (oddList 0) (tGs CW NW 0 bg 3 200 19) := by
  show PA X [_, _, _, _, _, _, _, _, _, _, _, _, _, _, _, _, _, _, _] _
  repeat' first
    | exact pa_g0
    | refine pa_g1 ?_ ?_
    | exact pe_gleaf pe_non (fun _ => .non) (by decide +kernel)
    | exact pe_gleaf pe_bl (fun _ => .bl _) (by decide +kernel)
    | exact pe_gleaf pe_int (fun _ => .int _ (by decide +kernel)) (by decide +kernel)
    | exact pe_gleaf pe_str (fun _ => .str _) (by decide +kernel)
    | exact pe_gleaf pe_negC (fun _ => .int _ (by decide +kernel)) (by decide +kernel)
    | exact pe_gleaf (pe_powC (by decide)) (fun _ => .int _ (by decide +kernel)) (by decide +kernel)
theorem odd1 {X : Cx} {bg : Addr} : PA X (oddList 1) (tGs CW NW 0 bg 3 200 12) := by
  show PA X [_, _, _, _, _, _, _, _, _, _, _, _] _
  repeat' first
    | exact pa_g0
    | refine pa_g1 ?_ ?_
    | exact pe_gleaf pe_non (fun _ => .non) (by decide +kernel)
    | exact pe_gleaf pe_bl (fun _ => .bl _) (by decide +kernel)
    | exact pe_gleaf pe_int (fun _ => .int _ (by decide +kernel)) (by decide +kernel)
    | exact pe_gleaf pe_str (fun _ => .str _) (by decide +kernel)
    | exact pe_gleaf pe_negC (fun _ => .int _ (by decide +kernel)) (by decide +kernel)
    | exact pe_gw pe_gd0
    | refine pe_gw (pe_gd1 (d := 1) (n := 30) ?_ (by decide +kernel))
    | refine pe_gtupL (d := 1) (n := 30) (d' := 3) (n' := 200) ?_
    | refine pe_glstL (d := 1) (n := 30) (d' := 3) (n' := 200) ?_
    | refine pe_gtupL (d := 0) (n := 20) (d' := 1) (n' := 30) ?_
    | refine pe_glstL (d := 0) (n := 20) (d' := 1) (n' := 30) ?_
theorem odd2 {X : Cx} {bg : Addr} : PA X (oddList 2) (tGs CW NW 0 bg 3 200 5) := by
  show PA X [_, _, _, _, _] _
  repeat' first
    | exact pa_g0
    | refine pa_g1 ?_ ?_
    | exact pe_gleaf pe_non (fun _ => .non) (by decide +kernel)
    | exact pe_gleaf pe_bl (fun _ => .bl _) (by decide +kernel)
    | exact pe_gleaf pe_int (fun _ => .int _ (by decide +kernel)) (by decide +kernel)
    | exact pe_gleaf pe_str (fun _ => .str _) (by decide +kernel)
    | exact pe_gleaf pe_negC (fun _ => .int _ (by decide +kernel)) (by decide +kernel)
    | exact pe_gw pe_gd0
    | refine pe_gw (pe_gd1 (d := 1) (n := 30) ?_ (by decide +kernel))
    | refine pe_gtupL (d := 1) (n := 30) (d' := 3) (n' := 200) ?_
    | refine pe_glstL (d := 1) (n := 30) (d' := 3) (n' := 200) ?_
    | refine pe_gtupL (d := 0) (n := 20) (d' := 1) (n' := 30) ?_
    | refine pe_glstL (d := 0) (n := 20) (d' := 1) (n' := 30) ?_
theorem odd3 {X : Cx} {bg : Addr} : PA X (oddList 3) (tGs CW NW 0 bg 3 200 4) := by
  show PA X [_, _, _, _] _
  repeat' first
    | exact pa_g0
    | refine pa_g1 ?_ ?_
    | exact pe_gleaf pe_non (fun _ => .non) (by decide +kernel)
    | exact pe_gleaf pe_bl (fun _ => .bl _) (by decide +kernel)
    | exact pe_gleaf pe_int (fun _ => .int _ (by decide +kernel)) (by decide +kernel)
    | exact pe_gleaf pe_str (fun _ => .str _) (by decide +kernel)
    | exact pe_gleaf pe_negC (fun _ => .int _ (by decide +kernel)) (by decide +kernel)
    | exact pe_gw pe_gd0
    | refine pe_gw (pe_gd1 (d := 1) (n := 30) ?_ (by decide +kernel))
    | refine pe_gtupL (d := 1) (n := 30) (d' := 3) (n' := 200) ?_
    | refine pe_glstL (d := 1) (n := 30) (d' := 3) (n' := 200) ?_
    | refine pe_gtupL (d := 0) (n := 20) (d' := 1) (n' := 30) ?_
    | refine pe_glstL (d := 0) (n := 20) (d' := 1) (n' := 30) ?_
theorem odd4 {X : Cx} {bg : Addr} : PA X (oddList 4) (tGs CW NW 0 bg 3 200 2) := by
  show PA X [_, _] _
  repeat' first
    | exact pa_g0
    | refine pa_g1 ?_ ?_
    | exact pe_gleaf pe_non (fun _ => .non) (by decide +kernel)
    | exact pe_gleaf pe_bl (fun _ => .bl _) (by decide +kernel)
    | exact pe_gleaf pe_int (fun _ => .int _ (by decide +kernel)) (by decide +kernel)
    | exact pe_gleaf pe_str (fun _ => .str _) (by decide +kernel)
    | exact pe_gleaf pe_negC (fun _ => .int _ (by decide +kernel)) (by decide +kernel)
    | exact pe_gw pe_gd0
    | refine pe_gw (pe_gd1 (d := 1) (n := 30) ?_ (by decide +kernel))
    | refine pe_gtupL (d := 1) (n := 30) (d' := 3) (n' := 200) ?_
    | refine pe_glstL (d := 1) (n := 30) (d' := 3) (n' := 200) ?_
    | refine pe_gtupL (d := 0) (n := 20) (d' := 1) (n' := 30) ?_
    | refine pe_glstL (d := 0) (n := 20) (d' := 1) (n' := 30) ?_
end
end KaG


set_option maxRecDepth 100000
set_option maxHeartbeats 4000000
namespace KaG
open PySem PySem.Spec PyProof.Rows L2
section
variable {P : Program} {w : World} {K : PySem.W.Frag} {mg : Str → Option Value} {base : Heap} {CW : Addr} {NW : Str}
def spOdd (CW : Addr) (NW : Str) : Sp := fun vs H Q _ => ∃ bg : Addr, vs = [.ref bg] ∧ Bag H bg ∧ ∀ (v : V) (H' : Hp) (as : List Addr) (t : Str), Ext bg H H' → Sh H' CW NW as 3 v t → t.length ≤ 200 → Nw H H' as → Q v H'
/-- a list of m good values at l -/
structure OL (CW : Addr) (NW : Str) (bg : Addr) (H0 H : Hp) (l : Addr) (m : Nat) : Prop where
  ext : Ext bg H0 H
  new : H0 l = none
  it : ∃ xs as ts, H l = some (.lst xs) ∧ ShA H CW NW as 3 xs ts ∧ (∀ t ∈ ts, t.length ≤ 200) ∧ Nw H0 H as ∧ xs.length = m
theorem OL.start {bg : Addr} {H0 H1 : Hp} {l : Addr} {xs : List V} {as : List Addr} {ts : List Str} (E : Ext bg H0 H1) (s : ShA H1 CW NW as 3 xs ts) (ht : ∀ t ∈ ts, t.length ≤ 200) (n : Nw H0 H1 as) (hl : H1 l = none) : OL CW NW bg H0 (upd H1 l (.lst xs)) l xs.length :=
  ⟨E.new hl, newAt E hl, xs, as, ts, upd_same, s.same (same_upd hl) fun b z => (n b z).2, ht, n.ext (Ext.of_same E.bag (same_upd hl)), rfl⟩
theorem OL.more {bg : Addr} {H0 H H1 : Hp} {l l2 : Addr} {m : Nat} {zs : List V} {bs : List Addr} {us : List Str} (hb : Bag H0 bg) (O : OL CW NW bg H0 H l m) (E : Ext bg H H1) (s : ShA H1 CW NW bs 3 zs us) (hu : ∀ t ∈ us, t.length ≤ 200) (n : Nw H H1 bs)
    (h2 : H1 l2 = none) : ∃ xs, upd H1 l2 (.lst zs) l = some (.lst xs) ∧ xs.length = m ∧ ∀ l3, upd H1 l2 (.lst zs) l3 = none → OL CW NW bg H0 (upd (upd H1 l2 (.lst zs)) l3 (.lst (xs ++ zs))) l3 (m + zs.length) := by
  obtain ⟨E0, l0, xs, as, ts, e1, sA, ht, nA, hm⟩ := O
  have lb : l ≠ bg := fun z => hb.there (z ▸ l0)
  have Ea : Ext bg H (upd H1 l2 (.lst zs)) := E.new h2
  refine ⟨xs, Ea.keep l _ lb e1, hm, fun l3 h3 => ?_⟩
  have Eb : Ext bg H (upd (upd H1 l2 (.lst zs)) l3 (.lst (xs ++ zs))) := Ea.new h3
  have Ec : Ext bg H1 (upd (upd H1 l2 (.lst zs)) l3 (.lst (xs ++ zs))) := ((Ext.of_same E.bag Same.refl').new h2).new h3
  refine ⟨E0.trans Eb, newAt (E0.trans Ea) h3, xs ++ zs, as ++ bs, ts ++ us, upd_same, ?_, ?_, ?_, by rw [List.length_append, hm]⟩
  · have a1 := (sA.ext (nA.out hb.there) Eb fun b z => (nA b z).2).wide (bs := as ++ bs) (fun _ z => List.mem_append_left _ z) (Nat.le_refl _)
    have a2 := (s.ext (n.out E0.bag.there) Ec fun b z => (n b z).2).wide (bs := as ++ bs) (fun _ z => List.mem_append_right _ z) (Nat.le_refl _)
    exact a1.app a2
  · intro t h
    rcases List.mem_append.mp h with q | q
    · exact ht t q
    · exact hu t q
  · intro b h
    rcases List.mem_append.mp h with q | q
    · exact nA.ext Eb b q
    · exact (n.ext Ec).before E0 b q
theorem ok_odd {f fS : Addr} {fd fdS : FuncData} (F : Fun K "_law_odd" "_law_odd" sOdd f fd) (C : Ct P w K mg base "_law_some" 2 ["bag", "things"] spSome fS fdS) : FnOk P w K mg base CX0 3 f fd ["bag"] (spOdd CW NW) := by
  refine F.ok scOdd (fun vs H Q E h => ?_) (fun cdv A outer s H vs Q E hr h => ?_)
  · obtain ⟨bg, rfl, _⟩ := h
    rfl
  · obtain ⟨bg, rfl, hB, k⟩ := h
    refine ⟨_, pss_cons (ps_set (i := 1) scOdd.nd rfl (Or.inl rfl) (pe_lst (odd0 (CW := CW) (NW := NW) (bg := bg))))
      (pss_cons (ps_set (i := 1) scOdd.nd rfl (Or.inl rfl) (pe_op op_cat (pv 1) (pe_lst (odd1 (CW := CW) (NW := NW) (bg := bg)))))
      (pss_cons (ps_set (i := 1) scOdd.nd rfl (Or.inl rfl) (pe_op op_cat (pv 1) (pe_lst (odd2 (CW := CW) (NW := NW) (bg := bg)))))
      (pss_cons (ps_set (i := 1) scOdd.nd rfl (Or.inl rfl) (pe_op op_cat (pv 1) (pe_lst (odd3 (CW := CW) (NW := NW) (bg := bg)))))
      (pss_cons (ps_set (i := 1) scOdd.nd rfl (Or.inl rfl) (pe_op op_cat (pv 1) (pe_lst (odd4 (CW := CW) (NW := NW) (bg := bg)))))
      (pss_one (ps_ret (pe_call C.G hr (by rfl) C.m C.kp C.b .nil pass0 (pa_cons (pv 0) (pa_cons (pv 1) pa_nil))))))))), ?_⟩
    have rest : ∀ (H1 : Hp) (l : Addr), OL CW NW bg H H1 l 42 → tCall spSome [] E0 (tCons (tVar 0) (tCons (tVar 1) tNil)) [some (.ref bg), some (.ref l)] H1 Q := by
      intro H1 l O
      obtain ⟨E0, l0, xs, as, ts, e1, sA, ht, nA, hm⟩ := O
      refine ⟨_, rfl, _, rfl, bg, l, xs, rfl, E0.bag, fun z => hB.there (z ▸ l0), e1, by omega, by omega, fun j v H2 ej E2 => ?_⟩
      obtain ⟨t, mt, st⟩ := sA.get ej
      exact k v H2 as t (E0.trans E2) (st.ext (nA.out hB.there) E2 fun b z => (nA b z).2) (ht t mt) (nA.ext E2)
    have sz : ∀ {m : Nat}, m ≤ 100 → m ≤ sizeLine := fun h => Nat.le_of_lt (small1000 (by omega))
    refine ⟨⟨hB, rfl⟩, fun vs H1 as ts E1 s1 l1 m1 n1 => ⟨sz (by omega), fun p1 hp1 => ?_⟩⟩
    have O1 := OL.start E1 s1 l1 n1 hp1
    rw [m1] at O1
    generalize upd H1 p1 (.lst vs) = G1 at O1 ⊢
    refine ⟨_, rfl, ⟨O1.ext.bag, rfl⟩, fun zs H2 bs us E2 s2 l2 m2 n2 => ⟨sz (by omega), fun q2 hq2 => ?_⟩⟩
    obtain ⟨ys, f1, f2, f3⟩ := O1.more hB E2 s2 l2 n2 hq2
    refine ⟨_, _, ys, zs, rfl, rfl, f1, upd_same, sz (by omega), fun q3 hq3 => ?_⟩
    have O2 := f3 q3 hq3
    rw [m2] at O2
    clear f1 f2 f3 s2 l2 n2 E2
    generalize upd (upd H2 q2 (.lst zs)) q3 (.lst (ys ++ zs)) = G2 at O2 ⊢
    clear hq2 hq3 m2
    refine ⟨_, rfl, ⟨O2.ext.bag, rfl⟩, fun zs H2 bs us E2 s2 l2 m2 n2 => ⟨sz (by omega), fun q2 hq2 => ?_⟩⟩
    obtain ⟨ys, f1, f2, f3⟩ := O2.more hB E2 s2 l2 n2 hq2
    refine ⟨_, _, ys, zs, rfl, rfl, f1, upd_same, sz (by omega), fun q3 hq3 => ?_⟩
    have O3 := f3 q3 hq3
    rw [m2] at O3
    clear f1 f2 f3 s2 l2 n2 E2
    generalize upd (upd H2 q2 (.lst zs)) q3 (.lst (ys ++ zs)) = G3 at O3 ⊢
    clear hq2 hq3 m2
    refine ⟨_, rfl, ⟨O3.ext.bag, rfl⟩, fun zs H2 bs us E2 s2 l2 m2 n2 => ⟨sz (by omega), fun q2 hq2 => ?_⟩⟩
    obtain ⟨ys, f1, f2, f3⟩ := O3.more hB E2 s2 l2 n2 hq2
    refine ⟨_, _, ys, zs, rfl, rfl, f1, upd_same, sz (by omega), fun q3 hq3 => ?_⟩
    have O4 := f3 q3 hq3
    rw [m2] at O4
    clear f1 f2 f3 s2 l2 n2 E2
    generalize upd (upd H2 q2 (.lst zs)) q3 (.lst (ys ++ zs)) = G4 at O4 ⊢
    clear hq2 hq3 m2
    refine ⟨_, rfl, ⟨O4.ext.bag, rfl⟩, fun zs H2 bs us E2 s2 l2 m2 n2 => ⟨sz (by omega), fun q2 hq2 => ?_⟩⟩
    obtain ⟨ys, f1, f2, f3⟩ := O4.more hB E2 s2 l2 n2 hq2
    refine ⟨_, _, ys, zs, rfl, rfl, f1, upd_same, sz (by omega), fun q3 hq3 => ?_⟩
    have O5 := f3 q3 hq3
    rw [m2] at O5
    clear f1 f2 f3 s2 l2 n2 E2
    generalize upd (upd H2 q2 (.lst zs)) q3 (.lst (ys ++ zs)) = G5 at O5 ⊢
    clear hq2 hq3 m2
    exact rest _ _ O5
end
end KaG


set_option maxRecDepth 100000
set_option maxHeartbeats 2000000
namespace KaG
open PySem PySem.Spec PyProof.Rows L2
/-! ### data in the heap: told once, for == and for repr -/
mutual
def txt : PyData → Str
  | .none => "None"
  | .bool b => if b then "True" else "False"
  | .int i => (toString i : String)
  | .str x => reprText x
  | .list xs => listText (txtA xs)
  | .tuple xs => tupleText (txtA xs)
  | .dict _ => ""
def txtA : List PyData → List Str
  | [] => []
  | x :: r => txt x :: txtA r
end
mutual
def dsz : PyData → Nat
  | .none => 1
  | .bool _ => 1
  | .int _ => 1
  | .str _ => 1
  | .list xs => 1 + dszA xs
  | .tuple xs => 1 + dszA xs
  | .dict _ => 1
def dszA : List PyData → Nat
  | [] => 0
  | x :: r => dsz x + dszA r
end
mutual
inductive Rep (H : Hp) : V → PyData → Prop
  | non : Rep H .non .none
  | bl (b : Bool) : Rep H (.bl b) (.bool b)
  | int (i : Int) (h : i.natAbs.log2 < 1920) : Rep H (.int i) (.int i)
  | str (x : Str) : Rep H (.str x) (.str x)
  | lst {a : Addr} {xs : List V} {ds : List PyData} (e : H a = some (.lst xs)) (r : RepA H xs ds) : Rep H (.ref a) (.list ds)
  | tup {a : Addr} {xs : List V} {ds : List PyData} (e : H a = some (.tup xs)) (r : RepA H xs ds) : Rep H (.ref a) (.tuple ds)
inductive RepA (H : Hp) : List V → List PyData → Prop
  | nil : RepA H [] []
  | cons {v : V} {vs : List V} {d : PyData} {ds : List PyData} (h : Rep H v d) (r : RepA H vs ds) : RepA H (v :: vs) (d :: ds)
end
section
variable {H H' : Hp} {CW : Addr} {NW : Str} {K : PySem.W.Frag}
mutual
theorem Rep.det : ∀ {v : V} {d d' : PyData}, Rep H v d → Rep H v d' → d = d'
  | _, _, _, .non, .non => rfl
  | _, _, _, .bl b, .bl _ => rfl
  | _, _, _, .int i _, .int _ _ => rfl
  | _, _, _, .str x, .str _ => rfl
  | _, _, _, .lst e r, .lst e' r' => by
    rw [e] at e'
    cases e'
    rw [RepA.det r r']
  | _, _, _, .lst e r, .tup e' r' => by
    rw [e] at e'
    cases e'
  | _, _, _, .tup e r, .lst e' r' => by
    rw [e] at e'
    cases e'
  | _, _, _, .tup e r, .tup e' r' => by
    rw [e] at e'
    cases e'
    rw [RepA.det r r']
theorem RepA.det : ∀ {vs : List V} {ds ds' : List PyData}, RepA H vs ds → RepA H vs ds' → ds = ds'
  | _, _, _, .nil, .nil => rfl
  | _, _, _, .cons h r, .cons h' r' => by rw [Rep.det h h', RepA.det r r']
end
mutual
theorem Rep.dp : ∀ {v : V} {d : PyData}, Rep H v d → Dp K H v d
  | _, _, .non => .non
  | _, _, .bl b => .bl b
  | _, _, .int i _ => .int i
  | _, _, .str x => .str x
  | _, _, .lst e r => .lst (SqL.of e) (RepA.dp r)
  | _, _, .tup e r => .tup (SqT.of e) (RepA.dp r)
theorem RepA.dp : ∀ {vs : List V} {ds : List PyData}, RepA H vs ds → DpAll K H vs ds
  | _, _, .nil => .nil
  | _, _, .cons h r => .cons (Rep.dp h) (RepA.dp r)
end
mutual
theorem Rep.sm (s : Same H H') : ∀ {v : V} {d : PyData}, Rep H v d → Rep H' v d
  | _, _, .non => .non
  | _, _, .bl b => .bl b
  | _, _, .int i h => .int i h
  | _, _, .str x => .str x
  | _, _, .lst e r => .lst (s _ _ e) (RepA.sm s r)
  | _, _, .tup e r => .tup (s _ _ e) (RepA.sm s r)
theorem RepA.sm (s : Same H H') : ∀ {vs : List V} {ds : List PyData}, RepA H vs ds → RepA H' vs ds
  | _, _, .nil => .nil
  | _, _, .cons h r => .cons (Rep.sm s h) (RepA.sm s r)
end
mutual
theorem Rep.sh : ∀ {v : V} {d : PyData}, Rep H v d → ∃ as, Sh H CW NW as d.depth v (txt d) ∧ ∀ b ∈ as, ∃ d', Rep H (.ref b) d' ∧ dsz d' ≤ dsz d
  | _, _, .non => ⟨[], by rw [txt]; exact .non, fun _ z => nomatch z⟩
  | _, _, .bl b => ⟨[], by rw [txt]; exact .bl b, fun _ z => nomatch z⟩
  | _, _, .int i h => ⟨[], by rw [txt]; exact .int i h, fun _ z => nomatch z⟩
  | _, _, .str x => ⟨[], by rw [txt]; exact .str x, fun _ z => nomatch z⟩
  | _, _, .lst (a := a) (ds := ds) e r => by
    obtain ⟨as, h1, h2⟩ := RepA.sh r
    have na : a ∉ as := fun m => by
      obtain ⟨d', q1, q2⟩ := h2 a m
      have := Rep.det (.lst e r) q1
      rw [← this, dsz] at q2
      omega
    refine ⟨a :: as, ?_, fun b m => ?_⟩
    · rw [txt, PyData.depth]
      exact .lst e (List.mem_cons_self ..) (fun b z => List.mem_cons_of_mem _ z) na h1
    · rcases List.mem_cons.mp m with z | z
      · rw [z]; exact ⟨_, .lst e r, Nat.le_refl _⟩
      · obtain ⟨d', q1, q2⟩ := h2 b z
        exact ⟨d', q1, by rw [dsz]; omega⟩
  | _, _, .tup (a := a) (ds := ds) e r => by
    obtain ⟨as, h1, h2⟩ := RepA.sh r
    have na : a ∉ as := fun m => by
      obtain ⟨d', q1, q2⟩ := h2 a m
      have := Rep.det (.tup e r) q1
      rw [← this, dsz] at q2
      omega
    refine ⟨a :: as, ?_, fun b m => ?_⟩
    · rw [txt, PyData.depth]
      exact .tup e (List.mem_cons_self ..) (fun b z => List.mem_cons_of_mem _ z) na h1
    · rcases List.mem_cons.mp m with z | z
      · rw [z]; exact ⟨_, .tup e r, Nat.le_refl _⟩
      · obtain ⟨d', q1, q2⟩ := h2 b z
        exact ⟨d', q1, by rw [dsz]; omega⟩
theorem RepA.sh : ∀ {vs : List V} {ds : List PyData}, RepA H vs ds → ∃ as, ShA H CW NW as (PyData.depthAll ds) vs (txtA ds) ∧ ∀ b ∈ as, ∃ d', Rep H (.ref b) d' ∧ dsz d' ≤ dszA ds
  | _, _, .nil => ⟨[], by rw [txtA]; exact .nil, fun _ z => nomatch z⟩
  | _, _, .cons (d := d) (ds := ds) h r => by
    obtain ⟨as, h1, h2⟩ := Rep.sh h
    obtain ⟨bs, h3, h4⟩ := RepA.sh r
    refine ⟨as ++ bs, ?_, fun b m => ?_⟩
    · rw [txtA, PyData.depthAll]
      exact .cons (h1.wide (fun _ z => List.mem_append_left _ z) (Nat.le_max_left ..)) (h3.wide (fun _ z => List.mem_append_right _ z) (Nat.le_max_right ..))
    · rw [dszA]
      rcases List.mem_append.mp m with z | z
      · obtain ⟨d', q1, q2⟩ := h2 b z
        exact ⟨d', q1, by omega⟩
      · obtain ⟨d', q1, q2⟩ := h4 b z
        exact ⟨d', q1, by omega⟩
end
/-- alike: the same data, whether in one place or in two -/
def spAlikeD (K : PySem.W.Frag) : Sp := fun vs H Q _ => ∃ (x y : V) (d : PyData), vs = [x, y] ∧ Rep H x d ∧ Rep H y d ∧ d.canLay0 = true ∧ d.depth ≤ 20 ∧ (txt d).length ≤ sizeLine ∧ Q (.bl true) H
end
end KaG


set_option maxRecDepth 100000
set_option maxHeartbeats 2000000
namespace KaX
open PySem PySem.Builtin PySem.Builtin.BaseException
open PySem.W (Looks Frag findIn subIn looks_findIn looks_subIn clsIn)
section
variable {prog : Program} {w : World} {A : Around} {E : Value → Shared → Prop} {s : Shared} {K : Frag} {C e t0 : Addr}
theorem rc_self (x : ExcC K C e t0 s.heap) (hE : findIn K (.ref C) "__eq__" = some (some (.builtin "object.__eq__"))) (hO : subIn K (.ref C) (.type "object") = some true) (hu : A.units < cLine) {Q : Value → Shared → Prop} (q : Q (.bool true) s) :
    wpAny (model prog w) A (richCompare .Eq (.ref e) (.ref e)) Q E s := by
  have hf : Looks (model prog w) s.heap (typeLookup (.ref C) "__eq__") (some (.builtin "object.__eq__")) := looks_findIn x.1 hE
  have LI : Looks (model prog w) s.heap (isInstance (.ref e) (.type "object")) true := x.LT.andThen (looks_subIn x.1 hO)
  have call_ : wpAny (model prog w) A (call (.builtin "object.__eq__") [.ref e, .ref e]) (fun v s' => v = .bool true ∧ s' = s) E s := by
    refine wpAny_call (codeAny_call_builtin F.cmp_object.eq.plain F.cmpEntry_eq ?_)
    refine PySem.W.check_slot (i := "object.__eq__") (owner := "object") (n := "__eq__") F.cmpKind_eq F.cmpSplit_eq LI (F.cmpArgs_eq _ _) ?_
    exact objEq_entry_same ⟨rfl, rfl⟩
  unfold richCompare
  refine wpAny_holding (wpAny_bind (wpAny_cRoomFor hu ?_))
  have h1 : oneThing? .Eq (.ref e) (.ref e) = none := rfl
  simp only [h1, cmpInfo]
  refine wpAny_bind (x.LT.here (wpAny_bind (x.LT.here ?_)))
  simp only [bne_self_eq_false, Bool.false_eq_true, if_false]
  refine wpAny_bind (wpAny_pure ?_)
  simp only [Bool.false_eq_true, if_false]
  refine wpAny_bind ?_
  unfold tryCompare
  refine wpAny_bind ?_
  simp only [callSpecialIfBound?, bindSpecialIfBound?]
  refine wpAny_holding (wpAny_bind (wpAny_bind ?_))
  unfold specialOf
  refine wpAny_bind (x.LT.here (hf.here ?_))
  simp only [F.cmp_object.eq.bind]
  refine wpAny_bind (wpAny_askSetting (wpAny_ite ?_))
  split
  · refine wpAny_bind (wpAny_pure (wpAny_pure ?_))
    dsimp only
    refine wpAny_bind (wpAny_mono call_ (fun v s' hv => ?_) fun _ _ z => z)
    obtain ⟨rfl, rfl⟩ := hv
    exact wpAny_pure (wpAny_pure (wpAny_pure q))
  · refine wpAny_tryCatch (wpAny_bind (wpAny_pure (wpAny_pure ?_)))
    dsimp only
    refine wpAny_bind (wpAny_mono call_ (fun v s' hv => ?_) fun _ _ z => z)
    obtain ⟨rfl, rfl⟩ := hv
    exact wpAny_pure (wpAny_pure (wpAny_pure q))
end
end KaX


set_option maxRecDepth 100000
set_option maxHeartbeats 2000000
namespace KaX
open PySem PySem.Builtin PySem.Builtin.BaseException
open PySem.W (Looks Frag findIn subIn looks_findIn looks_subIn clsIn)
section
variable {prog : Program} {w : World} {A : Around} {E : Value → Shared → Prop} {s : Shared} {K : Frag} {C e t0 : Addr}
theorem bexcCall {nm : Str} {cd : ClassData} {N T : Str} {u0 : Value} {d0 : Nat} {as : List Addr} {h₀ : Heap} {g : List Code} (x : ExcC K C e t0 s.heap) (hc : clsIn K C = some cd) (hn : cd.name = nm) (hN : Str.ofString ((nm.toString.cutAt '.').getLastD "") = N)
    (hB : subIn K (.ref C) (.type "BaseException") = some true)
    (ht : s.heap.TupAt t0 [u0]) (hu0 : ReprK prog w as h₀ d0 u0 T) (hg : A.guards = some g) (hcl : ∀ b ∈ as, Clear g b) (hu : A.units + 1 + d0 < cLine) (hk : ∀ b o, h₀.get? b = some o → s.heap.get? b = some o) {Q : Value → Shared → Prop}
    (hq : ∀ u h' tk, (∀ b o, s.heap.get? b = some o → h'.get? b = some o) → Q (.str (N ++ Str.ofString "(" ++ T ++ Str.ofString ")") u) { s with heap := h', toks := tk })
    (hsz : (N ++ Str.ofString "(" ++ T ++ Str.ofString ")").length ≤ sizeLine) :
    wpAny (model prog w) A (call (.builtin "BaseException.__repr__") [.ref e]) Q E s := by
  refine wpAny_call (codeAny_call_builtin F.excStr_Exception.repr.plain F.entry_bexc_repr ?_)
  refine PySem.W.check_slot (i := "BaseException.__repr__") (owner := "BaseException") (n := "__repr__") (by decide +kernel) (by decide +kernel) (x.LI hB) (F.args_bexc_repr _) ?_
  unfold «BaseException.__repr__»
  exact wpAny_mono (bra 0 x hc hn hN ht hu0 (by exact hg) hcl (show A.units + 1 + d0 < cLine by omega) hk (fun u h' tk k => hq u h' tk k) (by rw [Nat.zero_add]; exact hsz)) (fun _ _ z => z) fun _ _ z => z
theorem call_repr_C {nm : Str} {cd : ClassData} {N T : Str} {u0 : Value} {d0 : Nat} {as : List Addr} {h₀ : Heap} {g : List Code} (x : ExcC K C e t0 s.heap) (hc : clsIn K C = some cd) (hn : cd.name = nm) (hN : Str.ofString ((nm.toString.cutAt '.').getLastD "") = N)
    (hB : subIn K (.ref C) (.type "BaseException") = some true) (hR : findIn K (.ref C) "__repr__" = some (some (.builtin "BaseException.__repr__")))
    (ht : s.heap.TupAt t0 [u0]) (hu0 : ReprK prog w as h₀ d0 u0 T) (hg : A.guards = some g) (hcl : ∀ b ∈ as, Clear g b) (hu : A.units + 2 + d0 < cLine) (hk : ∀ b o, h₀.get? b = some o → s.heap.get? b = some o) {Q : Value → Shared → Prop}
    (hq : ∀ u h' tk, (∀ b o, s.heap.get? b = some o → h'.get? b = some o) → Q (.str (N ++ Str.ofString "(" ++ T ++ Str.ofString ")") u) { s with heap := h', toks := tk })
    (hsz : (N ++ Str.ofString "(" ++ T ++ Str.ofString ")").length ≤ sizeLine) :
    wpAny (model prog w) A (call (.builtin "repr") [.ref e]) Q E s := by
  have hf : Looks (model prog w) s.heap (typeLookup (.ref C) "__repr__") (some (.builtin "BaseException.__repr__")) := looks_findIn x.1 hR
  have fin : wpAny (model prog w) A.in1 (call (.builtin "BaseException.__repr__") [.ref e]) (fun v s' => ∃ y u, v = .str y u ∧ Q (.str y u) s') E s :=
    bexcCall x hc hn hN hB ht hu0 (by exact hg) hcl (show A.units + 1 + 1 + d0 < cLine by omega) hk (fun u h' tk k => ⟨_, _, rfl, hq u h' tk k⟩) hsz
  refine Calls.call_function_entry F.kind_repr F.plain_repr F.entry_repr (F.args_repr1 _) ?_
  unfold Builtin.«repr»
  refine wpAny_bind (m := oneArg "repr" _) (wpAny_pure ?_)
  refine wpAny_bind (wpAny_cRoomFor (show A.in1.units < cLine by show A.units + 1 < cLine; omega) ?_)
  refine wpAny_bind ?_
  unfold specialOf
  refine wpAny_bind (x.LT.here (hf.here ?_))
  simp only [Option.isNone_some, Bool.false_eq_true, if_false]
  refine wpAny_bind ?_
  simp only [callSpecialIfBound?, bindSpecialIfBound?]
  refine wpAny_holding (wpAny_bind (wpAny_bind ?_))
  unfold specialOf
  refine wpAny_bind (x.LT.here (hf.here ?_))
  simp only [F.excStr_Exception.repr.bind]
  refine wpAny_bind (wpAny_askSetting (wpAny_ite ?_))
  split
  · refine wpAny_bind (wpAny_pure (wpAny_pure ?_))
    dsimp only [List.append_nil]
    refine wpAny_bind (wpAny_mono fin (fun v s' hv => ?_) fun _ _ z => z)
    obtain ⟨y, u, rfl, hq⟩ := hv
    refine wpAny_pure ?_
    exact wpAny_bind (wpAny_isInstance (T := "str") (b := true) rfl isSubtype_str_str (wpAny_pure ⟨_, rfl, hq⟩))
  · refine wpAny_tryCatch (wpAny_bind (wpAny_pure (wpAny_pure ?_)))
    dsimp only [List.append_nil]
    refine wpAny_bind (wpAny_mono fin (fun v s' hv => ?_) fun _ _ z => z)
    obtain ⟨y, u, rfl, hq⟩ := hv
    refine wpAny_pure ?_
    exact wpAny_bind (wpAny_isInstance (T := "str") (b := true) rfl isSubtype_str_str (wpAny_pure ⟨_, rfl, hq⟩))
end
end KaX


set_option maxRecDepth 100000
set_option maxHeartbeats 2000000
namespace KaG
open PySem PySem.Spec PyProof.Rows L2
section
variable {X : Cx} {CW : Addr} {NW : Str}
def rRepr (CW : Addr) (NW : Str) : List V → Hp → VK → Prop := fun xs H Q => ∃ v as d t, xs = [v] ∧ Sh H CW NW as d v t ∧ d ≤ 20 ∧ t.length ≤ sizeLine ∧ Q (.str t) H
theorem call_reprS (T : WrK X.K CW NW) (hg : X.A.guards = some []) (hu : X.A.units + 60 < cLine) : CallR X (.builtin "repr") (rRepr CW NW) := by
  intro pins s σ H xs us Q I r h
  obtain ⟨v, as, d, t, rfl, hS, hd, hz, q⟩ := h
  obtain ⟨u, rfl, rv⟩ := vals1 r
  have fin : ∀ (x : Tok) (h' : Heap) (tk : Nat), (∀ b o, s.heap.get? b = some o → h'.get? b = some o) → EP X pins σ Q (.str t x) { s with heap := h', toks := tk } := fun x h' tk k => ⟨.str t, H, I.kept k, ⟨_, rfl⟩, q⟩
  have cl : ∀ (as : List Addr), ∀ b ∈ as, Clear [] b := fun _ b _ => Clear.nil b
  cases hS with
  | non => cases (show u = Value.none from rv); exact PySem.P.repr_of_none (fin _ _ _ fun _ _ e => e)
  | bl b => cases (show u = Value.bool b from rv); exact PySem.P.repr_of_bool (fin _ _ _ fun _ _ e => e)
  | int i hi =>
    obtain ⟨tk, e⟩ := (show ∃ t, u = Value.int i t from rv)
    cases e
    exact PySem.P.repr_of_int hi (fin _ _ _ fun _ _ e => e)
  | str x =>
    obtain ⟨tk, e⟩ := (show ∃ t, u = Value.str x t from rv)
    cases e
    exact PySem.P.repr_of_str (fin _ _ _ fun _ _ e => e) hz
  | @lst as0 _ d a xs ts e ha hs hn hi =>
    cases (show u = Value.ref a from rv)
    obtain ⟨_, its, n, rv, ho⟩ := (show ObjOk X.prog X.w H s.heap a (.lst xs) from I.hok a _ e)
    have hA := ShA.run T I.kIn I.hok hi its rv
    refine call_repr_slot (by omega) ⟨_, ho, rfl⟩ F.slot_list_repr.toG ?_
    cases its with
    | nil =>
      cases hA
      rw [listText_nil] at fin
      exact call_list_repr_empty ⟨_, ho, rfl⟩ ho rfl ⟨_, _, rfl, fin _ _ _ fun _ _ e => e⟩
    | cons x l =>
      exact call_list_reprK ho rfl rfl hn (by simpa using hA.length_eq) (fun i y q => hA.item i y (by simpa using q)) (by exact hg) (cl _) (by show X.A.units + 1 + (d + 1) < cLine; omega) (fun _ _ e => e) (fun h' x tk k => ⟨_, _, rfl, fin x h' tk k⟩) hz
  | @tup as0 _ d a xs ts e ha hs hn hi =>
    cases (show u = Value.ref a from rv)
    obtain ⟨_, its, rv, o, ho, hc, n, hd'⟩ := (show ObjOk X.prog X.w H s.heap a (.tup xs) from I.hok a _ e)
    have hA := ShA.run T I.kIn I.hok hi its rv
    refine call_repr_slot (by omega) ⟨o, ho, hc⟩ F.slot_tuple_repr ?_
    exact call_tuple_reprK ho hc hd' hn (by simpa using hA) (by exact hg) (cl _) (by show X.A.units + 1 + (d + 1) < cLine; omega) (fun _ _ e => e) (fun h' x tk k => ⟨_, _, rfl, fin x h' tk k⟩) hz
  | @dct as0 _ d a kvs ps e ha hs hn hi =>
    cases (show u = Value.ref a from rv)
    obtain ⟨_, hsys, vs, kv, o, es, ep, ho, hx, hd', _, hp, _⟩ := (show ObjOk X.prog X.w H s.heap a (.dK kvs) from I.hok a _ e)
    have hE := ShD.run T I.kIn I.hok hi vs kv es.toList hp
    refine call_repr_slot (by omega) ⟨o, ho, hx.1⟩ F.slot_dict_repr ?_
    exact call_dict_reprK ho hx.1 hd' hsys hn hE (by exact hg) (cl _) (by show X.A.units + 1 + (d + 1) < cLine; omega) (fun _ _ e => e) (fun h' x tk k => ⟨_, _, rfl, fin x h' tk k⟩) hz
  | @exc as0 _ d a dd t1 v t e et ha ht hd hs hi =>
    cases (show u = Value.ref a from rv)
    have ho := exw_at I.hok e
    obtain ⟨_, its, rv, o, hto, hc, n, hd'⟩ := (show ObjOk X.prog X.w H s.heap t1 (.tup [v]) from I.hok t1 _ et)
    cases rv with
    | cons r1 r2 =>
      cases r2
      obtain ⟨cd, hcd, hN⟩ := T.cl
      have x : ExcC X.K CW a t1 s.heap := ⟨I.kIn, _, _, ho, rfl, rfl, rfl⟩
      exact KaX.call_repr_C x hcd rfl hN T.ex T.rp ⟨o, n, hto, hc, hd'⟩ (Sh.run T I.kIn I.hok hi _ r1) hg (cl _) (by omega) (fun _ _ e => e) fin hz

/-- alike: two lists of the very same things, or one and the same thing -/
def Alk (CW : Addr) (NW : Str) (K : PySem.W.Frag) (H : Hp) (x y : V) : Prop :=
  (∃ a b xs, x = .ref a ∧ y = .ref b ∧ H a = some (.lst xs) ∧ H b = some (.lst xs) ∧ ∀ v ∈ xs, flatB v = true ∨ ∃ c, v = .ref c) ∨ (x = y ∧ ∃ as d t, Sh H CW NW as d x t)
theorem paired_self {F : V → V → Prop} : ∀ {xs : List V}, (∀ v ∈ xs, F v v) → Paired F xs xs
  | [], _ => .nil
  | v :: r, h => .cons (h v (List.mem_cons_self ..)) (paired_self fun u hu => h u (List.mem_cons_of_mem _ hu))
theorem sh_flat {H : Hp} {as : List Addr} {d : Nat} {v : V} {t : Str} (h : Sh H CW NW as d v t) : flatB v = true ∨ ∃ c, v = .ref c := by
  cases h with
  | non => exact .inl rfl
  | bl b => exact .inl rfl
  | int i hi => exact .inl rfl
  | str x => exact .inl rfl
  | lst => exact .inr ⟨_, rfl⟩
  | tup => exact .inr ⟨_, rfl⟩
  | dct => exact .inr ⟨_, rfl⟩
  | exc => exact .inr ⟨_, rfl⟩
theorem eqv_self {K : PySem.W.Frag} {H : Hp} {v : V} (h : flatB v = true ∨ ∃ c, v = .ref c) : EqV K H 1 v v := by
  rcases h with h | ⟨c, rfl⟩
  · exact .inl ⟨rfl, h⟩
  · exact .inr (.inl ⟨c, rfl, rfl⟩)
theorem shA_flat {H : Hp} : ∀ {as : List Addr} {d : Nat} {vs : List V} {ts : List Str}, ShA H CW NW as d vs ts → ∀ v ∈ vs, flatB v = true ∨ ∃ c, v = .ref c
  | _, _, _, _, .nil, _, h => nomatch h
  | _, _, _, _, .cons h r, v, m => by
    rcases List.mem_cons.mp m with z | z
    · rw [z]; exact sh_flat h
    · exact shA_flat r v z
theorem shD_flat {H : Hp} : ∀ {as : List Addr} {d : Nat} {kvs : List (Key × V)} {ts : List Str}, ShD H CW NW as d kvs ts → ∀ p ∈ kvs, flatB p.2 = true ∨ ∃ c, p.2 = .ref c
  | _, _, _, _, .nil, _, h => nomatch h
  | _, _, _, _, .cons h r, v, m => by
    rcases List.mem_cons.mp m with z | z
    · rw [z]; exact sh_flat h
    · exact shD_flat r v z
theorem kv_keys : ∀ {kvs : List (Key × V)} {vs : List (Key × Value)}, KV kvs vs → kvs.map (·.1) = vs.map (·.1)
  | _, _, .nil => rfl
  | _, _, .cons h r => by rw [List.map_cons, List.map_cons, h.1, kv_keys r]
theorem valV_in : ∀ {kvs : List (Key × V)} {p : Key × V}, (kvs.map (·.1)).Nodup → p ∈ kvs → valV kvs p.1 = some p.2
  | [], _, _, h => nomatch h
  | q :: r, p, nd, m => by
    rw [List.map_cons, List.nodup_cons] at nd
    rcases List.mem_cons.mp m with z | z
    · rw [z]
      exact valV_pos rfl
    · have ne : q.1 ≠ p.1 := fun e => nd.1 (by rw [e]; exact List.mem_map_of_mem z)
      have ih := valV_in nd.2 z
      unfold valV at ih ⊢
      rw [List.find?_cons]
      have ed : decide (q.1 = p.1) = false := decide_eq_false ne
      rw [ed]
      exact ih
theorem op_eqA (T : WrK X.K CW NW) (hu : X.A.units + 64 < cLine) : OpR X (compareOp .Eq) (fun x y H Q => Alk CW NW X.K H x y ∧ Q (.bl true) H) := by
  intro pins s σ H x y v u Q I rx ry h
  obtain ⟨h, q⟩ := h
  rcases h with ⟨a, b, xs, rfl, rfl, ha, hb, hx⟩ | ⟨rfl, as, d, t, hS⟩
  · exact op_eqV hu pins s σ H _ _ v u Q I rx ry ⟨1, by decide, .inl ⟨a, b, xs, xs, rfl, rfl, SqL.of ha, SqL.of hb, paired_self fun v m => eqv_self (hx v m)⟩, q⟩
  · have flat : ∀ (k : V), k = x → scal k k = true → wpAny (model X.prog X.w) X.A (compareOp .Eq v u) (EP X pins σ Q) X.xe s := by
      intro k e hk
      subst e
      exact op_eq pins s σ H _ _ v u Q I rx ry ⟨hk, by rw [decide_eq_true rfl]; exact q⟩
    cases hS with
    | non => exact flat .non rfl rfl
    | bl b => exact flat (.bl b) rfl rfl
    | int i hi => exact flat (.int i) rfl rfl
    | str z => exact flat (.str z) rfl rfl
    | @lst as0 _ d a xs ts e ha hs hn hi => exact op_eqV hu pins s σ H _ _ v u Q I rx ry ⟨1, by decide, .inl ⟨a, a, xs, xs, rfl, rfl, SqL.of e, SqL.of e, paired_self fun v m => eqv_self (shA_flat hi v m)⟩, q⟩
    | @tup as0 _ d a xs ts e ha hs hn hi =>
      cases (show v = Value.ref a from rx)
      cases (show u = Value.ref a from ry)
      obtain ⟨_, its, rv, o, ho, hc, n, hd'⟩ := (show ObjOk X.prog X.w H s.heap a (.tup xs) from I.hok a _ e)
      have it : s.heap.IsTuple a its.toArray := ⟨o, ho, hc, n, hd'⟩
      refine SeqAt.eq_tupleAt (e := fun _ => true) it it (by omega) (fun j h1 h2 => SeqAt.EqAt.same _) ?_
      have er : ((List.range (min its.toArray.size its.toArray.size)).all (fun _ => true) && its.toArray.size == its.toArray.size) = true := by simp
      rw [er]
      exact ⟨.bl true, H, I, rfl, q⟩
    | @dct as0 _ d a kvs ps e ha hs hn hi =>
      have nd : (kvs.map (·.1)).Nodup := by
        obtain ⟨_, _, vs, kv, _, _, _, _, _, _, _, _, hnd⟩ := (show ObjOk X.prog X.w H s.heap a (.dK kvs) from I.hok a _ e)
        rw [kv_keys kv]
        exact hnd
      refine op_eqV hu pins s σ H _ _ v u Q I rx ry ⟨1, by decide, .inr ⟨a, a, kvs, kvs, rfl, rfl, e, e, rfl, fun p m => ⟨p.2, valV_in nd m, eqv_self (shD_flat hi p m)⟩⟩, q⟩
    | @exc as0 _ d a dd t1 z t e et ha ht hd hs hi =>
      cases (show v = Value.ref a from rx)
      cases (show u = Value.ref a from ry)
      have ho := exw_at I.hok e
      have x : ExcC X.K CW a t1 s.heap := ⟨I.kIn, _, _, ho, rfl, rfl, rfl⟩
      exact KaX.rc_self x T.eq T.ob (by omega) ⟨.bl true, H, I, rfl, q⟩
end
end KaG


set_option maxRecDepth 100000
set_option maxHeartbeats 2000000
namespace KaG
open PySem PySem.Spec PyProof.Rows L2
section
variable {c : Bool} {X : Cx} {k : Nat} {f : Addr} {fd : FuncData} {ps : List Str} {sp : Sp} {x : Str} {p pos : Pos} {e : Expr} {es : List Expr} {t : TA}
/-- such a def is called -/
theorem pe_callG (F : FnG c X.prog X.w X.K X.mg X.base CX0 k f fd ps sp) (hr : GR k X.A) (hc : c = true → X.A.handled = none) (hg : Gl X x) (hm : X.mg x = some (.ref f)) (hk : PySem.W.keepIn X.K (.ref f) = true) (hb : Binds X.K fd ps [])
    (ha : PA X (e :: es) t) (hdb : (x == ("__debug__" : Str)) = false := by decide) (he : starEach (e :: es) X.env = (false, eval e X.env) :: starEach es X.env := by rfl)
    (hpl : (backTo pos (starEach es X.env)).any (·.1) = false := by rfl) : PE X (.Call (.Name x p) (e :: es) [] pos) (tCall sp [] E0 t) := by
  refine ⟨fun pins s σ H Q I h => ?_⟩
  refine wpAny_Call_Name_kw (ld_glob I hg hm ?_ hdb)
  refine PySem.W.callWith_K (h₀ := X.base) I.ok.mod.kin hk (thn (ha.run pos pins s σ H _ I h) fun us s1 z => ?_) he hpl
  obtain ⟨vs, H1, I1, r, q⟩ := z
  have q : sp (vs ++ []) H1 Q E0 := q
  rw [List.append_nil] at q
  refine ⟨I1.kIn, ?_⟩
  have hl : us.length = ps.length := r.length.symm.trans (F.len _ _ _ _ q)
  have bd := hb s1 us I1.kIn (by rw [List.append_nil]; exact hl)
  rw [List.append_nil] at bd
  show wpAny _ _ (call (.ref f) us) _ _ _
  refine wpAny_call (codeAny_mono (F.run X.A X.stack s1 H1 ⟨us, []⟩ us vs Q E0 hr hc I1.env0 bd r q) fun r' s' hq => ?_)
  rcases r' with er | fl
  · exact hq.elim
  · cases fl with
    | ret u => exact I1.after hq
    | next => exact hq.elim
    | brk => exact hq.elim
    | cont => exact hq.elim
end

/-- the law's own call -/
theorem law_G {P : Program} {w : World} {K : PySem.W.Frag} {mg mb : Str → Option Value} {k : Nat} {fa a : Addr} {fd : FuncData} {x : Str} {sp : Sp} {s₁ : Shared} {vs : List Value} {ns : List Int}
    (KX : K.In s₁.heap) (hns : s₁.heap.Ns mainGlobals mg) (hb : s₁.heap.Ns builtinsNs mb) (hbb : ∀ x : Str, x ≠ "__name__" → mb x = bootBuiltins x) (hlim : s₁.heap.NoLimit) (hg : s₁.gens = #[])
    (ha : s₁.heap.get? a = some { cls := .type "list", data := .seq vs.toArray }) (hi : IntsAre vs ns) (hl : ns.length ≤ sizeLine) (hr : GR k callerA)
    (F : ∀ base : Heap, K.In base → base.Ns mainGlobals mg → FnG true P w K mg base CX0 k fa fd [x] sp) (hbind : ∀ (s : Shared) (u : Value), BindsTo s fd ⟨[u], []⟩ [(x, u)])
    (hsp : ∀ H : Hp, Only H → SqL K H a (ns.map V.int) → sp [.ref a] H (fun v _ => v = .bl true) fun _ _ _ => False) :
    codeAny (model P w) callerA (.call (.ref fa) ⟨[.ref a], []⟩) (fun r s' => r = .ok (.ret (.bool true)) ∧ OldK s₁.heap s'.heap ∧ s'.os = s₁.os ∧ AllBare s'.gens) s₁ := by
  have rv := vals_ints hi
  have lenV := hi.length
  have core : ∀ H : Hp, Only H → SqL K H a (ns.map V.int) → HOk P w H s₁.heap → (∀ b, H b ≠ none → b = a) → (H a ≠ none → K.lookup a = none) →
      codeAny (model P w) callerA (.call (.ref fa) ⟨[.ref a], []⟩) (fun r s' => r = .ok (.ret (.bool true)) ∧ OldK s₁.heap s'.heap ∧ s'.os = s₁.os ∧ AllBare s'.gens) s₁ := by
    intro H hO hS hok hA hK
    have only_a : ∀ {b : Addr}, (∀ (q : b = a), False) → H b = none := by
      intro b nb
      cases q : H b with
      | none => rfl
      | some u => exact (nb (hA b (by rw [q]; simp))).elim
    have nsK : ∀ {b : Addr} {m : Str → Option Value}, s₁.heap.Ns b m → (hidT s₁.heap H).Ns b m := by
      rintro b m ⟨o, es, ep, e, d, r⟩
      refine ⟨o, es, ep, hidT_get e (only_a fun z => ?_), d, r⟩
      rw [z, ha] at e
      cases e
      cases d
    have hKb : K.In (hidT s₁.heap H) := by
      intro b o e
      refine hidT_get (KX b o e) ?_
      cases q : H b with
      | none => rfl
      | some u =>
        have z : b = a := hA b (by rw [q]; simp)
        rw [z] at e q
        rw [hK (by rw [q]; simp)] at e
        cases e
    have hM : Mod K mg (hidT s₁.heap H) := ⟨hKb, nsK hns, ⟨mb, nsK hb, hbb⟩, let ⟨mc, h1, h2⟩ := hlim; ⟨mc, nsK h1, h2⟩⟩
    have e0 : Env0 P w K mg (hidT s₁.heap H) callerA [] s₁ H := ⟨rfl, hM, fun b o e => of_hidT e, Nat.le_of_eq (hidT_size _ _), trivial, fun b hb => absurd (show b ∈ ([] : List Addr) from hb) (by simp), hok, .of_eq hg⟩
    have R := (F _ hKb (nsK hns)).run callerA [] s₁ H ⟨[.ref a], []⟩ [.ref a] [.ref a] _ _ hr (fun _ => rfl) e0 (hbind s₁ (.ref a)) (.cons rfl .nil) (hsp H hO hS)
    refine codeAny_mono R fun r s' h => ?_
    rcases r with er | fl
    · exact h.elim
    cases fl with
    | next => exact h.elim
    | brk => exact h.elim
    | cont => exact h.elim
    | ret u =>
      obtain ⟨v, H', os, bare, un, hok', r', q⟩ := h
      have q' : v = .bl true := q
      subst q'
      obtain rfl : u = Value.bool true := r'
      refine ⟨rfl, OldK.of_keep fun b o e => ?_, os, bare⟩
      cases q : H b with
      | none => exact un.keep b o e q (by intro z; exact absurd (show b ∈ ([] : List Addr) from z) (by simp)) (by simp)
      | some u =>
        rcases hO b with z | ⟨ob, xs, z⟩
        · rw [q] at z; cases z
        · obtain ⟨e1, _⟩ := hok b _ z
          obtain ⟨e2, _⟩ := hok' b _ (un.frzs b ob _ z)
          rw [e] at e1
          cases e1
          exact e2
  cases hk : K.lookup a with
  | some o =>
    have e := KX a o hk
    rw [ha] at e
    cases e
    refine core (fun _ => none) (fun _ => .inl rfl) (.inr ⟨_, vs.toArray, _, hk, rfl, rfl, rfl, by rw [List.size_toArray, lenV]; exact hl, by simpa using rv⟩) (fun b u z => ?_) (fun b z => absurd rfl z) fun z => absurd rfl z
    cases (show (none : Option HO) = some u from z)
  | none =>
    have at_a : ∀ {b : Addr} {y : HO}, (if b = a then some (HO.frz { cls := .type "list", data := .seq vs.toArray } (.lst (ns.map V.int))) else none) = some y → b = a ∧ y = HO.frz { cls := .type "list", data := .seq vs.toArray } (.lst (ns.map V.int)) := by
      intro b y z
      by_cases hb : b = a
      · rw [if_pos hb] at z
        exact ⟨hb, (Option.some.inj z).symm⟩
      · rw [if_neg hb] at z
        cases z
    refine core (fun b => if b = a then some (.frz { cls := .type "list", data := .seq vs.toArray } (.lst (ns.map V.int))) else none) (fun b => ?_) (.inl (.inr ⟨{ cls := .type "list", data := .seq vs.toArray }, if_pos rfl⟩)) (fun b u z => ?_) (fun b z => ?_) fun _ => hk
    · by_cases hb : b = a
      · exact .inr ⟨_, _, if_pos hb⟩
      · exact .inl (if_neg hb)
    · obtain ⟨e1, e2⟩ := at_a z
      subst e1 e2
      exact ⟨ha, by rw [List.length_map]; exact hl, vs, _, rv, ha⟩
    · cases y : (if b = a then some (HO.frz { cls := .type "list", data := .seq vs.toArray } (.lst (ns.map V.int))) else none) with
      | none => exact absurd y z
      | some u => exact (at_a y).1

theorem walk_G {l : PySem.W.OpenLaw} {n k : Nat} {q : Program} {loose : List Str} {XP : (Str → Option Value) → Heap → Prop} {YP : World → Heap → Prop} {d : DefRec} {K : Params → PySem.W.Frag} {sp : PySem.W.Frag → Sp} {x : Str}
    (hn : l.most = some n) (hn2 : n ≤ sizeLine) (hdf : d.params.defaults = []) (hr : GR k callerA) (hY : ∀ (w : World) (h : Heap), YP w h → (K w.params).In h)
    (F : ∀ (w : World) (mg : Str → Option Value) (fa : Addr) (h : Heap), (K w.params).In h → h.Ns mainGlobals mg → mg d.name = some (.ref fa) →
      ∃ fd : FuncData, (∀ (s : Shared) (u : Value), BindsTo s fd ⟨[u], []⟩ [(x, u)]) ∧ ∀ base : Heap, (K w.params).In base → base.Ns mainGlobals mg → FnG true l.prog w (K w.params) mg base CX0 k fa fd [x] (sp (K w.params)))
    (hsp : ∀ (K : PySem.W.Frag) (H : Hp) (a : Addr) (ns : List Int), ns.length ≤ n → Only H → SqL K H a (ns.map V.int) → sp K [.ref a] H (fun v _ => v = .bl true) fun _ _ _ => False) :
    PySem.W.WalkO q loose XP YP l.row.toRowW d [] (fun f vs => PySem.call f vs) := by
  refine Att.attach_call hn hdf fun w s₀ s₁ mg mb fa o pm cd doc a vs ns G Y ho hd hcd hmg hobj hints hlen hg => ?_
  have KX := hY w _ Y
  obtain ⟨fd, hb, hF⟩ := F w mg fa _ KX G.T.g hmg
  exact law_G KX G.T.g G.T.b G.T.builtins G.T.nolimit hg hobj hints (Nat.le_trans hlen hn2) hr hF hb fun H hO hS => hsp (K w.params) H a ns hlen hO hS
end KaG


set_option maxRecDepth 100000
set_option maxHeartbeats 2000000
namespace KaG
open PySem PySem.Spec PyProof.Rows L2
section
variable {P : Program} {w : World} {K : PySem.W.Frag} {mg : Str → Option Value} {base : Heap} {CW : Addr} {NW : Str}
theorem ok_alikeD {f : Addr} {fd : FuncData} (F : Fun K "_law_alike" "_law_alike" sAlike f fd) (T : TxtB mg) (W : WrK K CW NW) : FnG false P w K mg base CX0 1 f fd ["found", "due"] (spAlikeD K) := by
  refine fnG_of F scAlike (fun vs H Q E h => ?_) (fun cdv A outer s H vs Q E hr hc h => ?_)
  · obtain ⟨x, y, d, rfl, _⟩ := h
    rfl
  · obtain ⟨x, y, d, rfl, h1, h2, h3, h4, h5, k⟩ := h
    have u64 : (A.deeper (envOfC "_law_alike" (defScope sAlike) s.heap.objs.size f cdv)).units + 64 < cLine := by have := hr.un; omega
    have u60 : (A.deeper (envOfC "_law_alike" (defScope sAlike) s.heap.objs.size f cdv)).units + 60 < cLine := by have := hr.un; omega
    refine ⟨_, pss_one (ps_ret (pe_and (pe_cmpR (op_eqD u64) (pv 0) (pv 1) (nomark _))
      (pe_one (pe_cmpR op_eq (pe_callB (call_reprS (CW := CW) (NW := NW) (by exact W) hr.gd u60) (by rfl) T.repr (by decide +kernel) (pa_cons (pv 0) pa_nil))
        (pe_callB (call_reprS (CW := CW) (NW := NW) (by exact W) hr.gd u60) (by rfl) T.repr (by decide +kernel) (pa_cons (pv 1) pa_nil)) (nomark _))))), ?_⟩
    obtain ⟨as, s1, _⟩ := Rep.sh (CW := CW) (NW := NW) h1
    obtain ⟨bs, s2, _⟩ := Rep.sh (CW := CW) (NW := NW) h2
    have shp : SeqAt.shaped d = true := by
      unfold SeqAt.shaped
      rw [h3, decide_eq_true (show d.depth ≤ 64 by omega)]
      rfl
    refine ⟨_, rfl, _, rfl, d, d, Rep.dp h1, Rep.dp h2, shp, shp, _, rfl, ?_⟩
    rw [SeqAt.eqv_refl d h3]
    refine iteT ⟨_, rfl, x, as, d.depth, txt d, rfl, s1, h4, h5, _, rfl, y, bs, d.depth, txt d, rfl, s2, h4, h5, rfl, ?_⟩
    rw [decide_eq_true rfl]
    exact k
end
end KaG


set_option maxRecDepth 100000
set_option maxHeartbeats 2000000
namespace KaG
open PySem PySem.Spec PyProof.Rows L2
inductive Dial
  | nm (n w : Str)
  | pl (p : Plc) (w : Str)
def DlAt (H : Hp) (a : Addr) : Dial → Prop
  | .nm n w => H a = some (.tup [.str n, .str w])
  | .pl p w => ∃ q, H a = some (.tup [.ref q, .str w]) ∧ H q = some (.tup [.str p.1, .int (p.2.1 : Int), .int (p.2.2 : Int)])
theorem DlAt.ts {H H' : Hp} {a : Addr} {d : Dial} (h : DlAt H a d) (s : TSame H H') : DlAt H' a d := by
  cases d with
  | nm n w => exact s _ _ h
  | pl p w =>
    obtain ⟨q, h1, h2⟩ := h
    exact ⟨q, s _ _ h1, s _ _ h2⟩
/-- the need at a place -/
def needAt (ks : List Kd) (p : Plc) (its : List V) : Prop := ∃ k ∈ ks, k.name = p.1 ∧ ∃ g, k.gs[p.2.1]? = some g ∧ g[p.2.2]? = some its
def DialOk (ks : List Kd) : Dial → Prop
  | .nm n w => n ∈ ks.map Kd.name ∧ (w = "keep" ∨ w = "bar")
  | .pl p w => ∃ its, needAt ks p its ∧ (w = "tell" ∨ w = "most" ∨ (w = "after" ∧ its.head? = some (.str "kind")))
theorem place_need {ks : List Kd} {p : Plc} (h : p ∈ placesOf ks) : ∃ its, needAt ks p its := by
  unfold placesOf at h
  obtain ⟨k, hk, h⟩ := List.mem_flatMap.mp h
  unfold plK at h
  obtain ⟨g, hg, h⟩ := List.mem_flatMap.mp h
  unfold plG at h
  obtain ⟨n, hn, rfl⟩ := List.mem_map.mp h
  rw [List.mem_range] at hg hn
  have e : k.gs[g]? = some k.gs[g] := by simp [hg]
  have e2 : k.gs.getD g [] = k.gs[g] := by simp [hg]
  rw [e2] at hn
  exact ⟨k.gs[g][n], k, hk, rfl, k.gs[g], e, by simp [hn]⟩
theorem paired_at2 {α β : Type} {R : α → β → Prop} : ∀ {xs : List α} {ys : List β} {i : Nat} {y : β}, Paired R xs ys → ys[i]? = some y → ∃ x, xs[i]? = some x ∧ R x y
  | _, _, i, _, .nil, e => by simp at e
  | _, _, 0, _, .cons h r, e => by
    cases e
    exact ⟨_, rfl, h⟩
  | _, _, i + 1, _, .cons h r, e => by
    obtain ⟨x, q1, q2⟩ := paired_at2 r (show _ = some _ from e)
    exact ⟨x, q1, q2⟩
theorem kvs_keys {ks : List Kd} {kas : List Addr} (h : ks.length ≤ kas.length) : (kvsOf ks kas).map (·.1) = (ks.map Kd.name).map Sum.inr := by
  unfold kvsOf
  rw [List.map_map, List.map_map]
  have : ((fun x : Key × V => x.1) ∘ fun z : Kd × Addr => (Sum.inr z.1.name, V.ref z.2)) = (Sum.inr ∘ Kd.name) ∘ Prod.fst := rfl
  rw [this, ← List.map_map, List.map_fst_zip h]
/-- kinds[name][3][g][n], as it stands in the heap -/
theorem need_reach {H : Hp} {b : Addr} {rows : List Str} {ks : List Kd} {kas : List Addr} {p : Plc} {its : List V} (hA : BookAt H b rows ks) (hK : KasOf H b kas) (nd : (ks.map Kd.name).Nodup) (h : needAt ks p its) :
    ∃ (ka gt : Addr) (gas : List Addr) (ga : Addr) (nas : List Addr) (na : Addr) (k : Kd), valV (kvsOf ks kas) (Sum.inr p.1) = some (.ref ka) ∧ H ka = some (.tup [.str k.name, .int k.keep, .int k.bar, .ref gt]) ∧ H gt = some (.tup (gas.map V.ref)) ∧
      gas[p.2.1]? = some ga ∧ H ga = some (.tup (nas.map V.ref)) ∧ nas[p.2.2]? = some na ∧ H na = some (.tup its) := by
  obtain ⟨k, mk, kn, g, hg, hn⟩ := h
  obtain ⟨r, kt, kas', e1, e2, e3, pk⟩ := hA
  obtain ⟨r', kt', g1, g2⟩ := hK
  rw [e1] at g1
  cases g1
  rw [e3] at g2
  obtain rfl : kas' = kas := refs_inj (HO.tup.inj (Option.some.inj g2))
  obtain ⟨i, hi⟩ := List.getElem?_of_mem mk
  obtain ⟨ka, hka, gt, gas, f1, f2, f3⟩ := paired_at2 pk hi
  obtain ⟨ga, hga, nas, h1, h2⟩ := paired_at2 f3 hg
  obtain ⟨na, hna, h3⟩ := paired_at2 h2 hn
  have hlen := paired_len pk
  have mz : (Sum.inr k.name, V.ref ka) ∈ kvsOf ks kas' := by
    unfold kvsOf
    refine List.mem_map.mpr ⟨(k, ka), ?_, rfl⟩
    exact List.mem_of_getElem? ((List.getElem?_zip_eq_some (z := (k, ka))).mpr ⟨hi, hka⟩)
  have nk : ((kvsOf ks kas').map (·.1)).Nodup := by
    rw [kvs_keys (by omega)]
    exact List.pairwise_map.mpr (nd.imp fun h z => h (Sum.inr.inj z))
  refine ⟨ka, gt, gas, ga, nas, na, k, ?_, f1, f2, hga, h1, hna, h3⟩
  rw [← kn]
  exact valV_in nk mz
end KaG


set_option maxRecDepth 100000
set_option maxHeartbeats 2000000
namespace KaG
open PySem PySem.Spec PyProof.Rows L2
section
variable {P : Program} {w : World} {K : PySem.W.Frag} {mg : Str → Option Value} {base : Heap}
theorem scDials : FnScope ["rulebook", "found", "name", "keep", "bar", "grounds", "g", "n", "words", "word"] ["rulebook"] (defScope sDials) := ⟨rfl, rfl, rfl, by decide +kernel, rfl, by decide +kernel, by decide +kernel⟩
def DlsAt (H : Hp) (ks : List Kd) (as : List Addr) : Prop := ∀ a ∈ as, ∃ d, DlAt H a d ∧ DialOk ks d
theorem DlsAt.ts {H H' : Hp} {ks : List Kd} {as : List Addr} (h : DlsAt H ks as) (s : TSame H H') : DlsAt H' ks as := fun a m => let ⟨d, q, o⟩ := h a m; ⟨d, q.ts s, o⟩
theorem DlsAt.app {H : Hp} {ks : List Kd} {as bs : List Addr} (h : DlsAt H ks as) (g : DlsAt H ks bs) : DlsAt H ks (as ++ bs) := fun a m => (List.mem_append.mp m).elim (h a) (g a)
def spDials : Sp := fun vs H Q _ => ∃ (b : Addr) (rows : List Str) (ks : List Kd) (kas : List Addr), vs = [.ref b] ∧ BookAt H b rows ks ∧ KasOf H b kas ∧ BookOk rows ks ∧ ∀ (p : Addr) (as : List Addr) (H' : Hp), Same H H' → H p = none → H' p = some (.lst (as.map V.ref)) → DlsAt H' ks as → as.length ≤ 200 → Q (.ref p) H'
theorem ok_dials {f fP fK : Addr} {fd fdP fdK : FuncData} (F : Fun K "_law_dials" "_law_dials" sDials f fd) (T : TxtC mg) (CP : Ct P w K mg base "_law_places" 1 ["rulebook"] spPlaces fP fdP) (CK : Ct P w K mg base "_law_kinds" 1 ["rulebook"] spKinds fK fdK) : FnOk P w K mg base CX0 2 f fd ["rulebook"] spDials := by
  refine F.ok scDials (fun vs H Q E h => ?_) (fun cdv A outer s H vs Q E hr h => ?_)
  · obtain ⟨b, rows, ks, kas, rfl, _⟩ := h
    rfl
  · obtain ⟨b, rows, ks, kas, rfl, hA, hK, hO, k⟩ := h
    have u1 : (A.deeper (envOfC "_law_dials" (defScope sDials) s.heap.objs.size f cdv)).units + 1 < cLine := by have := hr.un; omega
    refine ⟨_, (pss_cons (ps_set (i := 1) scDials.nd rfl (Or.inl rfl) (pe_lst pa_nil))
      (pss_cons (ps_for PassesOwn.never rfl (pi_tup (pe_ix ix_tup (pv 0) pe_int (fun _ _ => rfl))) (pg_tup (by rfl) (pgs_cons (pg_name (i := 2) scDials.nd rfl (Or.inr rfl)) (pgs_cons (pg_name (i := 3) scDials.nd rfl (Or.inl rfl)) (pgs_cons (pg_name (i := 4) scDials.nd rfl (Or.inl rfl)) (pgs_cons (pg_name (i := 5) scDials.nd rfl (Or.inl rfl)) pgs_nil)))))
        (pss_one (ps_expr (pe_bm PySem.F.plainAttrs_list PySem.F.slot_list_extend PySem.F.type_list_extend mt_extend (pv 1) (pa_cons (pe_lst (pa_cons (pe_tup (pa_cons (pv 2) (pa_cons pe_str pa_nil))) (pa_cons (pe_tup (pa_cons (pv 2) (pa_cons pe_str pa_nil))) pa_nil))) pa_nil)))))
      (pss_cons (ps_for PassesOwn.never rfl (pi_list (pe_call CP.G hr (by rfl) CP.m CP.kp CP.b .nil pass0 (pa_cons (pv 0) pa_nil))) (pg_tup (by rfl) (pgs_cons (pg_name (i := 2) scDials.nd rfl (Or.inr rfl)) (pgs_cons (pg_name (i := 6) scDials.nd rfl (Or.inr rfl)) (pgs_cons (pg_name (i := 7) scDials.nd rfl (Or.inr rfl)) pgs_nil))))
        (pss_cons (ps_set (i := 8) scDials.nd rfl (Or.inl rfl) (pe_op op_cat (pe_lst (pa_cons pe_str (pa_cons pe_str pa_nil))) (pe_op op_rep (pe_lst (pa_cons pe_str pa_nil)) (pe_callTy call_int1 (by rfl) T.b.int (by decide +kernel)
          (pa_cons (pe_cmpR op_eq (pe_ix ix_tup (pe_ix ix_tup (pe_ix ix_tup (pe_ix ix_tup (pe_dget u1 (pe_call CK.G hr (by rfl) CK.m CK.kp CK.b .nil pass0 (pa_cons (pv 0) pa_nil)) (pv 2) (fun _ _ => rfl)) pe_int (fun _ _ => rfl)) (pv 6) (fun _ _ => rfl)) (pv 7) (fun _ _ => rfl)) pe_int (fun _ _ => rfl)) pe_str (nomark _)) pa_nil)))))
        (pss_one (ps_expr (pe_bm PySem.F.plainAttrs_list PySem.F.slot_list_extend PySem.F.type_list_extend mt_extend (pv 1) (pa_cons (pe_lc (own := [("word", 9)]) (g := gName 9) (by rfl) scDials.nd (pi_list (pv 8))
          (blkOk_by (own := [("word", 9)]) (N := ["rulebook", "found", "name", "keep", "bar", "grounds", "g", "n", "words", "word"]) (sc := defScope sDials) (by decide +kernel)) (fun _ _ _ _ _ => pg_name (i := 9) scDials.nd rfl (Or.inl rfl)) (fun _ _ _ _ _ => pts_nil)
          (fun _ _ _ _ _ => pe_tup (pa_cons (pe_tup (pa_cons (pv 2) (pa_cons (pv 6) (pa_cons (pv 7) pa_nil)))) (pa_cons (pv 9) pa_nil)))) pa_nil))))))
      (pss_one (ps_ret (pv 1)))))), ?_⟩
    have sz : ∀ {m : Nat}, m ≤ 900 → m ≤ sizeLine := fun h => Nat.le_of_lt (small1000 (by omega))
    have hk5 := hO.k5
    have ndn : (ks.map Kd.name).Nodup := hO.nm.nd
    obtain ⟨r, kt, kas', e1, e2, e3, pk⟩ := id hA
    have hlen := paired_len pk
    refine ⟨Nat.zero_le _, fun p np => ?_⟩
    have s0 : Same H (upd H p (.lst [])) := same_upd np
    refine ⟨_, rfl, b, _, 1, .ref kt, rfl, rfl, SqT.of (s0 _ _ e1), rfl, kt, rfl, ⟨_, SqT.of (s0 _ _ e3)⟩, for_tup (K := K) (a := kt) (xs := kas'.map V.ref) (fun i σ' G => (∃ x2 x3 x4 x5 x6 x7 x8 x9 : Option V, σ' = [some (.ref b), some (.ref p), x2, x3, x4, x5, x6, x7, x8, x9]) ∧ Same H G ∧ ∃ as : List Addr, G p = some (.lst (as.map V.ref)) ∧ DlsAt G ks as ∧ as.length ≤ 2 * i) ?_ ?_ ?_ ?_⟩
    · exact ⟨⟨_, _, _, _, _, _, _, _, rfl⟩, s0, [], upd_same, (fun _ z => nomatch z), Nat.le_refl _⟩
    · rintro i σ' G _ ⟨_, S, _⟩
      exact SqT.of (S _ _ e3)
    · rintro i x σ' G hx ⟨⟨x2, x3, x4, x5, x6, x7, x8, x9, rfl⟩, S, as, gp, pa, la⟩
      rw [List.getElem?_map] at hx
      obtain ⟨ka, ha, rfl⟩ := Option.map_eq_some_iff.mp hx
      obtain ⟨kd, hkd, gt, gas, f1, f2, f3⟩ := paired_at pk ha
      have mk : kd.name ∈ ks.map Kd.name := List.mem_map_of_mem (List.mem_of_getElem? hkd)
      have hi : i < kas'.length := (List.getElem?_eq_some_iff.mp ha).1
      refine ⟨ka, _, rfl, SqT.of (S _ _ f1), by rfl, _, _, rfl, _, _, rfl, _, _, rfl, _, _, rfl, rfl, ?_⟩
      refine ⟨_, rfl, .inl ⟨rfl, _, SqL.of gp⟩, _, rfl, sz (by show 2 ≤ 900; decide), fun q1 n1 => ⟨_, rfl, sz (by show 2 ≤ 900; decide), fun q2 n2 => ⟨sz (by show 2 ≤ 900; decide), fun l nl => ?_⟩⟩⟩
      have s1 : Same G (upd G q1 (.tup [.str kd.name, .str "keep"])) := same_upd n1
      have s2 := KaG.Same.tr s1 (same_upd (o := .tup [.str kd.name, .str "bar"]) n2)
      have s3 := KaG.Same.tr s2 (same_upd (o := .lst [.ref q1, .ref q2]) nl)
      have h1 := (KaG.Same.tr (same_upd (o := .tup [.str kd.name, .str "bar"]) n2) (same_upd (o := .lst [.ref q1, .ref q2]) nl)) _ _ (upd_same (H := G) (a := q1) (o := .tup [.str kd.name, .str "keep"]))
      have h2 := (same_upd (o := .lst [.ref q1, .ref q2]) nl) _ _ (upd_same (H := upd G q1 (.tup [.str kd.name, .str "keep"])) (a := q2) (o := .tup [.str kd.name, .str "bar"]))
      refine ⟨p, l, _, _, rfl, rfl, s3 _ _ gp, upd_same, sz (by rw [List.length_map]; show as.length + 2 ≤ 900; omega), ?_⟩
      have ts1 : TSame (upd (upd (upd G q1 (.tup [.str kd.name, .str "keep"])) q2 (.tup [.str kd.name, .str "bar"])) l (.lst [.ref q1, .ref q2])) _ := ts_lst (ys := as.map V.ref ++ [.ref q1, .ref q2]) (s3 _ _ gp)
      refine ⟨⟨_, _, _, _, _, _, _, _, rfl⟩, ?_, as ++ [q1, q2], by rw [upd_same, List.map_append]; rfl, ?_, by rw [List.length_append]; show as.length + 2 ≤ _; omega⟩
      · exact fun b u e => by rw [upd_ne (ne_of_none e np)]; exact s3 _ _ (S b u e)
      · refine ((pa.ts (TSame.of s3)).ts ts1).app fun a m => ?_
        simp only [List.mem_cons, List.mem_nil_iff, or_false] at m
        rcases m with rfl | rfl
        · exact ⟨.nm kd.name "keep", ts1 _ _ h1, mk, .inl rfl⟩
        · exact ⟨.nm kd.name "bar", ts1 _ _ h2, mk, .inr rfl⟩
    · rintro σ' G ⟨⟨x2, x3, x4, x5, x6, x7, x8, x9, rfl⟩, S, as, gp, pa, la⟩
      rw [List.length_map] at la
      have hBG : BookAt G b rows ks := hA.ts (TSame.of S)
      have hKG : KasOf G b kas := by
        obtain ⟨r', kt', g1, g2⟩ := hK
        exact ⟨r', kt', S _ _ g1, S _ _ g2⟩
      refine ⟨_, rfl, b, rows, ks, rfl, hBG, hO, fun pl ps G2 S2 npl epl pps lps => ⟨pl, rfl, ⟨_, SqL.of epl⟩, ?_⟩⟩
      have plp : pl ≠ p := fun z => by rw [z, gp] at npl; cases npl
      have SG2 := KaG.Same.tr S S2
      refine for_list (K := K) (a := pl) (xs := ps.map V.ref) (fun i σ' J => (∃ x2 x3 x4 x5 x6 x7 x8 x9 : Option V, σ' = [some (.ref b), some (.ref p), x2, x3, x4, x5, x6, x7, x8, x9]) ∧ Same H J ∧ J pl = some (.lst (ps.map V.ref)) ∧ PlAt J ps (placesOf ks) ∧ ∃ as : List Addr, J p = some (.lst (as.map V.ref)) ∧ DlsAt J ks as ∧ as.length ≤ 10 + 3 * i) ?_ ?_ ?_ ?_
      · exact ⟨⟨_, _, _, _, _, _, _, _, rfl⟩, SG2, epl, pps, as, S2 _ _ gp, pa.ts (TSame.of S2), by omega⟩
      · rintro i σ' J _ ⟨_, _, e, _⟩
        exact SqL.of e
      · rintro i x σ' J hx ⟨⟨x2, x3, x4, x5, x6, x7, x8, x9, rfl⟩, SJ, jpl, jps, as, jp, ja, la⟩
        rw [List.getElem?_map] at hx
        obtain ⟨a, ha, rfl⟩ := Option.map_eq_some_iff.mp hx
        have hi : i < ps.length := (List.getElem?_eq_some_iff.mp ha).1
        obtain ⟨pc, hpc, ea⟩ := paired_at jps ha
        obtain ⟨its, hneed⟩ := place_need (List.mem_of_getElem? hpc)
        refine ⟨a, _, rfl, SqT.of ea, by rfl, _, _, rfl, _, _, rfl, _, _, rfl, rfl, ?_⟩
        dsimp only
        refine seqGo (fun b' D => ∀ (J6 : Hp) (w4 : Addr) (ws : List Str), Same J J6 → J6 w4 = some (.lst (ws.map V.str)) → ws.length ≤ 3 → (∀ x ∈ ws, x = "tell" ∨ x = "most" ∨ (x = "after" ∧ its.head? = some (.str "kind"))) →
          b' D [some (.ref b), some (.ref p), some (.str pc.1), x3, x4, x5, some (.int (pc.2.1 : Int)), some (.int (pc.2.2 : Int)), some (.ref w4), x9] J6) (fun J6 w4 ws S6 ew lw hw => ?_) (fun rest => ?_)
        · -- found.extend([((name, g, n), word) for word in words])
          refine ⟨_, rfl, .inl ⟨rfl, _, SqL.of (S6 _ _ jp)⟩, _, rfl, w4, rfl, ⟨_, SqL.of ew⟩, fun D hD => lc_list (K := K) (a := w4) (xs := ws.map V.str) (fun i J7 => Same J6 J7 ∧ ∃ qs : List Addr, qs.length = i ∧ J7 D = some (.lst (qs.map V.ref)) ∧ DlsAt J7 ks qs) ?_ ?_ ?_ ?_⟩
          · exact ⟨same_upd hD, [], rfl, upd_same, fun _ z => nomatch z⟩
          · rintro j J7 _ ⟨S7, _⟩
            exact SqL.of (S7 _ _ ew)
          · rintro j x J7 hx ⟨S7, qs, ql, jD, jq⟩
            rw [List.getElem?_map] at hx
            obtain ⟨wd, hwd, rfl⟩ := Option.map_eq_some_iff.mp hx
            have hj : j < ws.length := (List.getElem?_eq_some_iff.mp hwd).1
            refine ⟨rfl, ?_⟩
            unfold tYes
            dsimp only
            refine iteT ⟨_, rfl, _, rfl, _, rfl, sz (by show 3 ≤ 900; decide), fun q1 n1 => ⟨_, rfl, sz (by show 2 ≤ 900; decide), fun q2 n2 => ?_⟩⟩
            have s1 : Same J7 (upd J7 q1 (.tup [.str pc.1, .int (pc.2.1 : Int), .int (pc.2.2 : Int)])) := same_upd n1
            have s2 := same_upd (o := .tup [.ref q1, .str wd]) n2
            have s12 := KaG.Same.tr s1 s2
            have h1 := s2 _ _ (upd_same (H := J7) (a := q1) (o := .tup [.str pc.1, .int (pc.2.1 : Int), .int (pc.2.2 : Int)]))
            have ts1 := ts_lst (ys := qs.map V.ref ++ [.ref q2]) (s12 _ _ jD)
            refine ⟨_, s12 _ _ jD, small1000 (by rw [List.length_map]; omega), fun b u e => by rw [upd_ne (ne_of_none e hD)]; exact s12 _ _ (S7 b u e), qs ++ [q2], by rw [List.length_append, ql]; rfl, by rw [upd_same, List.map_append]; rfl, ?_⟩
            refine ((jq.ts (TSame.of s12)).ts ts1).app fun a m => ?_
            rw [List.mem_singleton.mp m]
            exact ⟨.pl pc wd, ⟨q1, ts1 _ _ upd_same, ts1 _ _ h1⟩, its, hneed, hw wd (List.mem_of_getElem? hwd)⟩
          · rintro J7 ⟨S7, qs, ql, jD, jq⟩
            rw [List.length_map] at ql
            refine ⟨p, D, _, _, rfl, rfl, S7 _ _ (S6 _ _ jp), jD, sz (by rw [List.length_map, List.length_map]; omega), ?_⟩
            have s67 := KaG.Same.tr S6 S7
            have ts1 := ts_lst (ys := as.map V.ref ++ qs.map V.ref) (s67 _ _ jp)
            refine ⟨⟨_, _, _, _, _, _, _, _, rfl⟩, fun b u e => by rw [upd_ne (ne_of_none e np)]; exact s67 _ _ (SJ b u e), by rw [upd_ne plp]; exact s67 _ _ jpl, (jps.ts (TSame.of s67)).ts ts1, as ++ qs, by rw [upd_same, List.map_append], ?_, by rw [List.length_append]; omega⟩
            exact ((ja.ts (TSame.of s67)).ts ts1).app (jq.ts ts1)
        · -- words = ["tell", "most"] + ["after"] * int(..)
          refine ⟨sz (by show 2 ≤ 900; decide), fun w1 n1 => ⟨sz (by show 1 ≤ 900; decide), fun w2 n2 => ?_⟩⟩
          have s1 : Same J (upd J w1 (.lst [.str "tell", .str "most"])) := same_upd n1
          have s2 := KaG.Same.tr s1 (same_upd (o := .lst [.str "after"]) n2)
          have g1 := (same_upd (o := .lst [.str "after"]) n2) _ _ (upd_same (H := J) (a := w1) (o := .lst [.str "tell", .str "most"]))
          have g2 : upd (upd J w1 (.lst [.str "tell", .str "most"])) w2 (.lst [.str "after"]) w2 = some (.lst [.str "after"]) := upd_same
          generalize upd (upd J w1 (.lst [.str "tell", .str "most"])) w2 (.lst [.str "after"]) = J3 at s2 g1 g2 ⊢
          have SJ3 := KaG.Same.tr SJ s2
          have hB3 : BookAt J3 b rows ks := hA.ts (TSame.of SJ3)
          have hK3 : KasOf J3 b kas := by
            obtain ⟨r', kt', y1, y2⟩ := hK
            exact ⟨r', kt', SJ3 _ _ y1, SJ3 _ _ y2⟩
          refine ⟨_, rfl, b, rows, ks, kas, rfl, hB3, hK3, by omega, ndn, fun kd J4 s4 nkd ekd => ?_⟩
          obtain ⟨ka, gt, gas, ga, nas, na, kk, ev, f1, f2, f3, f4, f5, f6⟩ := need_reach (hB3.ts (TSame.of s4)) (show KasOf J4 b kas from let ⟨r', kt', y1, y2⟩ := hK3; ⟨r', kt', s4 _ _ y1, s4 _ _ y2⟩) ndn hneed
          refine ⟨_, rfl, kd, _, rfl, .inl ⟨_, Sum.inr pc.1, .inl ekd, rfl, ev.symm⟩, ka, _, 3, .ref gt, rfl, rfl, SqT.of f1, rfl, _, rfl, gt, _, _, .ref ga, rfl, rfl, SqT.of f2, atI_nat (by rw [List.getElem?_map, f3]; rfl), _, rfl, ga, _, _, .ref na, rfl, rfl, SqT.of f4, atI_nat (by rw [List.getElem?_map, f5]; rfl), ?_⟩
          have nv : NeedV rows (ks.map Kd.name) its := by
            obtain ⟨k0, mk0, _, g0, hg0, hn0⟩ := hneed
            exact (hO.grd k0 mk0 g0 (List.mem_of_getElem? hg0)).2.2 its (List.mem_of_getElem? hn0)
          have s24 := KaG.Same.tr s2 s4
          cases nv with
          | row n t m h t0 t4 m0 m9 =>
            refine ⟨na, _, 0, .str "row", rfl, rfl, SqT.of f6, rfl, rfl, .inr ⟨_, rfl, ?_⟩⟩
            refine ⟨w2, _, _, rfl, rfl, s4 _ _ g2, by decide, by decide, sz (by decide), fun w3 n3 => ?_⟩
            have s3 := same_upd (o := .lst (List.replicate (if decide ((V.str "row") = .str "kind") = true then (1 : Int) else 0).toNat [V.str "after"]).flatten) n3
            refine ⟨w1, w3, _, _, rfl, rfl, s3 _ _ (s4 _ _ g1), upd_same, sz (by decide), fun w4 n4 => ?_⟩
            refine rest _ w4 ["tell", "most"] (KaG.Same.tr (KaG.Same.tr s24 s3) (same_upd n4)) (by rw [upd_same]; rfl) (by decide) (fun x hx => ?_)
            simp only [List.mem_cons, List.mem_nil_iff, or_false] at hx
            rcases hx with rfl | rfl
            · exact .inl rfl
            · exact .inr (.inl rfl)
          | kind n a0 t m h a1 a9 t0 t4 m0 m9 =>
            refine ⟨na, _, 0, .str "kind", rfl, rfl, SqT.of f6, rfl, rfl, .inr ⟨_, rfl, ?_⟩⟩
            refine ⟨w2, _, _, rfl, rfl, s4 _ _ g2, by decide, by decide, sz (by decide), fun w3 n3 => ?_⟩
            have s3 := same_upd (o := .lst (List.replicate (if decide ((V.str "kind") = .str "kind") = true then (1 : Int) else 0).toNat [V.str "after"]).flatten) n3
            refine ⟨w1, w3, _, _, rfl, rfl, s3 _ _ (s4 _ _ g1), upd_same, sz (by decide), fun w4 n4 => ?_⟩
            refine rest _ w4 ["tell", "most", "after"] (KaG.Same.tr (KaG.Same.tr s24 s3) (same_upd n4)) (by rw [upd_same]; rfl) (by decide) (fun x hx => ?_)
            simp only [List.mem_cons, List.mem_nil_iff, or_false] at hx
            rcases hx with rfl | rfl | rfl
            · exact .inl rfl
            · exact .inr (.inl rfl)
            · exact .inr (.inr ⟨rfl, rfl⟩)
      · rintro σ' J ⟨⟨x2, x3, x4, x5, x6, x7, x8, x9, rfl⟩, SJ, jpl, jps, as, jp, ja, la⟩
        rw [List.length_map] at la
        exact ⟨_, rfl, k p as J SJ np jp ja (by omega)⟩
end
end KaG


set_option maxRecDepth 100000
set_option maxHeartbeats 2000000
namespace KaG
open PySem PySem.Spec PyProof.Rows L2
/-- a statement that is never reached -/
theorem ps_no {X : Cx} {st : Stmt} : PS X st (fun _ _ _ => False) := ⟨fun _ _ _ _ _ _ h => h.elim⟩
abbrev sKindOf : Stmt := top 6
abbrev sNeedAt : Stmt := top 11
section
variable {P : Program} {w : World} {K : PySem.W.Frag} {mg : Str → Option Value} {base : Heap}
theorem scKindOf : FnScope ["rulebook", "name", "kind"] ["rulebook", "name"] (defScope sKindOf) := ⟨rfl, rfl, rfl, by decide +kernel, rfl, by decide +kernel, by decide +kernel⟩
/-- the kind with a name that is there -/
def spKindOf0 : Sp := fun vs H Q _ => ∃ (b : Addr) (rows : List Str) (ks : List Kd) (kas : List Addr) (i : Nat) (k : Kd) (ka : Addr), vs = [.ref b, .str k.name] ∧ BookAt H b rows ks ∧ KasOf H b kas ∧ (ks.map Kd.name).Nodup ∧ ks[i]? = some k ∧ kas[i]? = some ka ∧ Q (.ref ka) H
theorem ok_kindOf0 {f : Addr} {fd : FuncData} (F : Fun K "kind_of" "kind_of" sKindOf f fd) : FnOk P w K mg base CX0 1 f fd ["rulebook", "name"] spKindOf0 := by
  refine F.ok scKindOf (fun vs H Q E h => ?_) (fun cdv A outer s H vs Q E hr h => ?_)
  · obtain ⟨b, rows, ks, kas, i, k, ka, rfl, _⟩ := h
    rfl
  · obtain ⟨b, rows, ks, kas, i, k, ka, rfl, hA, hK, nd, hi, hka, q⟩ := h
    refine ⟨_, (pss_cons (ps_for PassesOwn.never rfl (pi_tup (pe_ix ix_tup (pv 0) pe_int (fun _ _ => rfl))) (pg_name (i := 2) scKindOf.nd rfl (Or.inl rfl)) (pss_one (ps_if (pt_cmpR op_eq (pe_ix ix_tup (pv 2) pe_int (fun _ _ => rfl)) (pv 1) (nomark _)) (pss_one (ps_ret (pv 2))) pss_nil)))
      (pss_one ps_no)), ?_⟩
    obtain ⟨r, kt, kas', e1, e2, e3, pk⟩ := id hA
    obtain ⟨r', kt', g1, g2⟩ := hK
    rw [e1] at g1
    cases g1
    rw [e3] at g2
    obtain rfl : kas' = kas := refs_inj (HO.tup.inj (Option.some.inj g2))
    have hlen := paired_len pk
    refine ⟨_, rfl, b, _, 1, .ref kt, rfl, rfl, SqT.of e1, rfl, kt, rfl, ⟨_, SqT.of e3⟩, for_tup (K := K) (a := kt) (xs := kas'.map V.ref) (fun j σ' G => G = H ∧ j ≤ i ∧ ∃ x2 : Option V, σ' = [some (.ref b), some (.str k.name), x2]) ?_ ?_ ?_ ?_⟩
    · exact ⟨rfl, Nat.zero_le _, _, rfl⟩
    · rintro j σ' G _ ⟨rfl, _⟩
      exact SqT.of e3
    · rintro j x σ' G hx ⟨rfl, hj, x2, rfl⟩
      rw [List.getElem?_map] at hx
      obtain ⟨a, ha, rfl⟩ := Option.map_eq_some_iff.mp hx
      obtain ⟨kd, hkd, gt, gas, f1, _⟩ := paired_at pk ha
      refine ⟨_, rfl, a, _, 0, .str kd.name, rfl, rfl, SqT.of f1, rfl, _, rfl, rfl, _, rfl, ite2 (fun hc => ?_) fun hc => ?_⟩
      · have en : kd.name = k.name := by
          exact V.str.inj (of_decide_eq_true hc)
        have ej : j = i := by
          have h1 : (ks.map Kd.name)[j]? = some kd.name := by rw [List.getElem?_map, hkd]; rfl
          have h2 : (ks.map Kd.name)[i]? = some kd.name := by rw [List.getElem?_map, hi, en]; rfl
          have hj1 := (List.getElem?_eq_some_iff.mp h1).1
          exact (List.getElem?_inj hj1 nd).mp (h1.trans h2.symm)
        subst ej
        rw [ha] at hka
        cases hka
        exact ⟨_, rfl, q⟩
      · refine ⟨rfl, ?_, _, rfl⟩
        have nj : j ≠ i := fun z => by
          subst z
          rw [hkd] at hi
          cases hi
          exact hc (decide_eq_true rfl)
        omega
    · rintro σ' G ⟨rfl, hj, _⟩
      have := (List.getElem?_eq_some_iff.mp hka).1
      rw [List.length_map] at hj
      exact absurd this (by omega)
theorem scNeedAt : FnScope ["rulebook", "place", "name", "ground", "need"] ["rulebook", "place"] (defScope sNeedAt) := ⟨rfl, rfl, rfl, by decide +kernel, rfl, by decide +kernel, by decide +kernel⟩
def spNeedAt : Sp := fun vs H Q _ => ∃ (b a : Addr) (rows : List Str) (ks : List Kd) (p : Plc) (its : List V), vs = [.ref b, .ref a] ∧ BookAt H b rows ks ∧ (ks.map Kd.name).Nodup ∧ H a = some (.tup [.str p.1, .int (p.2.1 : Int), .int (p.2.2 : Int)]) ∧ needAt ks p its ∧ ∀ na : Addr, H na = some (.tup its) → Q (.ref na) H
theorem ok_needAt {f fK : Addr} {fd fdK : FuncData} (F : Fun K "need_at" "need_at" sNeedAt f fd) (C : Ct P w K mg base "kind_of" 1 ["rulebook", "name"] spKindOf0 fK fdK) : FnOk P w K mg base CX0 2 f fd ["rulebook", "place"] spNeedAt := by
  refine F.ok scNeedAt (fun vs H Q E h => ?_) (fun cdv A outer s H vs Q E hr h => ?_)
  · obtain ⟨b, a, rows, ks, p, its, rfl, _⟩ := h
    rfl
  · obtain ⟨b, a, rows, ks, p, its, rfl, hA, nd, ea, hn, q⟩ := h
    refine ⟨_, (pss_cons (ps_asg (pv 1) (pg_tup (by rfl) (pgs_cons (pg_name (i := 2) scNeedAt.nd rfl (Or.inl rfl)) (pgs_cons (pg_name (i := 3) scNeedAt.nd rfl (Or.inl rfl)) (pgs_cons (pg_name (i := 4) scNeedAt.nd rfl (Or.inl rfl)) pgs_nil)))))
      (pss_one (ps_ret (pe_ix ix_tup (pe_ix ix_tup (pe_ix ix_tup (pe_call C.G hr (by rfl) C.m C.kp C.b .nil pass0 (pa_cons (pv 0) (pa_cons (pv 2) pa_nil))) pe_int (fun _ _ => rfl)) (pv 3) (fun _ _ => rfl)) (pv 4) (fun _ _ => rfl))))), ?_⟩
    obtain ⟨k, mk, kn, g, hg, hnn⟩ := id hn
    obtain ⟨i, hi⟩ := List.getElem?_of_mem mk
    obtain ⟨r, kt, kas, e1, e2, e3, pk⟩ := id hA
    obtain ⟨ka, hka, gt, gas, f1, f2, f3⟩ := paired_at2 pk hi
    obtain ⟨ga, hga, nas, h1, h2⟩ := paired_at2 f3 hg
    obtain ⟨na, hna, h3⟩ := paired_at2 h2 hnn
    refine ⟨_, rfl, a, _, rfl, SqT.of ea, by rfl, _, _, rfl, _, _, rfl, _, _, rfl, rfl, ?_⟩
    refine ⟨_, rfl, _, rfl, b, rows, ks, kas, i, k, ka, by rw [kn]; rfl, hA, ⟨r, kt, e1, e3⟩, nd, hi, hka, ?_⟩
    exact ⟨ka, _, 3, .ref gt, rfl, rfl, SqT.of f1, rfl, _, rfl, gt, _, _, .ref ga, rfl, rfl, SqT.of f2, atI_nat (by rw [List.getElem?_map, hga]; rfl), _, rfl, ga, _, _, .ref na, rfl, rfl, SqT.of h1, atI_nat (by rw [List.getElem?_map, hna]; rfl), q na h3⟩
end
end KaG


set_option maxRecDepth 100000
set_option maxHeartbeats 4000000
namespace KaG
open PySem PySem.Spec PyProof.Rows L2 KaC
/-! ### which grounds are dead -/
def keepBad (ks : List Kd) (p : Str) (a : Int) : Bool := ks.any fun k => decide (k.name = p) && decide (k.keep ≤ a)
def needBad (ks : List Kd) : List V → Bool
  | [.str _, .str p, .int a, .int _, .int _] => keepBad ks p a
  | _ => false
def grdBad (ks : List Kd) (g : List (List V)) : Bool := g.any (needBad ks)
def isK (its : List V) : Bool := decide (its.length = 5)
theorem keepBad_eq {ks : List Kd} {k : Kd} {a : Int} (nd : (ks.map Kd.name).Nodup) (h : k ∈ ks) : keepBad ks k.name a = decide (k.keep ≤ a) := by
  unfold keepBad
  cases e : decide (k.keep ≤ a) with
  | true => exact List.any_eq_true.mpr ⟨k, h, by simp [e]⟩
  | false =>
    rw [List.any_eq_false]
    intro k2 h2 z
    rw [Bool.and_eq_true, decide_eq_true_eq] at z
    have : k2 = k := by
      obtain ⟨i, hi⟩ := List.mem_iff_getElem?.mp h
      obtain ⟨j, hj⟩ := List.mem_iff_getElem?.mp h2
      obtain ⟨li, ei⟩ := List.getElem?_eq_some_iff.mp hi
      obtain ⟨lj, ej⟩ := List.getElem?_eq_some_iff.mp hj
      have hij : j = i := (List.getElem_inj (h₀ := by rw [List.length_map]; exact lj) (h₁ := by rw [List.length_map]; exact li) nd).mp (by rw [List.getElem_map, List.getElem_map, ei, ej, z.1])
      subst hij
      rw [hi] at hj
      exact (Option.some.inj hj).symm
    rw [this, e] at z
    exact absurd z.2 (by decide)
theorem row_notBad {rows names : List Str} {ks : List Kd} {its : List V} (h : NeedV rows names its) (e : isK its = false) : needBad ks its = false := by
  cases h with
  | row => rfl
  | kind => cases e
theorem bad_filter {rows names : List Str} {ks : List Kd} : ∀ {g : List (List V)}, (∀ n ∈ g, NeedV rows names n) → (g.filter isK).any (needBad ks) = grdBad ks g
  | [], _ => rfl
  | n :: g, h => by
    have ih := bad_filter (ks := ks) (g := g) fun m hm => h m (List.mem_cons_of_mem _ hm)
    unfold grdBad at ih ⊢
    rw [List.any_cons, ← ih]
    cases e : isK n with
    | true => rw [List.filter_cons_of_pos e, List.any_cons]
    | false => rw [List.filter_cons_of_neg (by rw [e]; decide), row_notBad (h n (List.mem_cons_self ..)) e, Bool.false_or]
abbrev sIsDead : Stmt := top 9
section
variable {P : Program} {w : World} {K : PySem.W.Frag} {mg : Str → Option Value} {base : Heap}
abbrev nmID : List Str := ["rulebook", "ground", "kinds_needed", "need"]
theorem scID : FnScope nmID ["rulebook", "ground"] (defScope sIsDead) := ⟨rfl, rfl, rfl, by decide +kernel, rfl, by decide +kernel, by decide +kernel⟩
def spIsDead : Sp := fun vs H Q _ => ∃ (b ga : Addr) (rows : List Str) (ks : List Kd) (g : List (List V)), vs = [.ref b, .ref ga] ∧ BookAt H b rows ks ∧ BookOk rows ks ∧ Grd H ga g ∧ (∀ n ∈ g, NeedV rows (ks.map Kd.name) n) ∧ g.length ≤ 3 ∧ ∀ H', Same H H' → Q (.bl (grdBad ks g)) H'
def rAnyOf (K : PySem.W.Frag) : List V → Hp → VK → Prop := fun vs H Q => ∃ (a : Addr) (bs : List Bool), vs = [V.ref a] ∧ SqL K H a (bs.map V.bl) ∧ Q (.bl (bs.any id)) H
theorem ok_isDead {f fK : Addr} {fd fdK : FuncData} (F : Fun K "_is_dead" "_is_dead" sIsDead f fd) (hany : mg "any" = none) (C : Ct P w K mg base "kind_of" 1 ["rulebook", "name"] spKindOf0 fK fdK) : FnOk P w K mg base CX0 2 f fd ["rulebook", "ground"] spIsDead := by
  refine F.ok scID (fun vs H Q E h => ?_) (fun cdv A outer s H vs Q E hr h => ?_)
  · obtain ⟨b, ga, rows, ks, g, rfl, _⟩ := h
    rfl
  · obtain ⟨b, ga, rows, ks, g, rfl, hA, hO, ⟨ns, eg, pg⟩, hn, l3, k⟩ := h
    have hr1 : Room 1 (A.deeper (envOfC "_is_dead" (defScope sIsDead) s.heap.objs.size f cdv)) := hr
    refine ⟨_, (pss_cons (ps_setLc (i := 2) (own := [("need", 3)]) (g := gName 3) (tt := tTest (tOp rEq (tOp (rIxT K) (tVar 3) (tC (.int 0))) (tC (.str "kind")))) (by rfl) scID.nd rfl rfl (sw_true rfl rfl rfl (by decide +kernel)) (pi_tup (pv 1))
        (blkOk_by (own := [("need", 3)]) (N := nmID) (sc := defScope sIsDead) (by decide +kernel)) (fun _ _ _ _ _ => pg_name (i := 3) scID.nd rfl (Or.inl rfl)) (fun _ _ _ _ _ => pts_one (pt_cmpR (r := rEq) op_eq (pe_ix (r := rIxT K) ix_tup (pv 3) pe_int (fun _ _ => rfl)) pe_str (nomark _)))
        (fun _ _ _ _ _ => pv 3))
      (pss_one (ps_ret (pe_callB (r := rAnyOf K) (cr_any rfl) (by rfl) hany (by decide +kernel) (pa_cons (pe_lc (own := [("need", 3)]) (g := gName 3) (by rfl) scID.nd (pi_list (pv 2))
        (blkOk_by (own := [("need", 3)]) (N := nmID) (sc := defScope sIsDead) (by decide +kernel)) (fun _ _ _ _ _ => pg_name (i := 3) scID.nd rfl (Or.inl rfl)) (fun _ _ _ _ _ => pts_nil)
        (fun _ _ _ _ _ => pe_cmpR (r := rI0 fun i j => V.bl (decide (i ≤ j))) op_le (pe_ix (r := rIxT K) ix_tup (pe_call C.G hr1 (by rfl) C.m C.kp C.b .nil pass0 (pa_cons (pv 0) (pa_cons (pe_ix (r := rIxT K) ix_tup (pv 3) pe_int (fun _ _ => rfl)) pa_nil))) pe_int (fun _ _ => rfl))
          (pe_ix (r := rIxT K) ix_tup (pv 3) pe_int (fun _ _ => rfl)) (nomark _))) pa_nil))))), ?_⟩
    have sz : ∀ {m : Nat}, m ≤ 900 → m ≤ sizeLine := fun h => Nat.le_of_lt (small1000 (by omega))
    obtain ⟨r, kt, kas, e1, e2, e3, pk⟩ := hA
    have lng := paired_len pg
    refine ⟨_, rfl, ga, rfl, ⟨_, SqT.of eg⟩, fun D hD => lc_tup (K := K) (a := ga) (xs := ns.map V.ref) (fun i G => Same H G ∧ ∃ qs : List Addr, G D = some (.lst (qs.map V.ref)) ∧ Paired (fun q it => G q = some (.tup it)) qs ((g.take i).filter isK)) ?_ ?_ ?_ ?_⟩
    · exact ⟨same_upd hD, [], upd_same, .nil⟩
    · rintro i G _ ⟨S, _⟩
      exact SqT.of (S _ _ eg)
    · rintro i x G hx ⟨S, qs, gD, pq⟩
      rw [List.getElem?_map] at hx
      obtain ⟨n, hni, rfl⟩ := Option.map_eq_some_iff.mp hx
      obtain ⟨it, hit, en⟩ := paired_at pg hni
      have nv := hn it (List.mem_of_getElem? hit)
      have lq : qs.length ≤ 3 := by
        have h1 := paired_len pq
        have h2 := List.length_filter_le isK (g.take i)
        rw [List.length_take] at h2
        omega
      have tk : g.take (i + 1) = g.take i ++ [it] := by rw [List.take_add_one, hit]; rfl
      refine ⟨rfl, ?_⟩
      cases nv with
      | row nm t m h =>
        refine ⟨_, rfl, n, _, 0, .str "row", rfl, rfl, SqT.of (S _ _ en), rfl, rfl, _, rfl, ?_⟩
        dsimp only
        rw [if_neg (by decide +kernel)]
        refine ⟨S, qs, gD, ?_⟩
        rw [tk, List.filter_append]
        simpa [isK] using pq
      | kind nm a t m h =>
        refine ⟨_, rfl, n, _, 0, .str "kind", rfl, rfl, SqT.of (S _ _ en), rfl, rfl, _, rfl, ?_⟩
        dsimp only
        rw [if_pos (by decide +kernel)]
        refine ⟨_, rfl, _, gD, small1000 (by rw [List.length_map]; omega), fun b u e => by rw [upd_ne (ne_of_none e hD)]; exact S b u e, qs ++ [n], by rw [upd_same, List.map_append]; rfl, ?_⟩
        rw [tk, List.filter_append]
        have tsl := ts_lst (ys := qs.map V.ref ++ [V.ref n]) gD
        have fk : List.filter isK [[V.str "kind", V.str nm, V.int a, V.int t, V.int m]] = [[V.str "kind", V.str nm, V.int a, V.int t, V.int m]] := rfl
        rw [fk]
        exact paired_snoc (R := fun q it => (upd G D (.lst (qs.map V.ref ++ [V.ref n]))) q = some (.tup it)) (tsl _ _ (S _ _ en)) (Paired.mono' (fun _ _ q => tsl _ _ q) pq)
    · rintro G ⟨S, qs, gD, pq⟩
      rw [List.length_map, lng, List.take_length] at pq
      have inn : ∀ it ∈ g.filter isK, NeedV rows (ks.map Kd.name) it ∧ isK it = true := fun it m => ⟨hn it (List.mem_filter.mp m).1, (List.mem_filter.mp m).2⟩
      have hbf := bad_filter (ks := ks) hn
      have l3' := List.length_filter_le isK g
      generalize g.filter isK = fs at pq inn hbf l3'
      have lq := paired_len pq
      refine ⟨_, rfl, D, rfl, ⟨_, SqL.of gD⟩, fun D2 hD2 => lc_list (K := K) (a := D) (xs := qs.map V.ref) (fun i J => Same G J ∧ J D2 = some (.lst (((fs.take i).map (needBad ks)).map V.bl))) ?_ ?_ ?_ ?_⟩
      · exact ⟨same_upd hD2, upd_same⟩
      · rintro i J _ ⟨S2, _⟩
        exact SqL.of (S2 _ _ gD)
      · rintro i x J hx ⟨S2, jD⟩
        rw [List.getElem?_map] at hx
        obtain ⟨q, hq, rfl⟩ := Option.map_eq_some_iff.mp hx
        obtain ⟨it, hit, eq⟩ := paired_at pq hq
        obtain ⟨nv, ik⟩ := inn it (List.mem_of_getElem? hit)
        have S02 := KaG.Same.tr S S2
        refine ⟨rfl, ?_⟩
        unfold tYes
        dsimp only
        cases nv with
        | row nm t m h => cases ik
        | kind nm a t m h =>
          obtain ⟨kd, mk, rfl⟩ := List.mem_map.mp h
          obtain ⟨j, hj⟩ := List.mem_iff_getElem?.mp mk
          obtain ⟨ka, hka, gt, gas, f1, f2, f3⟩ := paired_at2 pk hj
          have eqJ := S2 _ _ eq
          refine iteT ⟨_, rfl, _, rfl, q, _, 1, .str kd.name, rfl, rfl, SqT.of eqJ, rfl, b, rows, ks, kas, j, kd, ka, rfl, BookAt.ts ⟨r, kt, kas, e1, e2, e3, pk⟩ (TSame.of S02), ⟨r, kt, S02 _ _ e1, S02 _ _ e3⟩, hO.nm.nd, hj, hka,
            ka, _, 1, .int kd.keep, rfl, rfl, SqT.of (S02 _ _ f1), rfl, _, rfl, q, _, 2, .int a, rfl, rfl, SqT.of eqJ, rfl, _, _, rfl, rfl, ?_⟩
          refine ⟨_, jD, small1000 (by rw [List.length_map, List.length_map, List.length_take]; omega), fun b u e => by rw [upd_ne (ne_of_none e hD2)]; exact S2 b u e, ?_⟩
          rw [upd_same, List.take_add_one, hit, Option.toList_some, List.map_append, List.map_append]
          have : needBad ks [V.str "kind", V.str kd.name, V.int a, V.int t, V.int m] = decide (kd.keep ≤ a) := keepBad_eq hO.nm.nd mk
          rw [List.map_singleton, this]; rfl
      · rintro J ⟨S2, jD⟩
        rw [List.length_map, lq, List.take_length] at jD
        refine ⟨D2, fs.map (needBad ks), rfl, SqL.of jD, ?_⟩
        have e : (fs.map (needBad ks)).any id = grdBad ks g := by
          rw [← hbf, List.any_map]; rfl
        rw [e]
        exact k J (KaG.Same.tr S S2)
end
end KaG


set_option maxRecDepth 100000
set_option maxHeartbeats 4000000
namespace KaG
open PySem PySem.Spec PyProof.Rows L2 KaC
def deadG (ks : List Kd) (k : Kd) (g : Nat) : List (Str × Nat) := if grdBad ks (k.gs.getD g []) = true then [(k.name, g)] else []
def deadK (ks : List Kd) (k : Kd) : List (Str × Nat) := (List.range k.gs.length).flatMap (deadG ks k)
def deadOf (ks : List Kd) : List (Str × Nat) := ks.flatMap (deadK ks)
def DdAt (H : Hp) (as : List Addr) (ds : List (Str × Nat)) : Prop := Paired (fun a (d : Str × Nat) => H a = some (.tup [.str d.1, .int (d.2 : Int)])) as ds
theorem DdAt.ts {H H' : Hp} {as : List Addr} {ds : List (Str × Nat)} (h : DdAt H as ds) (s : TSame H H') : DdAt H' as ds := Paired.mono' (fun a d q => s _ _ q) h
theorem range_next {α : Type} (f : Nat → List α) (n : Nat) : (List.range (n + 1)).flatMap f = (List.range n).flatMap f ++ f n := by
  rw [List.range_succ, List.flatMap_append]
  simp
abbrev sDeadG : Stmt := top 10
def spDeadG : Sp := fun vs H Q _ => ∃ (b : Addr) (rows : List Str) (ks : List Kd), vs = [.ref b] ∧ BookAt H b rows ks ∧ BookOk rows ks ∧ ∀ (p : Addr) (as : List Addr) (H' : Hp), Same H H' → H p = none → H' p = some (.lst (as.map V.ref)) → DdAt H' as (deadOf ks) → as.length ≤ 20 → Q (.ref p) H'
section
variable {P : Program} {w : World} {K : PySem.W.Frag} {mg : Str → Option Value} {base : Heap}
abbrev nmDG : List Str := ["rulebook", "kind", "at", "ground"]
theorem scDG : FnScope nmDG ["rulebook"] (defScope sDeadG) := ⟨rfl, rfl, rfl, by decide +kernel, rfl, by decide +kernel, by decide +kernel⟩
theorem ok_deadG {f fD : Addr} {fd fdD : FuncData} (F : Fun K "dead_grounds" "dead_grounds" sDeadG f fd) (hen : mg "enumerate" = none) (C : Ct P w K mg base "_is_dead" 2 ["rulebook", "ground"] spIsDead fD fdD) : FnOk P w K mg base CX0 3 f fd ["rulebook"] spDeadG := by
  refine F.ok scDG (fun vs H Q E h => ?_) (fun cdv A outer s H vs Q E hr h => ?_)
  · obtain ⟨b, rows, ks, rfl, _⟩ := h
    rfl
  · obtain ⟨b, rows, ks, rfl, hA, hO, k⟩ := h
    have hr2 : Room 2 (A.deeper (envOfC "dead_grounds" (defScope sDeadG) s.heap.objs.size f cdv)) := hr
    refine ⟨_, pss_one (ps_ret (pe_lc2n [2, 3] (own := [("kind", 1), ("at", 2), ("ground", 3)]) (g0 := gName 1) (g1 := gTup K 2 (gCons (gName 2) (gCons (gName 3) gNil)))
      (w1 := iEnumT K (tCons (tOp (rIxT K) (tVar 1) (tC (.int 3))) tNil)) (te := tTup (tCons (tOp (rIxT K) (tVar 1) (tC (.int 0))) (tCons (tVar 2) tNil)))
      (by rfl) scDG.nd (pi_tup (pe_ix ix_tup (pv 0) pe_int (fun _ _ => rfl)))
      (blkOk_by (own := [("kind", 1), ("at", 2), ("ground", 3)]) (N := nmDG) (sc := defScope sDeadG) (by decide +kernel)) (by decide)
      (fun _ _ _ _ _ => pg_name (i := 1) scDG.nd rfl (Or.inl rfl)) (fun _ _ _ _ _ => pts_nil)
      (fun _ _ _ _ _ => pi_enumT (by rfl) hen (pa_cons (pe_ix (r := rIxT K) ix_tup (pv 1) pe_int (fun _ _ => rfl)) pa_nil))
      (fun _ _ _ _ _ => pg_tup (t := gCons (gName 2) (gCons (gName 3) gNil)) rfl (pgs_cons (pg_name (i := 2) scDG.nd rfl (Or.inl rfl)) (pgs_cons (pg_name (i := 3) scDG.nd rfl (Or.inl rfl)) pgs_nil)))
      (fun _ _ _ _ _ => pts_one (pt_val (pe_call C.G hr2 (by rfl) C.m C.kp C.b .nil pass0 (pa_cons (pv 0) (pa_cons (pv 3) pa_nil)))))
      (fun _ _ _ _ _ => pe_tup (pa_cons (pe_ix (r := rIxT K) ix_tup (pv 1) pe_int (fun _ _ => rfl)) (pa_cons (pv 2) pa_nil))))), ?_⟩
    have sz : ∀ {m : Nat}, m ≤ 900 → m ≤ sizeLine := fun h => Nat.le_of_lt (small1000 (by omega))
    obtain ⟨r, kt, kas, e1, e2, e3, pk⟩ := hA
    have hlen := paired_len pk
    have hk5 := hO.k5
    refine ⟨_, rfl, b, _, 1, .ref kt, rfl, rfl, SqT.of e1, rfl, kt, rfl, ⟨_, SqT.of e3⟩, fun D hD => go_tup (K := K) (a := kt) (xs := kas.map V.ref) (fun i G => Same H G ∧ ∃ as : List Addr, G D = some (.lst (as.map V.ref)) ∧ DdAt G as ((ks.take i).flatMap (deadK ks)) ∧ as.length ≤ 4 * i) ?_ ?_ ?_ ?_⟩
    · exact ⟨same_upd hD, [], upd_same, .nil, Nat.le_refl _⟩
    · rintro i G _ ⟨S, _⟩
      exact SqT.of (S _ _ e3)
    · rintro i x G hx ⟨S, as, gD, pa, la⟩
      rw [List.getElem?_map] at hx
      obtain ⟨ka, ha, rfl⟩ := Option.map_eq_some_iff.mp hx
      obtain ⟨kd, hkd, gt, gas, f1, f2, f3⟩ := paired_at pk ha
      have mk : kd ∈ ks := List.mem_of_getElem? hkd
      have hi : i < kas.length := (List.getElem?_eq_some_iff.mp ha).1
      have hgl := paired_len f3
      obtain ⟨_, _, _, _, hg4⟩ := hO.num kd mk
      refine ⟨rfl, ?_⟩
      unfold tYes
      dsimp only
      refine iteT ⟨_, rfl, ka, _, 3, .ref gt, rfl, rfl, SqT.of (S _ _ f1), rfl, gt, gas.map V.ref, rfl, SqT.of (S _ _ f2), go_enumT (K := K) (a := gt) (xs := gas.map V.ref) (fun g J => Same H J ∧ ∃ bs : List Addr, J D = some (.lst (bs.map V.ref)) ∧ DdAt J bs ((ks.take i).flatMap (deadK ks) ++ (List.range g).flatMap (deadG ks kd)) ∧ bs.length ≤ 4 * i + g) ?_ ?_ ?_ ?_⟩
      · exact ⟨S, as, gD, by simpa using pa, by omega⟩
      · rintro g J _ ⟨S2, _⟩
        exact SqT.of (S2 _ _ f2)
      · rintro g x T J hx ⟨S2, bs, jD, pb, lb⟩ nT
        rw [List.getElem?_map] at hx
        obtain ⟨ga, hga, rfl⟩ := Option.map_eq_some_iff.mp hx
        have hg := (List.getElem?_eq_some_iff.mp hga).1
        obtain ⟨gr, hgr, hG⟩ := paired_at f3 hga
        obtain ⟨_, h3, hn⟩ := hO.grd kd mk gr (List.mem_of_getElem? hgr)
        have egr : kd.gs.getD g [] = gr := by simp [hgr]
        refine ⟨T, _, rfl, SqT.of upd_same, rfl, _, _, rfl, _, _, rfl, rfl, rfl, ?_⟩
        have sT := same_upd (o := .tup [.int (g : Nat), .ref ga]) nT
        have S3 := KaG.Same.tr S2 sT
        have jD3 := sT _ _ jD
        have pb3 := pb.ts (TSame.of sT)
        generalize upd J T (.tup [.int (g : Nat), .ref ga]) = J3 at S3 jD3 pb3 ⊢
        refine ⟨_, rfl, _, rfl, b, ga, rows, ks, gr, rfl, BookAt.ts ⟨r, kt, kas, e1, e2, e3, pk⟩ (TSame.of S3), hO, hG.ts (TSame.of S3), hn, h3, fun J4 S34 => ⟨_, rfl, ?_⟩⟩
        have S4 := KaG.Same.tr S3 S34
        have jD4 := S34 _ _ jD3
        have pb4 := pb3.ts (TSame.of S34)
        dsimp only
        cases eb : grdBad ks gr with
        | false =>
          rw [if_neg (by decide)]
          refine ⟨S4, bs, jD4, ?_, by omega⟩
          rw [range_next, deadG, egr, eb, if_neg (by decide), List.append_nil]
          exact pb4
        | true =>
          rw [if_pos rfl]
          refine ⟨_, rfl, ka, _, 0, .str kd.name, rfl, rfl, SqT.of (S4 _ _ f1), rfl, _, rfl, sz (by show 2 ≤ 900; decide), fun q nq => ?_⟩
          have s1 := same_upd (o := .tup [.str kd.name, .int (g : Nat)]) nq
          refine ⟨_, s1 _ _ jD4, small1000 (by rw [List.length_map]; omega), fun b u e => by rw [upd_ne (ne_of_none e hD)]; exact s1 _ _ (S4 b u e), bs ++ [q], by rw [upd_same, List.map_append]; rfl, ?_, by rw [List.length_append]; show _ + 1 ≤ _; omega⟩
          rw [range_next, deadG, egr, eb, if_pos rfl, ← List.append_assoc]
          have tsl := ts_lst (ys := bs.map V.ref ++ [V.ref q]) (s1 _ _ jD4)
          exact paired_snoc (R := fun a (d : Str × Nat) => (upd (upd J4 q (.tup [.str kd.name, .int (g : Nat)])) D (.lst (bs.map V.ref ++ [V.ref q]))) a = some (.tup [.str d.1, .int (d.2 : Int)])) (tsl q _ upd_same) ((pb4.ts (TSame.of s1)).ts tsl)
      · rintro J ⟨S2, bs, jD, pb, lb⟩
        rw [List.length_map, hgl] at pb
        rw [List.length_map] at lb
        refine ⟨S2, bs, jD, ?_, by omega⟩
        have e : (ks.take (i + 1)).flatMap (deadK ks) = (ks.take i).flatMap (deadK ks) ++ (List.range kd.gs.length).flatMap (deadG ks kd) := by
          rw [List.take_add_one, hkd, List.flatMap_append]
          simp [deadK]
        rw [e]
        exact pb
    · rintro G ⟨S, as, gD, pa, la⟩
      rw [List.length_map, hlen, List.take_length] at pa
      rw [List.length_map] at la
      exact k D as G S hD gD pa (by omega)
end
end KaG


set_option maxRecDepth 100000
set_option maxHeartbeats 4000000
namespace KaG
open PySem PySem.Spec PyProof.Rows L2 KaC
theorem kvs_at {ks : List Kd} {kas : List Addr} {i : Nat} {k : Kd} {ka : Addr} (nd : (ks.map Kd.name).Nodup) (hl : ks.length ≤ kas.length) (h1 : ks[i]? = some k) (h2 : kas[i]? = some ka) : valV (kvsOf ks kas) (Sum.inr k.name) = some (.ref ka) := by
  have mz : (Sum.inr k.name, V.ref ka) ∈ kvsOf ks kas := by
    unfold kvsOf
    exact List.mem_map.mpr ⟨(k, ka), List.mem_of_getElem? ((List.getElem?_zip_eq_some (z := (k, ka))).mpr ⟨h1, h2⟩), rfl⟩
  have nk : ((kvsOf ks kas).map (·.1)).Nodup := by
    rw [kvs_keys hl]
    exact List.pairwise_map.mpr (nd.imp fun h z => h (Sum.inr.inj z))
  exact valV_in nk mz
theorem nm_lay : ∀ n ∈ nmAll, (PyData.str n).canLay0 = true := by decide +kernel
theorem tup_lay : ∀ ds : List PyData, (∀ d ∈ ds, d.canLay0 = true) → (PyData.tuple ds).canLay0 = true ∧ (PyData.list ds).canLay0 = true
  | [], _ => ⟨by simp [PyData.canLay0, PyData.canLayAll0], by simp [PyData.canLay0, PyData.canLayAll0]⟩
  | d :: ds, h => by
    have h1 := h d (List.mem_cons_self ..)
    have h2 := (tup_lay ds fun x m => h x (List.mem_cons_of_mem _ m)).1
    rw [PyData.canLay0] at h2
    exact ⟨by rw [PyData.canLay0, PyData.canLayAll0, h1, h2]; rfl, by rw [PyData.canLay0, PyData.canLayAll0, h1, h2]; rfl⟩
theorem int_lay (i : Int) : (PyData.int i).canLay0 = true := by simp [PyData.canLay0]
theorem need_dp {K : PySem.W.Frag} {H : Hp} {rows names : List Str} {its : List V} {a : Addr} (hr : ∀ n ∈ rows, n ∈ nmAll) (hn : ∀ n ∈ names, n ∈ nmAll) (h : NeedV rows names its) (e : H a = some (.tup its)) : ∃ d, Dp K H (.ref a) d ∧ d.canLay0 = true ∧ d.depth ≤ 1 := by
  cases h with
  | row n t m h =>
    refine ⟨.tuple [.str "row", .str n, .int t, .int m], .tup (SqT.of e) (.cons (.str _) (.cons (.str _) (.cons (.int _) (.cons (.int _) .nil)))), (tup_lay _ fun d md => ?_).1, by simp [PyData.depth, PyData.depthAll]⟩
    simp only [List.mem_cons, List.not_mem_nil, or_false] at md
    rcases md with rfl | rfl | rfl | rfl
    · exact nm_lay _ (by decide +kernel)
    · exact nm_lay _ (hr n h)
    · exact int_lay _
    · exact int_lay _
  | kind n a t m h =>
    refine ⟨.tuple [.str "kind", .str n, .int a, .int t, .int m], .tup (SqT.of e) (.cons (.str _) (.cons (.str _) (.cons (.int _) (.cons (.int _) (.cons (.int _) .nil))))), (tup_lay _ fun d md => ?_).1, by simp [PyData.depth, PyData.depthAll]⟩
    simp only [List.mem_cons, List.not_mem_nil, or_false] at md
    rcases md with rfl | rfl | rfl | rfl | rfl
    · exact nm_lay _ (by decide +kernel)
    · exact nm_lay _ (hn n h)
    · exact int_lay _
    · exact int_lay _
    · exact int_lay _
theorem needs_dp {K : PySem.W.Frag} {H : Hp} {rows names : List Str} (hr : ∀ n ∈ rows, n ∈ nmAll) (hn : ∀ n ∈ names, n ∈ nmAll) : ∀ {qs : List Addr} {its : List (List V)}, Paired (fun q it => H q = some (.tup it)) qs its → (∀ it ∈ its, NeedV rows names it) → ∃ ds, DpAll K H (qs.map V.ref) ds ∧ (∀ d ∈ ds, d.canLay0 = true) ∧ PyData.depthAll ds ≤ 1 ∧ ds.length = its.length
  | _, _, .nil, _ => ⟨[], .nil, fun _ z => (by cases z), by simp [PyData.depthAll], rfl⟩
  | _, _, .cons h r, n => by
    obtain ⟨d, h1, h2, h3⟩ := need_dp (K := K) hr hn (n _ (List.mem_cons_self ..)) h
    obtain ⟨ds, g1, g2, g3, g4⟩ := needs_dp (K := K) hr hn r fun it m => n it (List.mem_cons_of_mem _ m)
    exact ⟨d :: ds, .cons h1 g1, fun x m => by
      rcases List.mem_cons.mp m with c | c
      · rw [c]; exact h2
      · exact g2 x c, by rw [PyData.depthAll]; omega, by rw [List.length_cons, List.length_cons, g4]⟩
theorem shaped_list {ds : List PyData} (h : ∀ d ∈ ds, d.canLay0 = true) (d1 : PyData.depthAll ds ≤ 60) : SeqAt.shaped (.list ds) = true := by
  unfold SeqAt.shaped
  rw [(tup_lay ds h).2, Bool.true_and, decide_eq_true_eq, PyData.depth]
  omega
theorem eqv_empty : ∀ ds : List PyData, PyData.eqv (.list ds) (.list []) = decide (ds.length = 0)
  | [] => rfl
  | _ :: _ => rfl
section
variable {P : Program} {w : World} {K : PySem.W.Frag} {mg : Str → Option Value} {base : Heap}
abbrev nmLD : List Str := ["rulebook", "kinds", "found", "name", "keep", "bar", "grounds", "g", "ground", "bad", "need"]
theorem scLD : FnScope nmLD ["rulebook"] (defScope sDead) := ⟨rfl, rfl, rfl, by decide +kernel, rfl, by decide +kernel, by decide +kernel⟩
theorem ok_dead {f fK : Addr} {fd fdK : FuncData} (F : Fun K "_law_dead" "_law_dead" sDead f fd) (T : TxtC mg) (hen : mg "enumerate" = none) (CK : Ct P w K mg base "_law_kinds" 1 ["rulebook"] spKinds fK fdK) : FnOk P w K mg base CX0 2 f fd ["rulebook"] spDeadG := by
  refine F.ok scLD (fun vs H Q E h => ?_) (fun cdv A outer s H vs Q E hr h => ?_)
  · obtain ⟨b, rows, ks, rfl, _⟩ := h
    rfl
  · obtain ⟨b, rows, ks, rfl, hA, hO, k⟩ := h
    have u1 : (A.deeper (envOfC "_law_dead" (defScope sDead) s.heap.objs.size f cdv)).units + 1 < cLine := by have := hr.3; omega
    have hu : (A.deeper (envOfC "_law_dead" (defScope sDead) s.heap.objs.size f cdv)).units + 64 < cLine := by have := hr.3; omega
    refine ⟨_, (pss_cons (ps_asg (pe_tup (pa_cons (pe_call CK.G hr (by rfl) CK.m CK.kp CK.b .nil pass0 (pa_cons (pv 0) pa_nil)) (pa_cons (pe_lst pa_nil) pa_nil))) (pg_tup (by rfl) (pgs_cons (pg_name (i := 1) scLD.nd rfl (Or.inr rfl)) (pgs_cons (pg_name (i := 2) scLD.nd rfl (Or.inl rfl)) pgs_nil))))
      (pss_cons (ps_for PassesOwn.never rfl (pi_tup (pe_ix ix_tup (pv 0) pe_int (fun _ _ => rfl))) (pg_tup (by rfl) (pgs_cons (pg_name (i := 3) scLD.nd rfl (Or.inl rfl)) (pgs_cons (pg_name (i := 4) scLD.nd rfl (Or.inl rfl)) (pgs_cons (pg_name (i := 5) scLD.nd rfl (Or.inl rfl)) (pgs_cons (pg_name (i := 6) scLD.nd rfl (Or.inl rfl)) pgs_nil)))))
        (pss_one (ps_for PassesOwn.never rfl (pi_enumT (by rfl) hen (pa_cons (pv 6) pa_nil)) (pg_tup (by rfl) (pgs_cons (pg_name (i := 7) scLD.nd rfl (Or.inl rfl)) (pgs_cons (pg_name (i := 8) scLD.nd rfl (Or.inl rfl)) pgs_nil)))
          (pss_cons (ps_setLc (i := 9) (own := [("need", 10)]) (g := gName 10) (tt := tAnd (tTest (tOp rEq (tOp (rIxT K) (tVar 10) (tC (.int 0))) (tC (.str "kind")))) (tTest (tOp (rI0 fun i j => V.bl (decide (i ≤ j))) (tOp (rIxT K) (tDGet (tVar 1) (tOp (rIxT K) (tVar 10) (tC (.int 1)))) (tC (.int 1))) (tOp (rIxT K) (tVar 10) (tC (.int 2))))))
            (by rfl) scLD.nd rfl rfl (sw_true rfl rfl rfl (by decide +kernel)) (pi_tup (pv 8)) (blkOk_by (own := [("need", 10)]) (N := nmLD) (sc := defScope sDead) (by decide +kernel)) (fun _ _ _ _ _ => pg_name (i := 10) scLD.nd rfl (Or.inl rfl))
            (fun _ _ _ _ _ => pts_one (PW.pt (pw_and (pt_cmpR (r := rEq) op_eq (pe_ix (r := rIxT K) ix_tup (pv 10) pe_int (fun _ _ => rfl)) pe_str (nomark _)) (pw_and1 (pt_cmpR (r := rI0 fun i j => V.bl (decide (i ≤ j))) op_le (pe_ix (r := rIxT K) ix_tup (pe_dget u1 (pv 1) (pe_ix (r := rIxT K) ix_tup (pv 10) pe_int (fun _ _ => rfl)) (fun _ _ => rfl)) pe_int (fun _ _ => rfl)) (pe_ix (r := rIxT K) ix_tup (pv 10) pe_int (fun _ _ => rfl)) (nomark _))))))
            (fun _ _ _ _ _ => pv 10))
          (pss_one (ps_expr (pe_bm PySem.F.plainAttrs_list PySem.F.slot_list_extend PySem.F.type_list_extend mt_extend (pv 2) (pa_cons (pe_op op_rep (pe_lst (pa_cons (pe_tup (pa_cons (pv 3) (pa_cons (pv 7) pa_nil))) pa_nil)) (pe_callTy call_int1 (by rfl) T.b.int (by decide +kernel) (pa_cons (pe_cmpR (op_neD hu) (pv 9) (pe_lst pa_nil) (nomark _)) pa_nil))) pa_nil))))))))
      (pss_one (ps_ret (pv 2))))), ?_⟩
    have sz : ∀ {m : Nat}, m ≤ 900 → m ≤ sizeLine := fun h => Nat.le_of_lt (small1000 (by omega))
    obtain ⟨r, kt, kas, e1, e2, e3, pk⟩ := hA
    have hlen := paired_len pk
    have hk5 := hO.k5
    refine ⟨_, rfl, b, rows, ks, kas, rfl, ⟨r, kt, kas, e1, e2, e3, pk⟩, ⟨r, kt, e1, e3⟩, by omega, hO.nm.nd, fun kd0 H1 S1 nkd hkd => ?_⟩
    refine ⟨Nat.zero_le _, fun p np => ⟨sz (by show 2 ≤ 900; decide), fun t nt => ?_⟩⟩
    refine ⟨t, _, rfl, SqT.of upd_same, by rfl, _, _, rfl, _, _, rfl, rfl, ?_⟩
    have S2 := same_upd (o := .lst []) np
    have S3 := same_upd (o := .tup [.ref kd0, .ref p]) nt
    have S := KaG.Same.tr S1 (KaG.Same.tr S2 S3)
    have hkd3 := KaG.Same.tr S2 S3 _ _ hkd
    have hp3 : (upd (upd H1 p (.lst [])) t (.tup [.ref kd0, .ref p])) p = some (.lst []) := S3 _ _ upd_same
    have pH : H p = none := same_back S1 np
    generalize upd (upd H1 p (.lst [])) t (.tup [.ref kd0, .ref p]) = H3 at S hkd3 hp3 ⊢
    have kp : kd0 ≠ p := fun z => by rw [z, hp3] at hkd3; cases hkd3
    refine ⟨_, rfl, b, _, 1, .ref kt, rfl, rfl, SqT.of (S _ _ e1), rfl, kt, rfl, ⟨_, SqT.of (S _ _ e3)⟩, for_tup (K := K) (a := kt) (xs := kas.map V.ref) (fun i σ' G => (∃ x3 x4 x5 x6 x7 x8 x9 x10 : Option V, σ' = [some (.ref b), some (.ref kd0), some (.ref p), x3, x4, x5, x6, x7, x8, x9, x10]) ∧ Same H G ∧ G kd0 = some (.dK (kvsOf ks kas)) ∧ ∃ as : List Addr, G p = some (.lst (as.map V.ref)) ∧ DdAt G as ((ks.take i).flatMap (deadK ks)) ∧ as.length ≤ 4 * i) ?_ ?_ ?_ ?_⟩
    · exact ⟨⟨_, _, _, _, _, _, _, _, rfl⟩, S, hkd3, [], hp3, .nil, Nat.le_refl _⟩
    · rintro i σ' G _ ⟨_, S, _⟩
      exact SqT.of (S _ _ e3)
    · rintro i x σ' G hx ⟨⟨x3, x4, x5, x6, x7, x8, x9, x10, rfl⟩, S, hkd, as, gp, pa, la⟩
      rw [List.getElem?_map] at hx
      obtain ⟨ka, ha, rfl⟩ := Option.map_eq_some_iff.mp hx
      obtain ⟨kd, hkdi, gt, gas, f1, f2, f3⟩ := paired_at pk ha
      have mk : kd ∈ ks := List.mem_of_getElem? hkdi
      have hi : i < kas.length := (List.getElem?_eq_some_iff.mp ha).1
      have hgl := paired_len f3
      obtain ⟨_, _, _, _, hg4⟩ := hO.num kd mk
      refine ⟨ka, _, rfl, SqT.of (S _ _ f1), by rfl, _, _, rfl, _, _, rfl, _, _, rfl, _, _, rfl, rfl, ?_⟩
      refine ⟨_, rfl, gt, gas.map V.ref, rfl, SqT.of (S _ _ f2), for_enumT (K := K) (a := gt) (xs := gas.map V.ref) (fun g σ' J => (∃ x7 x8 x9 x10 : Option V, σ' = [some (.ref b), some (.ref kd0), some (.ref p), some (.str kd.name), some (.int kd.keep), some (.int kd.bar), some (.ref gt), x7, x8, x9, x10]) ∧ Same H J ∧ J kd0 = some (.dK (kvsOf ks kas)) ∧ ∃ bs : List Addr, J p = some (.lst (bs.map V.ref)) ∧ DdAt J bs ((ks.take i).flatMap (deadK ks) ++ (List.range g).flatMap (deadG ks kd)) ∧ bs.length ≤ 4 * i + g) ?_ ?_ ?_ ?_⟩
      · exact ⟨⟨_, _, _, _, rfl⟩, S, hkd, as, gp, by simpa using pa, by omega⟩
      · rintro g σ' J _ ⟨_, S2, _⟩
        exact SqT.of (S2 _ _ f2)
      · rintro g x T σ' J hx ⟨⟨x7, x8, x9, x10, rfl⟩, S2, hkd, bs, jp, pb, lb⟩ nT
        rw [List.getElem?_map] at hx
        obtain ⟨ga, hga, rfl⟩ := Option.map_eq_some_iff.mp hx
        have hg := (List.getElem?_eq_some_iff.mp hga).1
        obtain ⟨gr, hgr, ns, h1, h2⟩ := paired_at f3 hga
        obtain ⟨_, h3, hn⟩ := hO.grd kd mk gr (List.mem_of_getElem? hgr)
        have egr : kd.gs.getD g [] = gr := by simp [hgr]
        refine ⟨T, _, rfl, SqT.of upd_same, rfl, _, _, rfl, _, _, rfl, rfl, ?_⟩
        have sT := same_upd (o := .tup [.int (g : Nat), .ref ga]) nT
        have S3 := KaG.Same.tr S2 sT
        have jp3 := sT _ _ jp
        have hkd3 := sT _ _ hkd
        have pb3 := pb.ts (TSame.of sT)
        generalize upd J T (.tup [.int (g : Nat), .ref ga]) = J3 at S3 jp3 hkd3 pb3 ⊢
        refine ⟨_, rfl, ga, rfl, ⟨_, SqT.of (S3 _ _ h1)⟩, fun D hD => lc_tup (K := K) (a := ga) (xs := ns.map V.ref) (fun i G => Same J3 G ∧ ∃ qs : List Addr, G D = some (.lst (qs.map V.ref)) ∧ Paired (fun q it => G q = some (.tup it)) qs ((gr.take i).filter (needBad ks))) ?_ ?_ ?_ ?_⟩
        · exact ⟨same_upd hD, [], upd_same, .nil⟩
        · rintro i G _ ⟨S4, _⟩
          exact SqT.of (S4 _ _ (S3 _ _ h1))
        · rintro m x G hx ⟨S4, qs, gD, pq⟩
          rw [List.getElem?_map] at hx
          obtain ⟨n, hni, rfl⟩ := Option.map_eq_some_iff.mp hx
          obtain ⟨it, hit, en⟩ := paired_at h2 hni
          have nv := hn it (List.mem_of_getElem? hit)
          have enG := S4 _ _ (S3 _ _ en)
          have S04 := KaG.Same.tr S3 S4
          have lq : qs.length ≤ 3 := by
            have w1 := paired_len pq
            have w2 := List.length_filter_le (needBad ks) (gr.take m)
            rw [List.length_take] at w2
            omega
          have tk : gr.take (m + 1) = gr.take m ++ [it] := by rw [List.take_add_one, hit]; rfl
          refine ⟨rfl, ?_⟩
          cases nv with
          | row nm t u h =>
            refine ⟨_, rfl, n, _, 0, .str "row", rfl, rfl, SqT.of enG, rfl, rfl, _, rfl, ?_⟩
            dsimp only
            rw [if_neg (by decide +kernel)]
            refine iteF ⟨S4, qs, gD, ?_⟩
            rw [tk, List.filter_append]
            have fk : List.filter (needBad ks) [[V.str "row", V.str nm, V.int t, V.int u]] = [] := rfl
            rw [fk, List.append_nil]
            exact pq
          | kind nm a t u h =>
            obtain ⟨kd2, mk2, rfl⟩ := List.mem_map.mp h
            obtain ⟨j, hj⟩ := List.mem_iff_getElem?.mp mk2
            obtain ⟨ka2, hka2, gt2, gas2, y1, y2, y3⟩ := paired_at2 pk hj
            have ev := kvs_at hO.nm.nd (by omega) hj hka2
            refine ⟨_, rfl, n, _, 0, .str "kind", rfl, rfl, SqT.of enG, rfl, rfl, _, rfl, ?_⟩
            dsimp only
            rw [if_pos (by decide +kernel)]
            refine ⟨_, rfl, _, rfl, n, _, 1, .str kd2.name, rfl, rfl, SqT.of enG, rfl, kd0, .ref ka2, rfl, by rw [← ev]; exact DGet.k (k := Sum.inr kd2.name) (S4 _ _ hkd3), ka2, _, 1, .int kd2.keep, rfl, rfl, SqT.of (S04 _ _ y1), rfl, _, rfl, n, _, 2, .int a, rfl, rfl, SqT.of enG, rfl, _, _, rfl, rfl, _, rfl, ?_⟩
            have nb : needBad ks [V.str "kind", V.str kd2.name, V.int a, V.int t, V.int u] = decide (kd2.keep ≤ a) := keepBad_eq hO.nm.nd mk2
            dsimp only
            cases eb : decide (kd2.keep ≤ a) with
            | false =>
              refine iteF ⟨S4, qs, gD, ?_⟩
              rw [tk, List.filter_append, List.filter_cons_of_neg (by rw [nb, eb]; decide)]
              simpa using pq
            | true =>
              refine iteT ⟨_, rfl, _, gD, small1000 (by rw [List.length_map]; omega), fun b u e => by rw [upd_ne (ne_of_none e hD)]; exact S4 b u e, qs ++ [n], by rw [upd_same, List.map_append]; rfl, ?_⟩
              rw [tk, List.filter_append, List.filter_cons_of_pos (by rw [nb, eb])]
              have tsl := ts_lst (ys := qs.map V.ref ++ [V.ref n]) gD
              exact paired_snoc (R := fun q it => (upd G D (.lst (qs.map V.ref ++ [V.ref n]))) q = some (.tup it)) (tsl _ _ enG) (Paired.mono' (fun _ _ q => tsl _ _ q) pq)
        · rintro G ⟨S4, qs, gD, pq⟩
          rw [List.length_map, paired_len h2, List.take_length] at pq
          have S04 := KaG.Same.tr S3 S4
          have gp4 := S4 _ _ jp3
          refine ⟨_, rfl, .inl ⟨rfl, _, SqL.of gp4⟩, _, rfl, _, rfl, sz (by show 2 ≤ 900; decide), fun q nq => ⟨sz (by show 1 ≤ 900; decide), fun l nl => ?_⟩⟩
          have Sq := same_upd (o := .tup [.str kd.name, .int (g : Nat)]) nq
          have Sl := same_upd (o := .lst [.ref q]) nl
          have Sql := KaG.Same.tr Sq Sl
          have yq : (upd (upd G q (.tup [.str kd.name, .int (g : Nat)])) l (.lst [.ref q])) q = some (.tup [.str kd.name, .int (g : Nat)]) := Sl _ _ upd_same
          have yl : (upd (upd G q (.tup [.str kd.name, .int (g : Nat)])) l (.lst [.ref q])) l = some (.lst [.ref q]) := upd_same
          have gD5 := Sql _ _ gD
          have pq5 := Paired.mono' (fun a it (e : G a = some (.tup it)) => Sql _ _ e) pq
          have gp5 := Sql _ _ gp4
          have S05 := KaG.Same.tr S04 Sql
          have S35 := KaG.Same.tr S4 Sql
          generalize upd (upd G q (.tup [.str kd.name, .int (g : Nat)])) l (.lst [.ref q]) = G5 at Sql yq yl gD5 pq5 gp5 S05 S35 ⊢
          refine ⟨_, rfl, Nat.zero_le _, fun z nz => ?_⟩
          have Sz := same_upd (o := .lst []) nz
          obtain ⟨ds, d1, d2, d3, d4⟩ := needs_dp (K := K) hO.rw.of hO.nm.of (Paired.mono' (fun a it (e : G5 a = some (.tup it)) => Sz _ _ e) pq5) fun it m => hn it (List.mem_filter.mp m).1
          refine ⟨.list ds, .list [], .lst (SqL.of (Sz _ _ gD5)) d1, .lst (SqL.of upd_same) .nil, shaped_list d2 (by omega), shaped_list (fun _ z => (by cases z)) (by simp [PyData.depthAll]), ?_⟩
          refine .inr ⟨_, rfl, l, _, _, rfl, rfl, Sz _ _ yl, ?_, ?_, ?_, fun e ne => ?_⟩
          · split <;> decide
          · split <;> decide
          · split
            · exact sz (by show 1 * 1 ≤ 900; decide)
            · exact sz (by show 1 * 0 ≤ 900; decide)
          · have hb : PyData.eqv (.list ds) (.list []) = !grdBad ks gr := by
              rw [eqv_empty, d4]
              unfold grdBad
              cases eb : gr.any (needBad ks) with
              | false =>
                have : gr.filter (needBad ks) = [] := List.filter_eq_nil_iff.mpr fun a m z => by
                  rw [List.any_eq_false] at eb
                  exact eb a m z
                rw [this]; rfl
              | true =>
                obtain ⟨a, m, z⟩ := List.any_eq_true.mp eb
                have : 0 < (gr.filter (needBad ks)).length := List.length_pos_of_mem (List.mem_filter.mpr ⟨m, z⟩)
                exact decide_eq_false (by omega)
            have Se : ∀ o, Same G5 (upd (upd G5 z (.lst [])) e o) := fun o => KaG.Same.tr Sz (same_upd ne)
            have jn : ∀ o, (upd (upd G5 z (.lst [])) e o) p = some (.lst (bs.map V.ref)) := fun o => Se o _ _ gp5
            have Sp : ∀ o o', Same H (upd (upd (upd G5 z (.lst [])) e o) p o') := fun o o' b u e' => by rw [upd_ne (ne_of_none e' pH)]; exact Se o _ _ (S05 b u e')
            have kq : ∀ o o', (upd (upd (upd G5 z (.lst [])) e o) p o') kd0 = some (.dK (kvsOf ks kas)) := fun o o' => by rw [upd_ne kp]; exact Se o _ _ (S35 _ _ hkd3)
            rw [hb, Bool.not_not]
            cases eb : grdBad ks gr with
            | false =>
              refine ⟨p, e, _, _, rfl, rfl, jn _, upd_same, sz (by rw [List.length_map]; show bs.length + 0 ≤ 900; omega), ?_⟩
              refine ⟨⟨_, _, _, _, rfl⟩, Sp _ _, kq _ _, bs, by rw [upd_same]; show some (HO.lst (_ ++ [])) = _; rw [List.append_nil], ?_, by omega⟩
              rw [range_next, show deadG ks kd g = [] by rw [deadG, egr, eb]; rfl, List.append_nil]
              exact (pb3.ts (TSame.of (KaG.Same.tr S35 (Se _)))).ts (ts_lst (jn _))
            | true =>
              refine ⟨p, e, _, _, rfl, rfl, jn _, upd_same, sz (by rw [List.length_map]; show bs.length + 1 ≤ 900; omega), ?_⟩
              refine ⟨⟨_, _, _, _, rfl⟩, Sp _ _, kq _ _, bs ++ [q], by rw [upd_same, List.map_append]; rfl, ?_, by rw [List.length_append]; show _ + 1 ≤ _; omega⟩
              rw [range_next, show deadG ks kd g = [(kd.name, g)] by rw [deadG, egr, eb]; rfl, ← List.append_assoc]
              have tsl := ts_lst (ys := bs.map V.ref ++ [V.ref q]) (jn (.lst [V.ref q]))
              exact paired_snoc (R := fun a (d : Str × Nat) => (upd (upd (upd G5 z (.lst [])) e (.lst [V.ref q])) p (.lst (bs.map V.ref ++ [V.ref q]))) a = some (.tup [.str d.1, .int (d.2 : Int)])) (tsl q _ (Se _ _ _ yq)) ((pb3.ts (TSame.of (KaG.Same.tr S35 (Se _)))).ts tsl)
      · rintro σ' J ⟨⟨x7, x8, x9, x10, rfl⟩, S2, hkd, bs, jp, pb, lb⟩
        rw [List.length_map, hgl] at pb
        rw [List.length_map] at lb
        refine ⟨⟨_, _, _, _, _, _, _, _, rfl⟩, S2, hkd, bs, jp, ?_, by omega⟩
        have e : (ks.take (i + 1)).flatMap (deadK ks) = (ks.take i).flatMap (deadK ks) ++ (List.range kd.gs.length).flatMap (deadG ks kd) := by
          rw [List.take_add_one, hkdi, List.flatMap_append]
          simp [deadK]
        rw [e]
        exact pb
    · rintro σ' G ⟨⟨x3, x4, x5, x6, x7, x8, x9, x10, rfl⟩, S, hkd, as, gp, pa, la⟩
      rw [List.length_map, hlen, List.take_length] at pa
      rw [List.length_map] at la
      exact ⟨_, rfl, k p as G S pH gp pa (by omega)⟩
end
end KaG


set_option maxRecDepth 100000
set_option maxHeartbeats 2000000
namespace KaG
open PySem PySem.Spec PyProof.Rows L2
theorem ifF {c : Bool} {a b : Prop} (h : c = false) (q : b) : if c = true then a else b := by rw [if_neg (by rw [h]; decide)]; exact q
theorem ifT {c : Bool} {a b : Prop} (h : c = true) (q : a) : if c = true then a else b := by rw [if_pos h]; exact q
abbrev sWordsOf : Stmt := top 12
abbrev sNumAt : Stmt := top 13
section
variable {P : Program} {w : World} {K : PySem.W.Frag} {mg : Str → Option Value} {base : Heap}
theorem scWordsOf : FnScope ["need"] ["need"] (defScope sWordsOf) := ⟨rfl, rfl, rfl, by decide +kernel, rfl, by decide +kernel, by decide +kernel⟩
structure WdT (K : PySem.W.Frag) (mg : Str → Option Value) (R W : Addr) : Prop where
  r : mg "ROW_WORDS" = some (.ref R)
  k : mg "KIND_WORDS" = some (.ref W)
  tr : ∃ o, K.lookup R = some o ∧ o.cls = .type "tuple" ∧ o.dict = none
  tk : ∃ o, K.lookup W = some o ∧ o.cls = .type "tuple" ∧ o.dict = none
  hr : ∀ H, SqT K H R (([Str.ofString "tell", Str.ofString "most"]).map V.str)
  hk : ∀ H, SqT K H W (([Str.ofString "after", Str.ofString "tell", Str.ofString "most"]).map V.str)
def spWordsOf (R W : Addr) : Sp := fun vs H Q _ => ∃ (na : Addr) (rows names : List Str) (its : List V), vs = [.ref na] ∧ H na = some (.tup its) ∧ NeedV rows names its ∧ (its.head? = some (.str "row") → Q (.ref R) H) ∧ (its.head? = some (.str "kind") → Q (.ref W) H)
theorem ok_wordsOf {R W : Addr} {f : Addr} {fd : FuncData} (F : Fun K "_words_of" "_words_of" sWordsOf f fd) (Z : WdT K mg R W) : FnOk P w K mg base CX0 1 f fd ["need"] (spWordsOf R W) := by
  refine F.ok scWordsOf (fun vs H Q E h => ?_) (fun cdv A outer s H vs Q E hr h => ?_)
  · obtain ⟨na, rows, names, its, rfl, _⟩ := h
    rfl
  · obtain ⟨na, rows, names, its, rfl, e, nv, q1, q2⟩ := h
    refine ⟨_, (pss_cons (ps_if (pt_cmpR op_eq (pe_ix ix_tup (pv 0) pe_int (fun _ _ => rfl)) pe_str (nomark _)) (pss_one (ps_ret (pe_glob (v := .ref R) (by rfl) Z.r rfl))) pss_nil)
      (pss_one (ps_ret (pe_glob (v := .ref W) (by rfl) Z.k rfl)))), ?_⟩
    cases nv with
    | row n t m h t0 t4 m0 m9 =>
      refine ⟨_, rfl, na, _, 0, .str "row", rfl, rfl, SqT.of e, rfl, rfl, _, rfl, ?_⟩
      exact ifT (by decide +kernel) (q1 rfl)
    | kind n a t m h a1 a9 t0 t4 m0 m9 =>
      refine ⟨_, rfl, na, _, 0, .str "kind", rfl, rfl, SqT.of e, rfl, rfl, _, rfl, ?_⟩
      exact ifF (by decide +kernel) (q2 rfl)

/-- the number of a dial -/
def wix (L : Nat) (w : Str) : Nat := if w = "after" then 2 else if w = "tell" then L - 2 else L - 1
def numOf (ks : List Kd) : Dial → Int → Prop
  | .nm n w, z => ∃ k ∈ ks, k.name = n ∧ z = if w = "keep" then k.keep else k.bar
  | .pl p w, z => ∃ its, needAt ks p its ∧ its[wix its.length w]? = some (.int z)
theorem scNumAt : FnScope ["rulebook", "dial", "spot", "word", "_", "keep", "bar", "need"] ["rulebook", "dial"] (defScope sNumAt) := ⟨rfl, rfl, rfl, by decide +kernel, rfl, by decide +kernel, by decide +kernel⟩
def spNumAt : Sp := fun vs H Q _ => ∃ (b a : Addr) (rows : List Str) (ks : List Kd) (d : Dial), vs = [.ref b, .ref a] ∧ BookAt H b rows ks ∧ BookOk rows ks ∧ DlAt H a d ∧ DialOk ks d ∧ ∀ z : Int, numOf ks d z → Q (.int z) H
theorem ok_numAt {R W : Addr} {f fK fN fW : Addr} {fd fdK fdN fdW : FuncData} (F : Fun K "_number_at" "_number_at" sNumAt f fd) (T : TxtC mg) (hstr : mg "str" = none) (C : Ct P w K mg base "kind_of" 1 ["rulebook", "name"] spKindOf0 fK fdK) (CN : Ct P w K mg base "need_at" 2 ["rulebook", "place"] spNeedAt fN fdN)
    (CW : Ct P w K mg base "_words_of" 1 ["need"] (spWordsOf R W) fW fdW) (Z : WdT K mg R W) : FnOk P w K mg base CX0 3 f fd ["rulebook", "dial"] spNumAt := by
  refine F.ok scNumAt (fun vs H Q E h => ?_) (fun cdv A outer s H vs Q E hr h => ?_)
  · obtain ⟨b, a, rows, ks, d, rfl, _⟩ := h
    rfl
  · obtain ⟨b, a, rows, ks, d, rfl, hA, hO, hd, ho, q⟩ := h
    have hr1 : Room 1 (A.deeper (envOfC "_number_at" (defScope sNumAt) s.heap.objs.size f cdv)) := hr.mono (by decide)
    refine ⟨_, (pss_cons (ps_asg (pv 1) (pg_tup (by rfl) (pgs_cons (pg_name (i := 2) scNumAt.nd rfl (Or.inl rfl)) (pgs_cons (pg_name (i := 3) scNumAt.nd rfl (Or.inl rfl)) pgs_nil))))
      (pss_cons (ps_if (pt_val (pe_callB call_isi (by rfl) T.b.isin (by decide +kernel) (pa_cons (pv 2) (pa_cons (pe_bltn (v := .ty "str") (by rfl) hstr (by decide +kernel) rfl) pa_nil))))
        (pss_cons (ps_asg (pe_call C.G hr1 (by rfl) C.m C.kp C.b .nil pass0 (pa_cons (pv 0) (pa_cons (pv 2) pa_nil))) (pg_tup (by rfl) (pgs_cons (pg_name (i := 4) scNumAt.nd rfl (Or.inl rfl)) (pgs_cons (pg_name (i := 5) scNumAt.nd rfl (Or.inl rfl)) (pgs_cons (pg_name (i := 6) scNumAt.nd rfl (Or.inl rfl)) (pgs_cons (pg_name (i := 4) scNumAt.nd rfl (Or.inl rfl)) pgs_nil))))))
        (pss_one (ps_ret (pe_ifExp (pt_cmpR op_eq (pv 3) pe_str (nomark _)) (pv 5) (pv 6))))) pss_nil)
      (pss_cons (ps_set (i := 7) scNumAt.nd rfl (Or.inl rfl) (pe_call CN.G hr (by rfl) CN.m CN.kp CN.b .nil pass0 (pa_cons (pv 0) (pa_cons (pv 2) pa_nil))))
      (pss_one (ps_ret (pe_ix ix_tup (pv 7) (pe_op op_add pe_int (pe_bm PySem.F.plainAttrs_tuple PySem.F.slot_tuple_index PySem.F.type_tuple_index mt_tup_index (pe_call CW.G hr1 (by rfl) CW.m CW.kp CW.b .nil pass0 (pa_cons (pv 7) pa_nil)) (pa_cons (pv 3) pa_nil))) (fun _ _ => rfl))))))), ?_⟩
    have ndn := hO.nm.nd
    cases d with
    | nm n w =>
      obtain ⟨mn, hw⟩ := ho
      obtain ⟨k, mk, kn⟩ := List.mem_map.mp mn
      obtain ⟨i, hi⟩ := List.getElem?_of_mem mk
      obtain ⟨r, kt, kas, e1, e2, e3, pk⟩ := id hA
      obtain ⟨ka, hka, gt, gas, f1, f2, f3⟩ := paired_at2 pk hi
      refine ⟨_, rfl, a, _, rfl, SqT.of hd, by rfl, _, _, rfl, _, _, rfl, rfl, ?_⟩
      refine ⟨_, rfl, _, _, _, _, true, rfl, .ty _, .base (.str n), kit_ty (by decide +kernel), true, rfl, ?_⟩
      refine ifT rfl ?_
      refine ⟨_, rfl, _, rfl, b, rows, ks, kas, i, k, ka, by rw [kn]; rfl, hA, ⟨r, kt, e1, e3⟩, ndn, hi, hka, ?_⟩
      refine ⟨ka, _, rfl, SqT.of f1, by rfl, _, _, rfl, _, _, rfl, _, _, rfl, _, _, rfl, rfl, ?_⟩
      refine ⟨_, rfl, rfl, _, rfl, ?_⟩
      rcases hw with rfl | rfl
      · exact ifT (by decide +kernel) ⟨_, rfl, q _ ⟨k, mk, kn, by rw [if_pos rfl]⟩⟩
      · exact ifF (by decide +kernel) ⟨_, rfl, q _ ⟨k, mk, kn, by rw [if_neg (by decide +kernel)]⟩⟩
    | pl p w =>
      obtain ⟨q0, h1, h2⟩ := hd
      obtain ⟨its, hneed, hw⟩ := ho
      have nv : NeedV rows (ks.map Kd.name) its := by
        obtain ⟨k0, mk0, _, g0, hg0, hn0⟩ := hneed
        exact (hO.grd k0 mk0 g0 (List.mem_of_getElem? hg0)).2.2 its (List.mem_of_getElem? hn0)
      refine ⟨_, rfl, a, _, rfl, SqT.of h1, by rfl, _, _, rfl, _, _, rfl, rfl, ?_⟩
      refine ⟨_, rfl, _, _, _, _, false, rfl, .ty _, .base (.tup h2), kit_ty (by decide +kernel), false, rfl, ?_⟩
      refine ifF rfl ?_
      refine ⟨_, rfl, _, rfl, b, q0, rows, ks, p, its, rfl, hA, ndn, h2, hneed, fun na ena => ?_⟩
      refine ⟨_, rfl, _, rfl, na, rows, ks.map Kd.name, its, rfl, ena, nv, fun hh => ?_, fun hh => ?_⟩
      · cases nv with
        | row n t m h t0 t4 m0 m9 =>
          rcases hw with rfl | rfl | ⟨rfl, hq⟩
          · exact ⟨.inr (.inl ⟨rfl, Z.tr⟩), _, rfl, R, _, _, 0, rfl, rfl, Z.hr _, by decide +kernel, by decide +kernel, _, _, rfl, rfl, na, _, _, _, rfl, rfl, SqT.of ena, rfl, q _ ⟨_, hneed, rfl⟩⟩
          · exact ⟨.inr (.inl ⟨rfl, Z.tr⟩), _, rfl, R, _, _, 1, rfl, rfl, Z.hr _, by decide +kernel, by decide +kernel, _, _, rfl, rfl, na, _, _, _, rfl, rfl, SqT.of ena, rfl, q _ ⟨_, hneed, rfl⟩⟩
          · cases hq
        | kind n a0 t m h a1 a9 t0 t4 m0 m9 => cases hh
      · cases nv with
        | row n t m h t0 t4 m0 m9 => cases hh
        | kind n a0 t m h a1 a9 t0 t4 m0 m9 =>
          rcases hw with rfl | rfl | ⟨rfl, hq⟩
          · exact ⟨.inr (.inl ⟨rfl, Z.tk⟩), _, rfl, W, _, _, 1, rfl, rfl, Z.hk _, by decide +kernel, by decide +kernel, _, _, rfl, rfl, na, _, _, _, rfl, rfl, SqT.of ena, rfl, q _ ⟨_, hneed, rfl⟩⟩
          · exact ⟨.inr (.inl ⟨rfl, Z.tk⟩), _, rfl, W, _, _, 2, rfl, rfl, Z.hk _, by decide +kernel, by decide +kernel, _, _, rfl, rfl, na, _, _, _, rfl, rfl, SqT.of ena, rfl, q _ ⟨_, hneed, rfl⟩⟩
          · exact ⟨.inr (.inl ⟨rfl, Z.tk⟩), _, rfl, W, _, _, 0, rfl, rfl, Z.hk _, by decide +kernel, by decide +kernel, _, _, rfl, rfl, na, _, _, _, rfl, rfl, SqT.of ena, rfl, q _ ⟨_, hneed, rfl⟩⟩
end
end KaG


set_option maxRecDepth 100000
set_option maxHeartbeats 2000000
namespace KaG
open PySem PySem.Spec PyProof.Rows L2
abbrev sNumsAt : Stmt := top 14
theorem one_of {ks : List Kd} (nd : (ks.map Kd.name).Nodup) {k1 k2 : Kd} (h1 : k1 ∈ ks) (h2 : k2 ∈ ks) (e : k1.name = k2.name) : k1 = k2 := by
  obtain ⟨i, hi⟩ := List.getElem?_of_mem h1
  obtain ⟨j, hj⟩ := List.getElem?_of_mem h2
  have a1 : (ks.map Kd.name)[i]? = some k1.name := by rw [List.getElem?_map, hi]; rfl
  have a2 : (ks.map Kd.name)[j]? = some k1.name := by rw [List.getElem?_map, hj, e]; rfl
  have ij : i = j := (List.getElem?_inj (List.getElem?_eq_some_iff.mp a1).1 nd).mp (a1.trans a2.symm)
  subst ij
  rw [hi] at hj
  exact Option.some.inj hj
theorem needAt_one {ks : List Kd} (nd : (ks.map Kd.name).Nodup) {p : Plc} {x y : List V} (h1 : needAt ks p x) (h2 : needAt ks p y) : x = y := by
  obtain ⟨k1, m1, n1, g1, a1, b1⟩ := h1
  obtain ⟨k2, m2, n2, g2, a2, b2⟩ := h2
  have := one_of nd m1 m2 (n1.trans n2.symm)
  subst this
  rw [a1] at a2
  cases a2
  rw [b1] at b2
  exact Option.some.inj b2
/-- a dial has one number -/
theorem numOf_one {ks : List Kd} (nd : (ks.map Kd.name).Nodup) {d : Dial} {x y : Int} (h1 : numOf ks d x) (h2 : numOf ks d y) : x = y := by
  cases d with
  | nm n w =>
    obtain ⟨k1, m1, n1, e1⟩ := h1
    obtain ⟨k2, m2, n2, e2⟩ := h2
    have := one_of nd m1 m2 (n1.trans n2.symm)
    subst this
    rw [e1, e2]
  | pl p w =>
    obtain ⟨i1, a1, b1⟩ := h1
    obtain ⟨i2, a2, b2⟩ := h2
    have := needAt_one nd a1 a2
    subst this
    rw [b1] at b2
    exact V.int.inj (Option.some.inj b2)
section
variable {P : Program} {w : World} {K : PySem.W.Frag} {mg : Str → Option Value} {base : Heap}
theorem scNumsAt : FnScope ["rulebook", "dials", "dial"] ["rulebook", "dials"] (defScope sNumsAt) := ⟨rfl, rfl, rfl, by decide +kernel, rfl, by decide +kernel, by decide +kernel⟩
def spNumsAt : Sp := fun vs H Q _ => ∃ (b t : Addr) (rows : List Str) (ks : List Kd) (as : List Addr), vs = [.ref b, .ref t] ∧ BookAt H b rows ks ∧ BookOk rows ks ∧ H t = some (.tup (as.map V.ref)) ∧ DlsAt H ks as ∧ as.length ≤ 900 ∧
  ∀ (p : Addr) (zs : List Int) (H' : Hp), Same H H' → H p = none → H' p = some (.tup (zs.map V.int)) → Paired (fun a z => ∃ d, DlAt H a d ∧ numOf ks d z) as zs → Q (.ref p) H'
theorem ok_numsAt {f fN : Addr} {fd fdN : FuncData} (F : Fun K "numbers_at" "numbers_at" sNumsAt f fd) (T : TxtC mg) (C : Ct P w K mg base "_number_at" 3 ["rulebook", "dial"] spNumAt fN fdN) : FnOk P w K mg base CX0 4 f fd ["rulebook", "dials"] spNumsAt := by
  refine F.ok scNumsAt (fun vs H Q E h => ?_) (fun cdv A outer s H vs Q E hr h => ?_)
  · obtain ⟨b, t, rows, ks, as, rfl, _⟩ := h
    rfl
  · obtain ⟨b, t, rows, ks, as, rfl, hA, hO, et, hd, la, k⟩ := h
    have hr3 : Room 3 (A.deeper (envOfC "numbers_at" (defScope sNumsAt) s.heap.objs.size f cdv)) := hr
    refine ⟨_, pss_one (ps_ret (pe_callTy call_tuple_of (by rfl) T.tup (by decide +kernel) (pa_cons (pe_lc (own := [("dial", 2)]) (g := gName 2) (by rfl) scNumsAt.nd (pi_tup (pv 1))
      (blkOk_by (own := [("dial", 2)]) (N := ["rulebook", "dials", "dial"]) (sc := defScope sNumsAt) (by decide +kernel)) (fun _ _ _ _ _ => pg_name (i := 2) scNumsAt.nd rfl (Or.inl rfl)) (fun _ _ _ _ _ => pts_nil)
      (fun _ _ _ _ _ => pe_call C.G hr3 (by rfl) C.m C.kp C.b .nil pass0 (pa_cons (pv 0) (pa_cons (pv 2) pa_nil)))) pa_nil))), ?_⟩
    refine ⟨_, rfl, t, rfl, ⟨_, SqT.of et⟩, fun D hD => lc_tup (K := K) (a := t) (xs := as.map V.ref) (fun i G => Same H G ∧ ∃ zs : List Int, zs.length = i ∧ G D = some (.lst (zs.map V.int)) ∧ Paired (fun a z => ∃ d, DlAt H a d ∧ numOf ks d z) (as.take i) zs) ?_ ?_ ?_ ?_⟩
    · exact ⟨same_upd hD, [], rfl, upd_same, .nil⟩
    · rintro i G _ ⟨S, _⟩
      exact SqT.of (S _ _ et)
    · rintro i x G hx ⟨S, zs, zl, gD, pz⟩
      rw [List.getElem?_map] at hx
      obtain ⟨a, ha, rfl⟩ := Option.map_eq_some_iff.mp hx
      have hi : i < as.length := (List.getElem?_eq_some_iff.mp ha).1
      obtain ⟨d, ad, od⟩ := hd a (List.mem_of_getElem? ha)
      refine ⟨rfl, ?_⟩
      unfold tYes
      dsimp only
      refine iteT ⟨_, rfl, _, rfl, b, a, rows, ks, d, rfl, hA.ts (TSame.of S), hO, ad.ts (TSame.of S), od, fun z hz => ?_⟩
      refine ⟨_, gD, small1000 (by rw [List.length_map]; omega), fun b u e => by rw [upd_ne (ne_of_none e hD)]; exact S b u e, zs ++ [z], by rw [List.length_append, zl]; rfl, by rw [upd_same, List.map_append]; rfl, ?_⟩
      rw [List.take_add_one, ha]
      exact paired_snoc ⟨d, ad, hz⟩ pz
    · rintro G ⟨S, zs, zl, gD, pz⟩
      rw [List.length_map, List.take_length] at pz
      refine ⟨D, _, rfl, .inl ⟨SqL.of gD, fun p np => ?_⟩⟩
      refine k p zs _ (KaG.Same.tr S (same_upd np)) ?_ upd_same pz
      cases e : H p with
      | none => rfl
      | some u => rw [S _ _ e] at np; cases np
end
end KaG


set_option maxRecDepth 100000
set_option maxHeartbeats 4000000
namespace KaG
open PySem PySem.Spec PyProof.Rows L2 KaC
section
variable {P : Program} {w : World} {K : PySem.W.Frag} {mg : Str → Option Value} {base : Heap}
abbrev nmNB : List Str := ["rulebook", "dial", "kinds", "where", "word", "need"]
theorem scNB : FnScope nmNB ["rulebook", "dial"] (defScope sNumberAt) := ⟨rfl, rfl, rfl, by decide +kernel, rfl, by decide +kernel, by decide +kernel⟩
def spNumberAt : Sp := fun vs H Q _ => ∃ (b a : Addr) (rows : List Str) (ks : List Kd) (d : Dial), vs = [.ref b, .ref a] ∧ BookAt H b rows ks ∧ BookOk rows ks ∧ DlAt H a d ∧ DialOk ks d ∧ ∀ (z : Int) (H' : Hp), Same H H' → numOf ks d z → Q (.int z) H'
theorem ok_numberAt {f fK : Addr} {fd fdK : FuncData} (F : Fun K "_law_number_at" "_law_number_at" sNumberAt f fd) (T : TxtC mg) (hstr : mg "str" = none) (CK : Ct P w K mg base "_law_kinds" 1 ["rulebook"] spKinds fK fdK) : FnOk P w K mg base CX0 2 f fd ["rulebook", "dial"] spNumberAt := by
  refine F.ok scNB (fun vs H Q E h => ?_) (fun cdv A outer s H vs Q E hr h => ?_)
  · obtain ⟨b, a, rows, ks, d, rfl, _⟩ := h
    rfl
  · obtain ⟨b, a, rows, ks, d, rfl, hA, hO, hd, ho, q⟩ := h
    have u1 : (A.deeper (envOfC "_law_number_at" (defScope sNumberAt) s.heap.objs.size f cdv)).units + 1 < cLine := by have := hr.3; omega
    refine ⟨_, (pss_cons (ps_asg (pe_tup (pa_cons (pe_call CK.G hr (by rfl) CK.m CK.kp CK.b .nil pass0 (pa_cons (pv 0) pa_nil)) (pa_cons (pv 1) pa_nil))) (pg_tup (by rfl) (pgs_cons (pg_name (i := 2) scNB.nd rfl (Or.inl rfl)) (pgs_cons (pg_tup (by rfl) (pgs_cons (pg_name (i := 3) scNB.nd rfl (Or.inl rfl)) (pgs_cons (pg_name (i := 4) scNB.nd rfl (Or.inl rfl)) pgs_nil))) pgs_nil))))
      (pss_cons (ps_if (pt_val (pe_callB call_isi (by rfl) T.b.isin (by decide +kernel) (pa_cons (pv 3) (pa_cons (pe_bltn (v := .ty "str") (by rfl) hstr (by decide +kernel) rfl) pa_nil))))
        (pss_one (ps_ret (pe_ix ix_tup (pe_dget u1 (pv 2) (pv 3) (fun _ _ => rfl)) (pe_ifExp (pt_cmpR op_eq (pv 4) pe_str (nomark _)) pe_int pe_int) (fun _ _ => rfl)))) pss_nil)
      (pss_cons (ps_set (i := 5) scNB.nd rfl (Or.inl rfl) (pe_ix ix_tup (pe_ix ix_tup (pe_ix ix_tup (pe_dget u1 (pv 2) (pe_ix (r := rIxT K) ix_tup (pv 3) pe_int (fun _ _ => rfl)) (fun _ _ => rfl)) pe_int (fun _ _ => rfl)) (pe_ix ix_tup (pv 3) pe_int (fun _ _ => rfl)) (fun _ _ => rfl)) (pe_ix ix_tup (pv 3) pe_int (fun _ _ => rfl)) (fun _ _ => rfl)))
      (pss_one (ps_ret (pe_ix ix_tup (pv 5) (pe_dget u1 (pe_disp (pps_cons pe_str pe_int
        (pps_cons pe_str (pe_op op_sub (pe_callB (id := "len") (r := rLenOf K) call_lenOf (by rfl) T.b.len PySem.boot_len (pa_cons (pv 5) pa_nil)) pe_int)
        (pps_cons pe_str (pe_op op_sub (pe_callB (id := "len") (r := rLenOf K) call_lenOf (by rfl) T.b.len PySem.boot_len (pa_cons (pv 5) pa_nil)) pe_int) pps_nil))) rfl rfl (by decide) (by decide)) (pv 4) (fun _ _ => rfl)) (fun _ _ => rfl))))))), ?_⟩
    have sz : ∀ {m : Nat}, m ≤ 900 → m ≤ sizeLine := fun h => Nat.le_of_lt (small1000 (by omega))
    have ndn := hO.nm.nd
    have hk5 := hO.k5
    obtain ⟨r, kt, kas, e1, e2, e3, pk⟩ := id hA
    refine ⟨_, rfl, b, rows, ks, kas, rfl, hA, ⟨r, kt, e1, e3⟩, by omega, ndn, fun kd H1 s1 nkd ekd => ?_⟩
    refine ⟨_, rfl, sz (by show 2 ≤ 900; decide), fun t nt => ?_⟩
    have s2 := KaG.Same.tr s1 (same_upd (o := .tup [.ref kd, .ref a]) nt)
    have ekd2 := same_upd (o := .tup [.ref kd, .ref a]) nt _ _ ekd
    have et : upd H1 t (.tup [.ref kd, .ref a]) t = some (.tup [.ref kd, .ref a]) := upd_same
    generalize upd H1 t (.tup [.ref kd, .ref a]) = H2 at s2 ekd2 et ⊢
    have hB := hA.ts (TSame.of s2)
    cases d with
    | nm n w =>
      obtain ⟨mn, hw⟩ := ho
      obtain ⟨k, mk, kn⟩ := List.mem_map.mp mn
      obtain ⟨i, hi⟩ := List.getElem?_of_mem mk
      obtain ⟨ka, hka, gt, gas, f1, f2, f3⟩ := paired_at2 pk hi
      have hl : ks.length ≤ kas.length := by rw [paired_len pk]; exact Nat.le_refl _
      have ev := kvs_at ndn hl hi hka
      refine ⟨t, _, rfl, SqT.of et, by rfl, _, _, rfl, _, _, rfl, a, _, rfl, SqT.of (s2 _ _ hd), by rfl, _, _, rfl, _, _, rfl, rfl, rfl, ?_⟩
      refine ⟨_, rfl, _, _, _, _, true, rfl, .ty _, .base (.str n), kit_ty (by decide +kernel), true, rfl, ?_⟩
      refine ifT rfl ?_
      rw [← kn]
      refine ⟨_, rfl, _, rfl, kd, .ref ka, rfl, by rw [← ev]; exact DGet.k (k := Sum.inr k.name) ekd2, ?_⟩
      refine ⟨_, rfl, rfl, _, rfl, ?_⟩
      rcases hw with rfl | rfl
      · exact ifT (by decide +kernel) ⟨ka, _, 1, _, rfl, rfl, SqT.of (s2 _ _ f1), rfl, q _ _ s2 ⟨k, mk, kn, by rw [if_pos rfl]⟩⟩
      · exact ifF (by decide +kernel) ⟨ka, _, 2, _, rfl, rfl, SqT.of (s2 _ _ f1), rfl, q _ _ s2 ⟨k, mk, kn, by rw [if_neg (by decide +kernel)]⟩⟩
    | pl p w =>
      obtain ⟨q0, h1, h2⟩ := hd
      obtain ⟨its, hneed, hw⟩ := ho
      have nv : NeedV rows (ks.map Kd.name) its := by
        obtain ⟨k0, mk0, _, g0, hg0, hn0⟩ := hneed
        exact (hO.grd k0 mk0 g0 (List.mem_of_getElem? hg0)).2.2 its (List.mem_of_getElem? hn0)
      refine ⟨t, _, rfl, SqT.of et, by rfl, _, _, rfl, _, _, rfl, a, _, rfl, SqT.of (s2 _ _ h1), by rfl, _, _, rfl, _, _, rfl, rfl, rfl, ?_⟩
      refine ⟨_, rfl, _, _, _, _, false, rfl, .ty _, .base (.tup (s2 _ _ h2)), kit_ty (by decide +kernel), false, rfl, ?_⟩
      refine ifF rfl ?_
      obtain ⟨ka, gt, gas, ga, nas, na, kk, ev, f1, f2, f3, f4, f5, f6⟩ := need_reach hB ⟨r, kt, s2 _ _ e1, s2 _ _ e3⟩ ndn hneed
      have g2 := s2 _ _ h2
      refine ⟨_, rfl, _, rfl, q0, _, 0, .str p.1, rfl, rfl, SqT.of g2, rfl, kd, .ref ka, rfl, by rw [← ev]; exact DGet.k (k := Sum.inr p.1) ekd2, ka, _, 3, .ref gt, rfl, rfl, SqT.of f1, rfl, _, rfl, q0, _, 1, .int (p.2.1 : Int), rfl, rfl, SqT.of g2, rfl, gt, _, _, .ref ga, rfl, rfl, SqT.of f2, atI_nat (by rw [List.getElem?_map, f3]; rfl), _, rfl, q0, _, 2, .int (p.2.2 : Int), rfl, rfl, SqT.of g2, rfl, ga, _, _, .ref na, rfl, rfl, SqT.of f4, atI_nat (by rw [List.getElem?_map, f5]; rfl), ?_⟩
      refine ⟨_, rfl, fun dd hdd => ?_⟩
      have s3 := same_upd (o := .dK []) hdd
      have f6' := s3 _ _ f6
      refine ⟨_, rfl, na, _, rfl, .inr (SqT.of f6'), _, _, rfl, rfl, _, rfl, na, _, rfl, .inr (SqT.of f6'), _, _, rfl, rfl, upd_same, [(Sum.inr "after", .int 2), (Sum.inr "tell", .int (its.length - 2)), (Sum.inr "most", .int (its.length - 1))], rfl, by show 3 ≤ 15; decide, ?_⟩
      have S5 : Same H (upd (upd H2 dd (.dK [])) dd (.dK (mergeK [] [((Sum.inr "after" : Key), V.int 2), (Sum.inr "tell", .int ((its.length : Int) - 2)), (Sum.inr "most", .int ((its.length : Int) - 1))]))) := fun x u e => by
        have y := s2 _ _ e
        rw [upd_ne (ne_of_none y hdd), upd_ne (ne_of_none y hdd)]
        exact y
      have g6 : (upd (upd H2 dd (.dK [])) dd (.dK (mergeK [] [((Sum.inr "after" : Key), V.int 2), (Sum.inr "tell", .int ((its.length : Int) - 2)), (Sum.inr "most", .int ((its.length : Int) - 1))]))) na = some (.tup its) := by
        rw [upd_ne (ne_of_none f6 hdd)]; exact f6'
      cases nv with
      | row n t m h t0 t4 m0 m9 =>
        rcases hw with rfl | rfl | ⟨rfl, hq⟩
        · exact ⟨_, rfl, dd, .int 2, rfl, DGet.k (k := Sum.inr "tell") upd_same, na, _, 2, .int t, rfl, rfl, SqT.of g6, rfl, q _ _ S5 ⟨_, hneed, rfl⟩⟩
        · exact ⟨_, rfl, dd, .int 3, rfl, DGet.k (k := Sum.inr "most") upd_same, na, _, 3, .int m, rfl, rfl, SqT.of g6, rfl, q _ _ S5 ⟨_, hneed, rfl⟩⟩
        · cases hq
      | kind n a0 t m h a1 a9 t0 t4 m0 m9 =>
        rcases hw with rfl | rfl | ⟨rfl, hq⟩
        · exact ⟨_, rfl, dd, .int 3, rfl, DGet.k (k := Sum.inr "tell") upd_same, na, _, 3, .int t, rfl, rfl, SqT.of g6, rfl, q _ _ S5 ⟨_, hneed, rfl⟩⟩
        · exact ⟨_, rfl, dd, .int 4, rfl, DGet.k (k := Sum.inr "most") upd_same, na, _, 4, .int m, rfl, rfl, SqT.of g6, rfl, q _ _ S5 ⟨_, hneed, rfl⟩⟩
        · exact ⟨_, rfl, dd, .int 2, rfl, DGet.k (k := Sum.inr "after") upd_same, na, _, 2, .int a0, rfl, rfl, SqT.of g6, rfl, q _ _ S5 ⟨_, hneed, rfl⟩⟩
end
end KaG


set_option maxRecDepth 100000
set_option maxHeartbeats 4000000
namespace KaG
open PySem PySem.Spec PyProof.Rows L2 KaC
/-- what a first clause `except x as n` that takes all that comes wishes of it -/
def wA (K : PySem.W.Frag) (c : Value) (i : Nat) (ts : Addr → Value → Option Addr → TS) (D : Ends) : WX := fun cls d σ H =>
  PySem.W.exmOne K cls c = some true ∧ ∀ a, H a = none → ts a cls d ⟨fun τ G => D.nx (τ.set i none) G, D.rt, fun τ G => D.bk (τ.set i none) G, fun τ G => D.ct (τ.set i none) G⟩ (σ.set i (some (.ref a))) H
section
variable {X : Cx} {x n : Str} {c : Value} {i : Nat}
/-- the first of several clauses takes all that comes: the others are never asked -/
theorem ps_try_first {more : List ExceptHandler} {body suite : List Stmt} {b0 : Stmt} {p1 p2 p3 : Pos} {tb : WX → TS} {ts : Addr → Value → Option Addr → TS} (hs : X.stack = X.env :: X.outer) (hf : X.env.frame = some X.env.locals)
    (hN : X.N.Nodup) (hi : X.N[i]? = some n) (hl : X.env.kindOf n = some .local) (hc : Names X x c)
    (hb : ∀ (W : WX) (q : List (Addr × Obj)) (xe : Value → Shared → Prop), Takes (X.tr q xe) W → PassesOwn (model X.prog X.w) X.A X.env xe → PSs (X.tr q xe) body (tb W))
    (hq : ∀ (a : Addr) (o : Obj) (cls : Value) (d : Option Addr) (q : List (Addr × Obj)), Zc cls d o → (∃ vs, o.data = .fields vs) → PSs (X.suite a ((a, o) :: q)) (b0 :: suite) (ts a cls d)) :
    PS X (.Try body (.ExceptHandler (some (.Name x p1)) (some n) (b0 :: suite) p2 :: more) [] [] p3) (fun D σ H => tb (wA X.K c i ts D) D σ H) := by
  constructor
  intro pins s σ H D I hw
  have ok := I.ok
  have fr : X.A.frames = some (X.env :: X.outer) := ok.frames.trans (congrArg some hs)
  apply wpAny_Try_except
  refine wpAny_mono (PSs.run (hb (wA X.K c i ts D) (X.pn ++ pins) _ ?land PassesOwn.looking) [] s σ H D (I.toTry _) hw) (fun f s1 q => ?ends) (fun _ _ q => q)
  case ends =>
    cases f with
    | next => exact let ⟨σ1, H1, J, q1⟩ := q; wpAny_execs_nil ⟨σ1, H1, J.ofTry ok, q1⟩
    | brk => exact let ⟨σ1, H1, J, q1⟩ := q; ⟨σ1, H1, J.ofTry ok, q1⟩
    | cont => exact let ⟨σ1, H1, J, q1⟩ := q; ⟨σ1, H1, J.ofTry ok, q1⟩
    | ret u => exact let ⟨v, σ1, H1, J, r, q1⟩ := q; ⟨v, σ1, H1, J.ofTry ok, r, q1⟩
  case land =>
    rintro u s1 ⟨a, B, s0, ps, σ1, H1, cls, d, rfl, J0, nb, up, sk, na, os, ag, yes, go⟩
    have J : Inv X pins σ1 H1 s0 := J0.ofTry ok
    rw [show (X.tr _ _).stack = X.env :: X.outer from hs] at sk
    change wpAny _ X.A (noteFrame (.ref a) X.env) _ _ _
    refine Sky.land Zc.steady fr hf sk fun h3 fl u3 => ?_
    have J3 : Inv X pins σ1 H1 { s1 with heap := h3 } := J.landed nb fl.1 (up.trans u3) os ag
    obtain ⟨oe, vs, g3, z3, d3⟩ := fl.there
    have out : a ∉ frs (X.env :: X.outer) := by
      intro m
      obtain ⟨_, o, g, hn⟩ := fl.2.2.1.mem m
      cases g3.symm.trans g
      exact hn _ d3
    have o1 : a ≠ X.env.locals := by
      rintro rfl
      exact out (List.mem_filterMap.mpr ⟨X.env, List.mem_cons_self, hf⟩)
    have o2 : a ∉ X.fs := by
      intro m
      obtain ⟨e, me, q⟩ := List.mem_filterMap.mp m
      exact out (List.mem_filterMap.mpr ⟨e, List.mem_cons_of_mem _ me, q⟩)
    have S3 := J3.suite g3 d3 na o1 o2
    have LM := PySem.W.exm_one (M := model X.prog X.w) J3.kIn (fun A Q E s k q => wpAny_typeOf_ref (k _ _ g3) (by rw [z3.1]; exact q)) yes
    have look : ∀ {Q E : Value → Shared → Prop}, Q c { s1 with heap := h3 } → wpAny (model X.prog X.w) (X.A.mark (some (.ref a))) (eval (.Name x p1) X.env) Q E { s1 with heap := h3 } := by
      intro Q E q
      rcases hc with ⟨hg, hd, hm | ⟨hm, hv, hn⟩⟩
      · exact ld_glob (X := X.suite a ((a, oe) :: (X.pn ++ pins))) S3 hg hm q hd
      · exact ld_blt (X := X.suite a ((a, oe) :: (X.pn ++ pins))) S3 hg hm hv q hn hd
    refine wpAny_handleBy_cons (codeAny_handlers_test (look (LM.here ?_))) (by intro z; cases z)
    refine codeAny_handlers_suite_as (HandSPX.lands_againZ fl fun h4 fl4 u4 => ?_)
    have J4 : Inv X pins σ1 H1 { s1 with heap := h4 } := J.landed nb fl4.1 ((up.trans u3).trans u4) os ag
    obtain ⟨o4, vs4, g4, z4, d4⟩ := fl4.there
    refine store_ok (X := X.suite a ((a, o4) :: (X.pn ++ pins))) (v := .ref a) (J4.suite g4 d4 na o1 o2) hN hi (.inl hl) rfl (fun s5 S5 => ?_) (.inr hl)
    refine wpAny_mono (PSs.run (hq a o4 cls d (X.pn ++ pins) z4 ⟨_, d4⟩) [] s5 _ H1 _ S5 (go a na)) (fun f s6 q => ?_) (fun _ _ z => z.elim)
    cases f with
    | next => exact let ⟨τ, G, S6, q6⟩ := q; gone_ok (S6.unsuite ok) hN hi hl fun s7 J7 => ⟨_, _, J7, q6⟩
    | brk => exact let ⟨τ, G, S6, q6⟩ := q; gone_ok (S6.unsuite ok) hN hi hl fun s7 J7 => ⟨_, _, J7, q6⟩
    | cont => exact let ⟨τ, G, S6, q6⟩ := q; gone_ok (S6.unsuite ok) hN hi hl fun s7 J7 => ⟨_, _, J7, q6⟩
    | ret u => exact let ⟨v, τ, G, S6, r6, q6⟩ := q; gone_ok (S6.unsuite ok) hN hi hl fun s7 J7 => ⟨_, _, _, J7, r6, q6⟩
end
end KaG


set_option maxRecDepth 100000
set_option maxHeartbeats 4000000
namespace KaG
open PySem PySem.Spec PyProof.Rows L2 KaC
section
variable {H : Hp} {CW CW' : Addr} {NW NW' : Str}
theorem in_listText {ts : List Str} {t : Str} (m : t ∈ ts) : t.length ≤ (listText ts).length := by
  have h := (textFrom_len ts 0 "[").2.1 t m
  show t.length ≤ (textFrom 0 "[" ts ++ "]").length
  rw [strLen_append]
  omega
theorem in_piled : ∀ {ts : List Str} {t : Str}, t ∈ ts → t.length ≤ piled ts
  | x :: r, t, m => by
    rw [piled_cons]
    rcases List.mem_cons.mp m with z | z
    · rw [z]; omega
    · have := in_piled z; omega
theorem in_dictText {ts : List Str} {t : Str} (m : t ∈ ts) : t.length ≤ (dictText ts).length := Nat.le_trans (in_piled m) (piled_le_dictText ts)
theorem in_tupleText {ts : List Str} {t : Str} (m : t ∈ ts) : t.length ≤ (tupleText ts).length := by
  have h1 := join_length_add ts (List.ne_nil_of_mem m)
  have h2 : t.length + 2 ≤ piled ts := by
    clear h1
    induction ts with
    | nil => cases m
    | cons x r ih =>
      rw [piled_cons]
      rcases List.mem_cons.mp m with z | z
      · rw [z]; omega
      · have := ih z; omega
  unfold tupleText
  rw [strLen_append, strLen_append]
  omega
mutual
theorem Sh.safe (hN : 200 < NW.length) {as : List Addr} {d : Nat} {v : V} {t : Str} : Sh H CW NW as d v t → t.length ≤ 200 → Sh H CW' NW' as d v t
  | .non, _ => .non
  | .bl b, _ => .bl b
  | .int i h, _ => .int i h
  | .str x, _ => .str x
  | .lst e a b c i, l => .lst e a b c (ShA.safe hN i fun t m => Nat.le_trans (in_listText m) l)
  | .tup e a b c i, l => .tup e a b c (ShA.safe hN i fun t m => Nat.le_trans (in_tupleText m) l)
  | .dct e a b c i, l => .dct e a b c (ShD.safe hN i fun t m => Nat.le_trans (in_dictText m) l)
  | .exc _ _ _ _ _ _ _, l => by
    simp only [strLen_append] at l
    omega
theorem ShA.safe (hN : 200 < NW.length) {as : List Addr} {d : Nat} {vs : List V} {ts : List Str} : ShA H CW NW as d vs ts → (∀ t ∈ ts, t.length ≤ 200) → ShA H CW' NW' as d vs ts
  | .nil, _ => .nil
  | .cons h r, l => .cons (Sh.safe hN h (l _ (List.mem_cons_self ..))) (ShA.safe hN r fun t m => l t (List.mem_cons_of_mem _ m))
theorem ShD.safe (hN : 200 < NW.length) {as : List Addr} {d : Nat} {kvs : List (Key × V)} {ps : List Str} : ShD H CW NW as d kvs ps → (∀ t ∈ ps, t.length ≤ 200) → ShD H CW' NW' as d kvs ps
  | .nil, _ => .nil
  | .cons h r, l => .cons (Sh.safe hN h (by
      have z := l _ (List.mem_cons_self ..)
      rw [strLen_append] at z
      omega)) (ShD.safe hN r fun t m => l t (List.mem_cons_of_mem _ m))
end
/-- what stands behind a value: one of the plain kinds -/
inductive Pln (H : Hp) : V → Prop
  | non : Pln H .non
  | bl (b : Bool) : Pln H (.bl b)
  | int (i : Int) : Pln H (.int i)
  | str (x : Str) : Pln H (.str x)
  | lst {a : Addr} {xs : List V} (e : H a = some (.lst xs)) : Pln H (.ref a)
  | tup {a : Addr} {xs : List V} (e : H a = some (.tup xs)) : Pln H (.ref a)
  | dct {a : Addr} {kvs : List (Key × V)} (e : H a = some (.dK kvs)) : Pln H (.ref a)
theorem Sh.pln (hN : 200 < NW.length) {as : List Addr} {d : Nat} {v : V} {t : Str} (h : Sh H CW NW as d v t) (l : t.length ≤ 200) : Pln H v := by
  cases h with
  | non => exact .non
  | bl b => exact .bl b
  | int i h => exact .int i
  | str x => exact .str x
  | lst e => exact .lst e
  | tup e => exact .tup e
  | dct e => exact .dct e
  | exc =>
    simp only [strLen_append] at l
    omega
end
section
variable {A : Around} {s : Shared}
theorem str_dict_decl (b : Str) (u : Tok) (l : Addr) (es : _) (n : _) (dd : Option Addr) (sl : Array (Option Value)) :
    Meets (Builtin.«str.__eq__» ⟨[.str b u, .ref l], []⟩) (fun _ R s => s.heap.get? l = some { cls := .type "dict", dict := dd, data := .dict es n, slots := sl } ∧ R (.ok (.ret .notImplemented)) s) := by
  refine .of_wp fun prog w A R s h => ?_
  obtain ⟨hp, g, d, tk, os⟩ := s
  obtain ⟨hl, h⟩ := h
  wp_walk using wpAny_loadPart' hl, wpAny_load hl
  exact ⟨_, rfl, h⟩
theorem dict_str_decl (b : Str) (u : Tok) (l : Addr) (es : _) (n : _) (dd : Option Addr) (sl : Array (Option Value)) :
    Meets (Builtin.«dict.__eq__» ⟨[.ref l, .str b u], []⟩) (fun _ R s => s.heap.get? l = some { cls := .type "dict", dict := dd, data := .dict es n, slots := sl } ∧ R (.ok (.ret .notImplemented)) s) := by
  refine .of_wp fun prog w A R s h => ?_
  obtain ⟨hp, g, d, tk, os⟩ := s
  obtain ⟨hl, h⟩ := h
  wp_walk using wpAny_loadPart' hl, wpAny_load hl
  refine wpAny_of_eq PySem.F.sub_str_dict ?_
  wp_walk
  exact ⟨_, rfl, h⟩
theorem rc_str_dict {l : Addr} {o : Obj} {es : _} {n : _} (b : Str) (u : Tok) (ho : s.heap.get? l = some o) (hc : o.cls = .type "dict") (hd : o.data = .dict es n) (hu : A.units < cLine) : SeqAt.RcAt A s (.str b u) (.ref l) false := fun prog w E Q h => by
  obtain ⟨cls, dd, data, sl⟩ := o
  cases hc
  cases hd
  refine SeqAt.rc_eq_decline_or (k := false) (typeIs_str s b u) ⟨_, ho, rfl⟩ (by decide) PySem.F.sub_dict_str PySem.F.slot_str_eq PySem.F.slot_dict_eq_refl
    (fun _ hq => call_meets PySem.F.slot_str_eq (typeIs_str s b u) PySem.F.entry_str_eq (PySem.F.args_str_eq_2 _ _) (str_dict_decl b u l es n dd sl) ⟨ho, hq⟩)
    (fun _ hq => ?_) (fun _ hq => wpAny_of_eq (rfl : isSame (.str b u) (.ref l) = pure false) hq) (.inr hu) h
  exact call_meets PySem.F.slot_dict_eq_refl ⟨_, ho, rfl⟩ PySem.F.entry_dict_eq (PySem.F.args_dict_eq_2 _ _) (dict_str_decl b u l es n dd sl) ⟨ho, hq⟩
end
end KaG


set_option maxRecDepth 100000
set_option maxHeartbeats 4000000
namespace KaG
open PySem PySem.Spec PyProof.Rows L2 KaC
section
variable {X : Cx}
/-- a text == any plain value -/
def rEqS : R2 := fun x y H Q => ∃ n, x = .str n ∧ Pln H y ∧ Q (.bl (decide (y = .str n))) H
theorem op_eqS (hu : X.A.units + 64 < cLine) : OpR X (compareOp .Eq) rEqS := by
  intro pins s σ H x y v u Q I rx ry h
  obtain ⟨n, rfl, hp, q⟩ := h
  have off : (∀ w : V, y ≠ .str n → (decide (y = .str n)) = false) := fun w z => decide_eq_false z
  have flat : scal (.str n) y = true → wpAny (model X.prog X.w) X.A (compareOp .Eq v u) (EP X pins σ Q) X.xe s := fun hk => by
    refine op_eq pins s σ H _ _ v u Q I rx ry ⟨hk, ?_⟩
    rw [show decide ((V.str n) = y) = decide (y = .str n) from decide_eq_decide.mpr ⟨fun z => z.symm, fun z => z.symm⟩]
    exact q
  obtain ⟨tk, e⟩ := (show ∃ t, v = Value.str n t from rx)
  subst e
  cases hp with
  | non => exact flat rfl
  | bl b => exact flat rfl
  | int i => exact flat rfl
  | str z => exact flat rfl
  | @lst a xs e =>
    cases (show u = Value.ref a from ry)
    obtain ⟨us, r1, p1, _⟩ := I.list (SqL.of e)
    exact SeqAt.RcAt.str_list n tk p1.isList (by omega) _ _ _ _ ⟨.bl false, H, I, rfl, q⟩
  | @tup a xs e =>
    cases (show u = Value.ref a from ry)
    obtain ⟨_, its, rv, o, ho, hc, m, hd'⟩ := (show ObjOk X.prog X.w H s.heap a (.tup xs) from I.hok a _ e)
    have it : s.heap.IsTuple a its.toArray := ⟨o, ho, hc, m, hd'⟩
    exact SeqAt.RcAt.str_tuple n tk it (by omega) _ _ _ _ ⟨.bl false, H, I, rfl, q⟩
  | @dct a kvs e =>
    cases (show u = Value.ref a from ry)
    obtain ⟨_, hsys, vs, kv, o, es, ep, ho, hx, hd', _, hp, _⟩ := (show ObjOk X.prog X.w H s.heap a (.dK kvs) from I.hok a _ e)
    exact rc_str_dict n tk ho hx.1 hd' (by omega) _ _ _ _ ⟨.bl false, H, I, rfl, q⟩
end
end KaG


set_option maxRecDepth 100000
set_option maxHeartbeats 4000000
namespace KaG
open PySem PySem.Spec PyProof.Rows L2 KaC
section
variable {X : Cx}
theorem ps_nox {st : Stmt} {t : TS} (h : PS X.nox st t) : PS X st t := ⟨fun pins s σ H D I w => wpAny_mono (h.run pins s σ H D (I.wish _) w) (fun _ _ q => q.unwish) (fun _ _ z => z.elim)⟩
end
/-- the one store of an own exception's __init__ -/
def spRz1 (K : PySem.W.Frag) (f : Str) (C : Addr) : Sp := fun vs H Q _ => ∃ (a : Addr) (v : V), vs = [.ref a, v] ∧ H a = some (exo a C none) ∧ OexC K C ∧ PySem.W.findIn K (.ref C) f = some none ∧
  ∀ dx, H dx = none → dx ≠ a → Q .non (upd (upd H dx (exd dx [(f, v)])) a (exo a C (some dx)))
theorem mk_same {H : Hp} {a C dx : Addr} {fs : List (Str × V)} (n1 : H a = none) (n2 : upd H a (exo a C none) dx = none) (ne : dx ≠ a) (o : HO) : Same H (upd (del (upd (upd (upd H a (exo a C none)) dx o) a (exo a C (some dx))) a) dx (.xd fs)) := fun b u e => by
  rw [upd_ne ne] at n2
  rw [upd_ne (ne_of_none e n2), del_ne (ne_of_none e n1), upd_ne (ne_of_none e n1), upd_ne (ne_of_none e n2), upd_ne (ne_of_none e n1)]
  exact e
section
variable {P : Program} {w : World} {K : PySem.W.Frag} {mg : Str → Option Value} {base : Heap}
theorem ok_rz1 {f : Str} {C : Addr} {qual : Str} {st : Stmt} {fI : Addr} {fd : FuncData} {p1 p2 p3 p4 : Pos} (F : Fun K "__init__" qual st fI fd) (sc : FnScope ["self", f] ["self", f] (defScope st)) (hb : defBody st = [.Assign [.Attribute (.Name "self" p1) f p2] (.Name f p3) p4])
    (h1 : (f == ("__debug__" : Str)) = false) (h2 : (f == ("__classdict__" : Str)) = false) : FnOk P w K mg base CX0 1 fI fd ["self", f] (spRz1 K f C) := by
  refine F.ok sc (fun vs H Q E h => ?_) (fun cdv A outer s H vs Q E hr h => ?_)
  · obtain ⟨a, v, rfl, _⟩ := h
    rfl
  · obtain ⟨a, v, rfl, ea, T, nf, k⟩ := h
    rw [hb]
    have vis : ∀ x, x ∈ (["self", f] : List Str) → Vis (defScope st) x := fun x m => (sc.par x m).elim .inl fun z => .inr (.inl z)
    refine ⟨_, pss_one (ps_ost (pe_var (i := 0) rfl (vis _ (by simp))) (pe_var (i := 1) rfl (vis _ (by simp)) h1 h2)), ?_⟩
    exact ⟨_, rfl, _, rfl, a, C, rfl, T, nf, .inl ⟨ea, fun dx n ne => k dx n ne⟩⟩
/-- what is told of the class NoKind -/
structure NkT (P : Program) (w : World) (K : PySem.W.Frag) (mg : Str → Option Value) (base : Heap) (C fI : Addr) (fd : FuncData) : Prop where
  m : mg "NoKind" = some (.ref C)
  o : OexC K C
  xf : XfC K C
  nf : PySem.W.findIn K (.ref C) "name" = some none
  iC : PySem.W.findIn K (.ref C) "__init__" = some (some (.ref fI))
  tI : PySem.W.typeIn K (.ref fI) = some (.type "function")
  G : FnOk P w K mg base CX0 1 fI fd ["self", "name"] (spRz1 K "name" C)
  b : Binds K fd ["self", "name"] []
  te : PySem.W.exmOne K (.ref C) (.ref C) = some true
/-- kind_of, of any plain value -/
def spKindX (C : Addr) : Sp := fun vs H Q E => ∃ (b : Addr) (rows : List Str) (ks : List Kd) (kas : List Addr) (v : V), vs = [.ref b, v] ∧ BookAt H b rows ks ∧ KasOf H b kas ∧ (ks.map Kd.name).Nodup ∧ Pln H v ∧
  (∀ (i : Nat) (k : Kd) (ka : Addr), ks[i]? = some k → kas[i]? = some ka → v = .str k.name → Q (.ref ka) H) ∧
  ((∀ k ∈ ks, v ≠ .str k.name) → ∀ (dx : Addr) (H' : Hp), Same H H' → H dx = none → H' dx = some (.xd [("name", v)]) → E (.ref C) (some dx) H')
theorem ok_kindX {C fI : Addr} {f : Addr} {fdI fd : FuncData} (F : Fun K "kind_of" "kind_of" sKindOf f fd) (N : NkT P w K mg base C fI fdI) : FnOk P w K mg base (L2.CX P w) 3 f fd ["rulebook", "name"] (spKindX C) := by
  refine F.okX scKindOf (fun vs H Q E h => ?_) (fun cdv A outer s H vs Q E hr h => ?_)
  · obtain ⟨b, rows, ks, kas, v, rfl, _⟩ := h
    rfl
  · obtain ⟨b, rows, ks, kas, v, rfl, hA, hK, nd, hp, q, qe⟩ := h
    have hu : (A.deeper (envOfC "kind_of" (defScope sKindOf) s.heap.objs.size f cdv)).units + 64 < cLine := by have := hr.3; omega
    refine ⟨_, (pss_cons (ps_nox (ps_for PassesOwn.never rfl (pi_tup (pe_ix ix_tup (pv 0) pe_int (fun _ _ => rfl))) (pg_name (i := 2) scKindOf.nd rfl (Or.inl rfl)) (pss_one (ps_if (pt_cmpR (op_eqS hu) (pe_ix ix_tup (pv 2) pe_int (fun _ _ => rfl)) (pv 1) (nomark _)) (pss_one (ps_ret (pv 2))) pss_nil))))
      (pss_one (ps_raise rfl (takes_of rfl rfl rfl rfl) (pmk_oex N.o N.iC N.tI N.G hr N.b .nil pass0 (by rfl) N.m (pa_cons (pv 1) pa_nil))))), ?_⟩
    obtain ⟨r, kt, kas', e1, e2, e3, pk⟩ := id hA
    obtain ⟨r', kt', g1, g2⟩ := hK
    rw [e1] at g1
    cases g1
    rw [e3] at g2
    obtain rfl : kas' = kas := refs_inj (HO.tup.inj (Option.some.inj g2))
    have hlen := paired_len pk
    refine ⟨_, rfl, b, _, 1, .ref kt, rfl, rfl, SqT.of e1, rfl, kt, rfl, ⟨_, SqT.of e3⟩, for_tup (K := K) (a := kt) (xs := kas'.map V.ref) (fun j σ' G => G = H ∧ (∀ k ∈ (ks.take j : List Kd), v ≠ .str k.name) ∧ ∃ x2 : Option V, σ' = [some (.ref b), some v, x2]) ?_ ?_ ?_ ?_⟩
    · exact ⟨rfl, (fun _ z => nomatch z), _, rfl⟩
    · rintro j σ' G _ ⟨rfl, _⟩
      exact SqT.of e3
    · rintro j x σ' G hx ⟨rfl, hj, x2, rfl⟩
      rw [List.getElem?_map] at hx
      obtain ⟨a, ha, rfl⟩ := Option.map_eq_some_iff.mp hx
      obtain ⟨kd, hkd, gt, gas, f1, _⟩ := paired_at pk ha
      refine ⟨_, rfl, a, _, 0, .str kd.name, rfl, rfl, SqT.of f1, rfl, _, rfl, kd.name, rfl, hp, _, rfl, ite2 (fun hc => ?_) fun hc => ?_⟩
      · exact ⟨_, rfl, q j kd a hkd ha (of_decide_eq_true hc)⟩
      · refine ⟨rfl, fun k m => ?_, _, rfl⟩
        rw [List.take_add_one, hkd] at m
        rcases List.mem_append.mp m with z | z
        · exact hj k z
        · rw [List.mem_singleton.mp z]
          exact fun y => hc (decide_eq_true y)
    · rintro σ' G ⟨rfl, hj, x2, rfl⟩
      rw [List.length_map, hlen, List.take_length] at hj
      refine ⟨_, rfl, by show 1 ≤ 1000; decide, fun a na => ⟨a, v, rfl, upd_same, N.o, N.nf, fun dx nd' ne => ⟨rfl, dx, [("name", v)], upd_same, by rw [upd_ne ne, upd_same], by rw [upd_ne ne] at nd'; exact nd', ?_⟩⟩⟩
      exact qe hj dx _ (mk_same (fs := [("name", v)]) na nd' ne (exd dx [("name", v)])) (by rw [upd_ne ne] at nd'; exact nd') upd_same
end
end KaG


set_option maxRecDepth 100000
set_option maxHeartbeats 4000000
namespace KaG
open PySem PySem.Spec PyProof.Rows L2 KaC
section
variable {P : Program} {w : World} {K : PySem.W.Frag} {mg : Str → Option Value} {base : Heap}
abbrev nmHd : List Str := ["rulebook", "name", "error"]
theorem scHd : FnScope nmHd ["rulebook", "name"] (defScope sHeard) := ⟨rfl, rfl, rfl, by decide +kernel, rfl, by decide +kernel, by decide +kernel⟩
def tsH (C : Addr) : Addr → Value → Option Addr → TS := fun a cls d => tRet (tTup (tCons (tC (.str "no kind")) (tCons (tXf a cls d C "name" (tVar 2)) tNil)))
def spHeard : Sp := fun vs H Q _ => ∃ (b : Addr) (rows : List Str) (ks : List Kd) (kas : List Addr) (v : V), vs = [.ref b, v] ∧ BookAt H b rows ks ∧ KasOf H b kas ∧ (ks.map Kd.name).Nodup ∧ Pln H v ∧
  (∀ (i : Nat) (k : Kd) (ka : Addr), ks[i]? = some k → kas[i]? = some ka → v = .str k.name → ∀ (p : Addr) (H' : Hp), Same H H' → H p = none → H' p = some (.tup [.str "told", .ref ka]) → Q (.ref p) H') ∧
  ((∀ k ∈ ks, v ≠ .str k.name) → ∀ (p : Addr) (H' : Hp), Same H H' → H p = none → H' p = some (.tup [.str "no kind", v]) → Q (.ref p) H')
theorem ok_heard {C fI : Addr} {f fK : Addr} {fdI fd fdK : FuncData} (F : Fun K "_law_heard_kind" "_law_heard_kind" sHeard f fd) (N : NkT P w K mg base C fI fdI) (mK : mg "kind_of" = some (.ref fK)) (kK : PySem.W.keepIn K (.ref fK) = true) (bK : Binds K fdK ["rulebook", "name"] [])
    (GK : FnOk P w K mg base (L2.CX P w) 3 fK fdK ["rulebook", "name"] (spKindX C)) : FnOk P w K mg base CX0 4 f fd ["rulebook", "name"] spHeard := by
  refine F.ok scHd (fun vs H Q E h => ?_) (fun cdv A outer s H vs Q E hr h => ?_)
  · obtain ⟨b, rows, ks, kas, v, rfl, _⟩ := h
    rfl
  · obtain ⟨b, rows, ks, kas, v, rfl, hA, hK, nd, hp, q1, q2⟩ := h
    refine ⟨_, pss_one (ps_try_first (i := 2) (ts := tsH C) rfl rfl scHd.nd rfl rfl ⟨rfl, by decide, .inl N.m⟩
      (fun W q xe tk _ => pss_one (ps_ret (pe_tup (pa_cons pe_str (pa_cons (pe_callS GK hr (by rfl) mK kK bK (fun σ => passAt tk σ) (pa_cons (pv 0) (pa_cons (pv 1) pa_nil))) pa_nil)))))
      (fun a oe cls d pn hz hf => pss_one (ps_ret (pe_tup (pa_cons pe_str (pa_cons (pe_xf (a := a) (oe := oe) (pn := pn) N.xf N.nf hz hf (pv 2)) pa_nil)))))), ?_⟩
    have sz : ∀ {m : Nat}, m ≤ 900 → m ≤ sizeLine := fun h => Nat.le_of_lt (small1000 (by omega))
    refine ⟨_, rfl, _, rfl, b, rows, ks, kas, v, rfl, hA, hK, nd, hp, fun i k ka hi hka e => ?_, fun no dx H1 S1 nx ex => ?_⟩
    · exact ⟨sz (by show 2 ≤ 900; decide), fun p np => q1 i k ka hi hka e p _ (same_upd np) np upd_same⟩
    · refine ⟨N.te, fun a na => ?_⟩
      refine ⟨_, rfl, rfl, rfl, dx, _, v, rfl, ex, by simp [List.lookup], sz (by show 2 ≤ 900; decide), fun p np => ?_⟩
      exact q2 no p _ (KaG.Same.tr S1 (same_upd np)) (same_back S1 np) upd_same
end
end KaG


set_option maxRecDepth 100000
set_option maxHeartbeats 4000000
namespace KaG
open PySem PySem.Spec PyProof.Rows L2 KaC
section
variable {X : Cx} {CW : Addr} {NW : Str}
theorem shp_flat {H : Hp} {as : List Addr} {d : Nat} {v : V} {t : Str} (h : Sh H CW NW as d v t) : flatB v = true ∨ ∃ c, v = .ref c := by
  cases h with
  | non => exact .inl rfl
  | bl b => exact .inl rfl
  | int i hi => exact .inl rfl
  | str x => exact .inl rfl
  | lst => exact .inr ⟨_, rfl⟩
  | tup => exact .inr ⟨_, rfl⟩
  | dct => exact .inr ⟨_, rfl⟩
  | exc => exact .inr ⟨_, rfl⟩
/-- two pairs of the very same text and the very same thing -/
def rEqP : R2 := fun x y H Q => ∃ (p q : Addr) (w : Str) (v : V), x = .ref p ∧ y = .ref q ∧ H p = some (.tup [.str w, v]) ∧ H q = some (.tup [.str w, v]) ∧ (flatB v = true ∨ ∃ c, v = .ref c) ∧ Q (.bl true) H
theorem op_eqP (hu : X.A.units + 64 < cLine) : OpR X (compareOp .Eq) rEqP := by
  intro pins s σ H x y v u Q I rx ry h
  obtain ⟨p, q, w, z, rfl, rfl, ep, eq, hz, k⟩ := h
  cases (show v = Value.ref p from rx)
  cases (show u = Value.ref q from ry)
  obtain ⟨_, us, ru, o, ho, hc, n, hd⟩ := (show ObjOk X.prog X.w H s.heap p (.tup [.str w, z]) from I.hok p _ ep)
  obtain ⟨_, ws, rw', o', ho', hc', n', hd'⟩ := (show ObjOk X.prog X.w H s.heap q (.tup [.str w, z]) from I.hok q _ eq)
  cases ru with
  | cons r1 r2 =>
  cases r2 with
  | cons r3 r4 =>
  cases r4
  cases rw' with
  | cons t1 t2 =>
  cases t2 with
  | cons t3 t4 =>
  cases t4
  rename_i a1 a2 b1 b2
  have i1 : s.heap.IsTuple p [a1, a2].toArray := ⟨o, ho, hc, n, hd⟩
  have i2 : s.heap.IsTuple q [b1, b2].toArray := ⟨o', ho', hc', n', hd'⟩
  refine SeqAt.eq_tupleAt (e := fun _ => true) i1 i2 (by omega) (fun j h1 h2 => ?_) ?_
  · match j, h1, h2 with
    | 0, _, _ => exact eqAt_same r1 t1 rfl
    | 1, _, _ =>
      show SeqAt.EqAt _ s a2 b2 true
      rcases hz with f | ⟨c, rfl⟩
      · exact eqAt_same r3 t3 f
      · cases (show a2 = Value.ref c from r3)
        cases (show b2 = Value.ref c from t3)
        exact SeqAt.EqAt.same _
    | j + 2, h1, _ => exact absurd h1 (by simp)
  · exact ⟨.bl true, H, I, rfl, k⟩
end
section
variable {P : Program} {w : World} {K : PySem.W.Frag} {mg : Str → Option Value} {base : Heap} {CW : Addr} {NW : Str}
def spAlikeP (CW : Addr) (NW : Str) : Sp := fun vs H Q _ => ∃ (p q : Addr) (w : Str) (v : V) (as : List Addr) (d : Nat) (t : Str), vs = [.ref p, .ref q] ∧ H p = some (.tup [.str w, v]) ∧ H q = some (.tup [.str w, v]) ∧ Sh H CW NW as d v t ∧ p ∉ as ∧ q ∉ as ∧ d ≤ 19 ∧ (tupleText [reprText w, t]).length ≤ sizeLine ∧ Q (.bl true) H
theorem ok_alikeP {f : Addr} {fd : FuncData} (F : Fun K "_law_alike" "_law_alike" sAlike f fd) (T : TxtB mg) (W : WrK K CW NW) : FnG false P w K mg base CX0 1 f fd ["found", "due"] (spAlikeP CW NW) := by
  refine fnG_of F scAlike (fun vs H Q E h => ?_) (fun cdv A outer s H vs Q E hr hc h => ?_)
  · obtain ⟨p, q, w, v, as, d, t, rfl, _⟩ := h
    rfl
  · obtain ⟨p, q, w, v, as, d, t, rfl, ep, eq, hS, np, nq, hd, hl, k⟩ := h
    have u64 : (A.deeper (envOfC "_law_alike" (defScope sAlike) s.heap.objs.size f cdv)).units + 64 < cLine := by have := hr.un; omega
    have u60 : (A.deeper (envOfC "_law_alike" (defScope sAlike) s.heap.objs.size f cdv)).units + 60 < cLine := by have := hr.un; omega
    refine ⟨_, pss_one (ps_ret (pe_and (pe_cmpR (op_eqP u64) (pv 0) (pv 1) (nomark _))
      (pe_one (pe_cmpR op_eq (pe_callB (call_reprS (CW := CW) (NW := NW) (by exact W) hr.gd u60) (by rfl) T.repr (by decide +kernel) (pa_cons (pv 0) pa_nil))
        (pe_callB (call_reprS (CW := CW) (NW := NW) (by exact W) hr.gd u60) (by rfl) T.repr (by decide +kernel) (pa_cons (pv 1) pa_nil)) (nomark _))))), ?_⟩
    have hA : ShA H CW NW as d [.str w, v] [reprText w, t] := .cons (.str w) (.cons hS .nil)
    have s1 : Sh H CW NW (p :: as) (d + 1) (.ref p) (tupleText [reprText w, t]) := .tup ep (List.mem_cons_self ..) (fun b z => List.mem_cons_of_mem _ z) np hA
    have s2 : Sh H CW NW (q :: as) (d + 1) (.ref q) (tupleText [reprText w, t]) := .tup eq (List.mem_cons_self ..) (fun b z => List.mem_cons_of_mem _ z) nq hA
    refine ⟨_, rfl, _, rfl, p, q, w, v, rfl, rfl, ep, eq, shp_flat hS, _, rfl, ?_⟩
    refine iteT ⟨_, rfl, _, _, _, _, rfl, s1, by omega, hl, _, rfl, _, _, _, _, rfl, s2, by omega, hl, rfl, ?_⟩
    rw [decide_eq_true rfl]
    exact k
end
end KaG


set_option maxRecDepth 100000
set_option maxHeartbeats 4000000
namespace KaG
open PySem PySem.Spec PyProof.Rows L2 KaC
section
variable {H H' : Hp} {m n m' n' : Nat}
structure Gd (H : Hp) (v : V) (d : PyData) (m n : Nat) : Prop where
  rep : Rep H v d
  lay : d.canLay0 = true
  dep : d.depth ≤ m
  len : (txt d).length ≤ n
structure GdA (H : Hp) (vs : List V) (ds : List PyData) (m n : Nat) : Prop where
  rep : RepA H vs ds
  all : ∀ d ∈ ds, d.canLay0 = true ∧ d.depth ≤ m ∧ (txt d).length ≤ n
theorem GdA.nil : GdA H [] [] m n := ⟨.nil, fun _ z => nomatch z⟩
theorem GdA.cons {v : V} {d : PyData} {vs : List V} {ds : List PyData} (h : Gd H v d m n) (r : GdA H vs ds m n) : GdA H (v :: vs) (d :: ds) m n := ⟨.cons h.rep r.rep, fun x z => by
  rcases List.mem_cons.mp z with rfl | z
  · exact ⟨h.lay, h.dep, h.len⟩
  · exact r.all x z⟩
theorem Gd.wk {v : V} {d : PyData} (h : Gd H v d m n) (a : m ≤ m' := by decide) (b : n ≤ n' := by decide) : Gd H v d m' n' := ⟨h.rep, h.lay, Nat.le_trans h.dep a, Nat.le_trans h.len b⟩
theorem layA : ∀ {ds : List PyData}, (∀ d ∈ ds, d.canLay0 = true) → PyData.canLayAll0 ds = true
  | [], _ => by simp [PyData.canLayAll0]
  | d :: r, h => by
    rw [PyData.canLayAll0, h d (List.mem_cons_self ..), layA fun x z => h x (List.mem_cons_of_mem _ z)]
    rfl
theorem depA : ∀ {ds : List PyData}, (∀ d ∈ ds, d.depth ≤ m) → PyData.depthAll ds ≤ m
  | [], _ => by simp [PyData.depthAll]
  | d :: r, h => by
    rw [PyData.depthAll]
    exact Nat.max_le.mpr ⟨h d (List.mem_cons_self ..), depA fun x z => h x (List.mem_cons_of_mem _ z)⟩
theorem txA : ∀ {ds : List PyData}, (∀ d ∈ ds, (txt d).length ≤ n) → ∀ t ∈ txtA ds, t.length ≤ n
  | [], _, _, z => nomatch z
  | d :: r, h, t, z => by
    rcases List.mem_cons.mp z with rfl | z
    · exact h d (List.mem_cons_self ..)
    · exact txA (fun x y => h x (List.mem_cons_of_mem _ y)) t z
theorem txL : ∀ {ds : List PyData}, (txtA ds).length = ds.length
  | [] => rfl
  | _ :: r => congrArg (· + 1) (txL (ds := r))
theorem repL : ∀ {vs : List V} {ds : List PyData}, RepA H vs ds → vs.length = ds.length
  | _, _, .nil => rfl
  | _, _, .cons _ r => congrArg (· + 1) (repL r)
theorem Gd.tup {a : Addr} {vs : List V} {ds : List PyData} (e : H a = some (.tup vs)) (h : GdA H vs ds m n) {c : Nat} (hc : vs.length ≤ c) : Gd H (.ref a) (.tuple ds) (m + 1) (c * (n + 2) + 3) := by
  refine ⟨.tup e h.rep, ?_, ?_, ?_⟩
  · rw [PyData.canLay0]; exact layA fun d z => (h.all d z).1
  · rw [PyData.depth]; exact Nat.succ_le_succ (depA fun d z => (h.all d z).2.1)
  · rw [txt]
    have h1 := tupleText_le (txtA ds)
    have h2 := piled_le (txA fun d z => (h.all d z).2.2)
    rw [txL, ← repL h.rep] at h2
    have h3 := Nat.mul_le_mul_right (n + 2) hc
    omega
theorem Gd.lst {a : Addr} {vs : List V} {ds : List PyData} (e : H a = some (.lst vs)) (h : GdA H vs ds m n) {c : Nat} (hc : vs.length ≤ c) : Gd H (.ref a) (.list ds) (m + 1) (c * (n + 2) + 3) := by
  refine ⟨.lst e h.rep, ?_, ?_, ?_⟩
  · rw [PyData.canLay0]; exact layA fun d z => (h.all d z).1
  · rw [PyData.depth]; exact Nat.succ_le_succ (depA fun d z => (h.all d z).2.1)
  · rw [txt]
    have h1 := listText_le (txtA ds)
    have h2 := piled_le (txA fun d z => (h.all d z).2.2)
    rw [txL, ← repL h.rep] at h2
    have h3 := Nat.mul_le_mul_right (n + 2) hc
    omega
theorem paired_in {α β : Type} {R S : α → β → Prop} : ∀ {xs : List α} {ys : List β}, (∀ a b, b ∈ ys → R a b → S a b) → Paired R xs ys → Paired S xs ys
  | _, _, _, .nil => .nil
  | _, _, h, .cons a r => .cons (h _ _ (List.mem_cons_self ..) a) (paired_in (fun a b m => h a b (List.mem_cons_of_mem _ m)) r)
theorem GdA.of {α : Type} {f : α → PyData} : ∀ {as : List Addr} {xs : List α}, Paired (fun a x => Gd H (.ref a) (f x) m n) as xs → GdA H (as.map V.ref) (xs.map f) m n
  | _, _, .nil => .nil
  | _, _, .cons h r => .cons h (GdA.of r)
theorem nm_txt : ∀ x ∈ nmAll, (txt (.str x)).length ≤ 20 := by decide +kernel
theorem int_txt : ∀ x : Fin 61, (txt (.int (x.val : Int))).length ≤ 20 := by decide +kernel
theorem Gd.nm {x : Str} (h : x ∈ nmAll) : Gd H (.str x) (.str x) 0 20 := ⟨.str x, nm_lay x h, by simp [PyData.depth], nm_txt x h⟩
theorem Gd.int {i : Int} (h0 : 0 ≤ i) (h1 : i ≤ 60) : Gd H (.int i) (.int i) 0 20 := by
  obtain ⟨k, rfl⟩ := Int.eq_ofNat_of_zero_le h0
  have hk : k < 61 := by omega
  refine ⟨.int _ ?_, by simp [PyData.canLay0], by simp [PyData.depth], int_txt ⟨k, hk⟩⟩
  have h2 : (k : Int).natAbs = k := rfl
  rw [h2]
  exact Nat.lt_of_le_of_lt (Nat.log2_le_self k) (by omega)
theorem GdA.strs : ∀ {ns : List Str}, (∀ x ∈ ns, x ∈ nmAll) → GdA H (ns.map V.str) (ns.map PyData.str) 0 20
  | [], _ => .nil
  | x :: r, h => .cons (.nm (h x (List.mem_cons_self ..))) (GdA.strs fun y z => h y (List.mem_cons_of_mem _ z))
def vD : V → PyData
  | .bl b => .bool b
  | .int i => .int i
  | .str x => .str x
  | _ => .none
def ndD (its : List V) : PyData := .tuple (its.map vD)
def grD (g : List (List V)) : PyData := .tuple (g.map ndD)
def kdD (k : Kd) : PyData := .tuple [.str k.name, .int k.keep, .int k.bar, .tuple (k.gs.map grD)]
def bkD (rows : List Str) (ks : List Kd) : PyData := .tuple [.tuple (rows.map PyData.str), .tuple (ks.map kdD)]
theorem Gd.need {rows names its : List _} {a : Addr} (hr : ∀ x ∈ rows, x ∈ nmAll) (hn : ∀ x ∈ names, x ∈ nmAll) (e : H a = some (.tup its)) (h : NeedV rows names its) : Gd H (.ref a) (ndD its) 1 113 := by
  have key : GdA H its (its.map vD) 0 20 ∧ its.length ≤ 5 := by
    cases h with
    | row n t m h t0 t4 m0 m9 => exact ⟨.cons (.nm (by decide +kernel)) (.cons (.nm (hr _ h)) (.cons (.int t0 (by omega)) (.cons (.int m0 (by omega)) .nil))), Nat.le_succ 4⟩
    | kind n b t m h a1 a9 t0 t4 m0 m9 => exact ⟨.cons (.nm (by decide +kernel)) (.cons (.nm (hn _ h)) (.cons (.int (by omega) (by omega)) (.cons (.int t0 (by omega)) (.cons (.int m0 (by omega)) .nil)))), Nat.le_refl 5⟩
  exact Gd.tup e key.1 key.2
theorem Gd.ground {rows names : List Str} {g : List (List V)} {a : Addr} (hr : ∀ x ∈ rows, x ∈ nmAll) (hn : ∀ x ∈ names, x ∈ nmAll) (e : KaG.Grd H a g) (hl : g.length ≤ 3) (h : ∀ n ∈ g, NeedV rows names n) : Gd H (.ref a) (grD g) 2 348 := by
  obtain ⟨ns, e1, p⟩ := e
  have q : Paired (fun n its => Gd H (.ref n) (ndD its) 1 113) ns g := paired_in (fun n its m e => Gd.need hr hn e (h its m)) p
  exact Gd.tup e1 (GdA.of q) (by rw [List.length_map, paired_len p]; exact hl)
theorem Gd.kind {rows : List Str} {ks : List Kd} {k : Kd} {a : Addr} (hO : BookOk rows ks) (mk : k ∈ ks) (e : KdAt H a k) : Gd H (.ref a) (kdD k) 4 5631 := by
  obtain ⟨gt, gas, e1, e2, p⟩ := e
  obtain ⟨a1, a2, b1, b2, hg⟩ := hO.num k mk
  have q : Paired (fun ga g => Gd H (.ref ga) (grD g) 2 348) gas k.gs := paired_in (fun ga g m e => Gd.ground hO.rw.of hO.nm.of e (hO.grd k mk g m).2.1 (hO.grd k mk g m).2.2) p
  have t := Gd.tup e2 (GdA.of q) (c := 4) (by rw [List.length_map, paired_len p]; exact hg)
  have y := Gd.tup e1 (.cons ((Gd.nm (hO.nm.of _ (List.mem_map_of_mem mk))).wk (m' := 3) (n' := 1403)) (.cons ((Gd.int (by omega) (by omega)).wk (m' := 3) (n' := 1403)) (.cons ((Gd.int b1 (by omega)).wk (m' := 3) (n' := 1403)) (.cons t .nil)))) (c := 4) (Nat.le_refl 4)
  exact y.wk
theorem Gd.book {rows : List Str} {ks : List Kd} {b : Addr} (hA : BookAt H b rows ks) (hO : BookOk rows ks) : Gd H (.ref b) (bkD rows ks) 6 60000 := by
  obtain ⟨r, kt, kas, e1, e2, e3, p⟩ := hA
  have q : Paired (fun ka k => Gd H (.ref ka) (kdD k) 4 5631) kas ks := paired_in (fun ka k m e => Gd.kind hO m e) p
  have t := Gd.tup e3 (GdA.of q) (c := 5) (by rw [List.length_map, paired_len p]; exact hO.k5)
  have hr : rows.length ≤ 15 := by
    have h := List.Nodup.length_le_of_subset hO.rw.nd (l₂ := nmAll) fun x m => hO.rw.of x m
    exact h
  have y := Gd.tup e2 (GdA.strs hO.rw.of) (c := 15) (by rw [List.length_map]; exact hr)
  have z := Gd.tup e1 (.cons (y.wk (m' := 5) (n' := 28168)) (.cons (t.wk (m' := 5) (n' := 28168)) .nil)) (c := 2) (Nat.le_refl 2)
  exact z.wk
def plD (p : Plc) : PyData := .tuple [.str p.1, .int (p.2.1 : Int), .int (p.2.2 : Int)]
def ddD (d : Str × Nat) : PyData := .tuple [.str d.1, .int (d.2 : Int)]
theorem Gd.pl {a : Addr} {p : Plc} (e : H a = some (.tup [.str p.1, .int (p.2.1 : Int), .int (p.2.2 : Int)])) (hn : p.1 ∈ nmAll) (h1 : p.2.1 ≤ 60) (h2 : p.2.2 ≤ 60) : Gd H (.ref a) (plD p) 1 69 :=
  Gd.tup e (.cons (.nm hn) (.cons (.int (by omega) (by omega)) (.cons (.int (by omega) (by omega)) .nil))) (c := 3) (Nat.le_refl 3)
theorem Gd.dd {a : Addr} {d : Str × Nat} (e : H a = some (.tup [.str d.1, .int (d.2 : Int)])) (hn : d.1 ∈ nmAll) (h1 : d.2 ≤ 60) : Gd H (.ref a) (ddD d) 1 47 :=
  Gd.tup e (.cons (.nm hn) (.cons (.int (by omega) (by omega)) .nil)) (c := 2) (Nat.le_refl 2)
end
end KaG


set_option maxRecDepth 100000
set_option maxHeartbeats 4000000
namespace KaG
open PySem PySem.Spec PyProof.Rows L2 KaC
open Classical in
noncomputable def itsOf (ks : List Kd) (p : Plc) : List V := if h : ∃ its, needAt ks p its then h.choose else []
theorem itsOf_eq {ks : List Kd} {p : Plc} {its : List V} (nd : (ks.map Kd.name).Nodup) (h : needAt ks p its) : itsOf ks p = its := by
  unfold itsOf
  rw [dif_pos ⟨its, h⟩]
  exact needAt_one nd (Exists.choose_spec (p := fun i => needAt ks p i) ⟨its, h⟩) h
theorem Rep.there {H : Hp} {b : Addr} {d : PyData} (h : Rep H (.ref b) d) : H b ≠ none := by
  cases h with
  | lst e => rw [e]; exact fun z => nomatch z
  | tup e => rw [e]; exact fun z => nomatch z
/-- what stands around the loops of `_law_is_book_told` -/
structure Tw (K : PySem.W.Frag) (H0 G : Hp) (bg b : Addr) (rows : List Str) (ks : List Kd) (kas : List Addr) (kd pl nl : Addr) (ps ns : List Addr) : Prop where
  ext : Ext bg H0 G
  bk : BookAt G b rows ks
  ka : KasOf G b kas
  ekd : G kd = some (.dK (kvsOf ks kas))
  nkd : H0 kd = none
  epl : G pl = some (.lst (ps.map V.ref))
  npl : H0 pl = none
  pa : PlAt G ps (placesOf ks)
  lp : ps.length ≤ 60
  enl : G nl = some (.lst (ns.map V.ref))
  nnl : H0 nl = none
  na : Paired (fun q p => needAt ks p (itsOf ks p) ∧ G q = some (.tup (itsOf ks p))) ns (placesOf ks)
theorem keep_in {bg : Addr} {H0 G G' : Hp} {a : Addr} {o : HO} (hB : Bag H0 bg) (E : Ext bg G G') (n : H0 a = none) (e : G a = some o) : G' a = some o := E.keep a o (fun z => hB.there (z ▸ n)) e
theorem Tw.go {K : PySem.W.Frag} {H0 G G' : Hp} {bg b : Addr} {rows : List Str} {ks : List Kd} {kas : List Addr} {kd pl nl : Addr} {ps ns : List Addr} (hB : Bag H0 bg) (h : Tw K H0 G bg b rows ks kas kd pl nl ps ns) (E : Ext bg G G') : Tw K H0 G' bg b rows ks kas kd pl nl ps ns := by
  have s := TSame.ext h.ext.bag E
  obtain ⟨r, kt, e1, e2⟩ := h.ka
  exact ⟨h.ext.trans E, h.bk.ts s, ⟨r, kt, s _ _ e1, s _ _ e2⟩, keep_in hB E h.nkd h.ekd, h.nkd, keep_in hB E h.npl h.epl, h.npl, h.pa.ts s, h.lp, keep_in hB E h.nnl h.enl, h.nnl, Paired.mono' (fun q p z => ⟨z.1, s _ _ z.2⟩) h.na⟩
end KaG


set_option maxRecDepth 100000
set_option maxHeartbeats 4000000
namespace KaG
open PySem PySem.Spec PyProof.Rows L2 KaC
def leN (a b : Str) : Prop := ltCps b.cps.toList a.cps.toList = false
theorem leN_tr : ∀ a ∈ nmAll, ∀ b ∈ nmAll, ∀ c ∈ nmAll, ltCps b.cps.toList a.cps.toList = false → ltCps c.cps.toList b.cps.toList = false → ltCps c.cps.toList a.cps.toList = false := by decide +kernel
theorem leN_anti : ∀ a ∈ nmAll, ∀ b ∈ nmAll, ltCps b.cps.toList a.cps.toList = false → ltCps a.cps.toList b.cps.toList = false → a = b := by decide +kernel
theorem rising_pw : ∀ {r : List Str} {p : Str}, p ∈ nmAll → (∀ x ∈ r, x ∈ nmAll) → risingS p r = true → (∀ x ∈ r, leN p x) ∧ r.Pairwise leN
  | [], _, _, _, _ => ⟨(fun _ z => nomatch z), List.Pairwise.nil⟩
  | x :: r, p, hp, hr, h => by
    unfold risingS at h
    rw [Bool.and_eq_true, Bool.not_eq_true'] at h
    have hx := hr x (List.mem_cons_self ..)
    have hr' : ∀ y ∈ r, y ∈ nmAll := fun y m => hr y (List.mem_cons_of_mem _ m)
    obtain ⟨i1, i2⟩ := rising_pw hx hr' h.2
    refine ⟨fun y m => ?_, .cons i1 i2⟩
    rcases List.mem_cons.mp m with rfl | m
    · exact h.1
    · exact leN_tr p hp x hx y (hr' y m) h.1 (i1 y m)
theorem sortedS_pw {ns : List Str} (hn : ∀ x ∈ ns, x ∈ nmAll) (h : sortedS ns = true) : ns.Pairwise leN := by
  cases ns with
  | nil => exact .nil
  | cons x r =>
    obtain ⟨i1, i2⟩ := rising_pw (hn x (List.mem_cons_self ..)) (fun y m => hn y (List.mem_cons_of_mem _ m)) h
    exact .cons i1 i2
theorem sorted_one {xs ys : List Str} (hx : ∀ x ∈ xs, x ∈ nmAll) (h1 : sortedS xs = true) (h2 : sortedS ys = true) (p : ys.Perm xs) : ys = xs := by
  have hy : ∀ y ∈ ys, y ∈ nmAll := fun y m => hx y (p.mem_iff.mp m)
  exact List.Perm.eq_of_pairwise (fun a b ma mb p q => leN_anti a (hy a ma) b (hx b mb) p q) (sortedS_pw hy h2) (sortedS_pw hx h1) p
theorem Gd.names {H : Hp} {l : Addr} {ns : List Str} (e : H l = some (.lst (ns.map V.str))) (hn : ∀ x ∈ ns, x ∈ nmAll) (hl : ns.length ≤ 5) : Gd H (.ref l) (.list (ns.map PyData.str)) 1 113 := Gd.lst e (GdA.strs hn) (c := 5) (by rw [List.length_map]; exact hl)
theorem pl_small {rows : List Str} {ks : List Kd} (hO : BookOk rows ks) {p : Plc} (m : p ∈ placesOf ks) : p.1 ∈ nmAll ∧ p.2.1 ≤ 60 ∧ p.2.2 ≤ 60 := by
  obtain ⟨its, k, mk, kn, g, hg, hn⟩ := place_need m
  have h1 := (List.getElem?_eq_some_iff.mp hg).1
  have h2 := (List.getElem?_eq_some_iff.mp hn).1
  have h3 := (hO.num k mk).2.2.2.2
  have h4 := (hO.grd k mk g (List.mem_of_getElem? hg)).2.1
  exact ⟨by rw [← kn]; exact hO.nm.of _ (List.mem_map_of_mem mk), by omega, by omega⟩
theorem dd_small {rows : List Str} {ks : List Kd} (hO : BookOk rows ks) {d : Str × Nat} (m : d ∈ deadOf ks) : d.1 ∈ nmAll ∧ d.2 ≤ 60 := by
  unfold deadOf at m
  obtain ⟨k, mk, m⟩ := List.mem_flatMap.mp m
  unfold deadK at m
  obtain ⟨g, mg, m⟩ := List.mem_flatMap.mp m
  unfold deadG at m
  split at m
  · rw [List.mem_singleton.mp m]
    have h1 := List.mem_range.mp mg
    have h3 := (hO.num k mk).2.2.2.2
    exact ⟨hO.nm.of _ (List.mem_map_of_mem mk), by show g ≤ 60; omega⟩
  · cases m
theorem Gd.places {H : Hp} {l : Addr} {as : List Addr} {rows : List Str} {ks : List Kd} (hO : BookOk rows ks) (e : H l = some (.lst (as.map V.ref))) (h : PlAt H as (placesOf ks)) (hl : as.length ≤ 60) : Gd H (.ref l) (.list ((placesOf ks).map plD)) 2 4263 :=
  Gd.lst e (GdA.of (paired_in (fun a p m z => Gd.pl z (pl_small hO m).1 (pl_small hO m).2.1 (pl_small hO m).2.2) h)) (c := 60) (by rw [List.length_map]; exact hl)
theorem Gd.deads {H : Hp} {l : Addr} {as : List Addr} {rows : List Str} {ks : List Kd} (hO : BookOk rows ks) (e : H l = some (.lst (as.map V.ref))) (h : DdAt H as (deadOf ks)) (hl : as.length ≤ 20) : Gd H (.ref l) (.list ((deadOf ks).map ddD)) 2 983 :=
  Gd.lst e (GdA.of (paired_in (fun a p m z => Gd.dd z (dd_small hO m).1 (dd_small hO m).2) h)) (c := 20) (by rw [List.length_map]; exact hl)
theorem Gd.three {H : Hp} {l a b c : Addr} {x y z : PyData} (e : H l = some (.lst [.ref a, .ref b, .ref c])) (h1 : Gd H (.ref a) x 1 113) (h2 : Gd H (.ref b) y 2 4263) (h3 : Gd H (.ref c) z 2 983) : Gd H (.ref l) (.list [x, y, z]) 3 12798 :=
  Gd.lst e (.cons (h1.wk (m' := 2) (n' := 4263)) (.cons h2 (.cons (h3.wk (m' := 2) (n' := 4263)) .nil))) (c := 3) (Nat.le_refl 3)
theorem Gd.needs {H : Hp} {l : Addr} {qs : List Addr} {rows : List Str} {ks : List Kd} (hO : BookOk rows ks) (e : H l = some (.lst (qs.map V.ref))) (h : Paired (fun q p => needAt ks p (itsOf ks p) ∧ H q = some (.tup (itsOf ks p))) qs (placesOf ks)) (hl : qs.length ≤ 60) : Gd H (.ref l) (.list ((placesOf ks).map fun p => ndD (itsOf ks p))) 2 6903 :=
  Gd.lst e (GdA.of (f := fun p => ndD (itsOf ks p)) (paired_in (fun q p m z => by
    obtain ⟨k0, mk0, _, g0, hg0, hn0⟩ := z.1
    exact Gd.need hO.rw.of hO.nm.of z.2 ((hO.grd k0 mk0 g0 (List.mem_of_getElem? hg0)).2.2 _ (List.mem_of_getElem? hn0))) h)) (c := 60) (by rw [List.length_map]; exact hl)
end KaG


set_option maxRecDepth 100000
set_option maxHeartbeats 4000000
namespace KaG
open PySem PySem.Spec PyProof.Rows L2 KaC
theorem DlAt.one {H : Hp} {a : Addr} {d d' : Dial} (h : DlAt H a d) (h' : DlAt H a d') : d = d' := by
  cases d with
  | nm n w =>
    have e : H a = some (.tup [.str n, .str w]) := h
    cases d' with
    | nm n' w' =>
      have e' : H a = some (.tup [.str n', .str w']) := h'
      rw [e] at e'
      cases e'
      rfl
    | pl p' w' =>
      obtain ⟨q', e', _⟩ := h'
      rw [e] at e'
      cases e'
  | pl p w =>
    obtain ⟨q, e, f⟩ := h
    cases d' with
    | nm n' w' =>
      have e' : H a = some (.tup [.str n', .str w']) := h'
      rw [e] at e'
      cases e'
    | pl p' w' =>
      obtain ⟨q', e', f'⟩ := h'
      rw [e] at e'
      cases e'
      rw [f] at f'
      have z := HO.tup.inj (Option.some.inj f')
      obtain ⟨n, g, m⟩ := p
      obtain ⟨n', g', m'⟩ := p'
      have z1 := List.cons.inj z
      have z2 := List.cons.inj z1.2
      have z3 := List.cons.inj z2.2
      have y1 : n = n' := V.str.inj z1.1
      have y2 : g = g' := Int.ofNat.inj (V.int.inj z2.1)
      have y3 : m = m' := Int.ofNat.inj (V.int.inj z3.1)
      rw [y1, y2, y3]
theorem numOf_small {rows : List Str} {ks : List Kd} (hO : BookOk rows ks) {d : Dial} {z : Int} (h : numOf ks d z) : 0 ≤ z ∧ z ≤ 60 := by
  cases d with
  | nm n w =>
    obtain ⟨k, mk, _, rfl⟩ := h
    obtain ⟨a1, a2, b1, b2, _⟩ := hO.num k mk
    split <;> exact ⟨by omega, by omega⟩
  | pl p w =>
    obtain ⟨its, ⟨k0, mk0, _, g0, hg0, hn0⟩, e⟩ := h
    have nv := (hO.grd k0 mk0 g0 (List.mem_of_getElem? hg0)).2.2 _ (List.mem_of_getElem? hn0)
    cases nv with
    | row n t m h t0 t4 m0 m9 =>
      unfold wix at e
      split at e
      · cases e; exact ⟨by omega, by omega⟩
      · split at e
        · cases e; exact ⟨by omega, by omega⟩
        · cases e; exact ⟨by omega, by omega⟩
    | kind n b t m h a1 a9 t0 t4 m0 m9 =>
      unfold wix at e
      split at e
      · cases e; exact ⟨by omega, by omega⟩
      · split at e
        · cases e; exact ⟨by omega, by omega⟩
        · cases e; exact ⟨by omega, by omega⟩
theorem GdA.ints {H : Hp} : ∀ {zs : List Int}, (∀ z ∈ zs, 0 ≤ z ∧ z ≤ 60) → GdA H (zs.map V.int) (zs.map PyData.int) 0 20
  | [], _ => .nil
  | z :: r, h => .cons (.int (h z (List.mem_cons_self ..)).1 (h z (List.mem_cons_self ..)).2) (GdA.ints fun y m => h y (List.mem_cons_of_mem _ m))
theorem paired_one {α β : Type} {R : α → β → Prop} (u : ∀ a x y, R a x → R a y → x = y) : ∀ {as : List α} {xs ys : List β}, Paired R as xs → Paired R as ys → xs = ys
  | _, _, _, .nil, .nil => rfl
  | _, _, _, .cons a r, .cons b s => by rw [u _ _ _ a b, paired_one u r s]
theorem paired_snd {α β : Type} {R : α → β → Prop} {p : β → Prop} (u : ∀ a x, R a x → p x) : ∀ {as : List α} {xs : List β}, Paired R as xs → ∀ x ∈ xs, p x
  | _, _, .nil, _, m => nomatch m
  | _, _, .cons a r, x, m => by
    rcases List.mem_cons.mp m with rfl | m
    · exact u _ _ a
    · exact paired_snd u r x m
end KaG


set_option maxRecDepth 100000
set_option maxHeartbeats 2000000
/-! keys of any depth (KE.KeyNested) in a set -/
namespace KaN
open PySem PyProof.Rows L2
section
variable {P : Program} {w : World}
/-- v is of no class statement, n levels down -/
def Plain (P : Program) (w : World) (n : Nat) (s : Shared) (v : Value) : Prop := ∀ (A : Around) (E : Value → Shared → Prop) (Q : Bool → Shared → Prop), Q false s → wpAny (model P w) A (ofAClassStatement n v) Q E s
theorem Plain.tuple {n m : Nat} {s : Shared} {a : Addr} {o : Obj} {vs : Array Value} (ho : s.heap.get? a = some o) (hc : o.cls = .type "tuple") (hd : o.data = .seq vs m) (hq : ∀ v ∈ vs.toList, Plain P w n s v) : Plain P w (n + 1) s (.ref a) := fun A E Q q => by
  have hT : s.TypeIs (.ref a) "tuple" := ⟨o, ho, hc⟩
  have e : (("tuple" : String) == "tuple") = true := by decide +kernel
  unfold ofAClassStatement; refine wpAny_bind (wpAny_typeOf hT ?_); dsimp only
  simp only [e, if_true, Bool.not_true, Bool.false_eq_true, if_false]; try refine wpAny_bind (wpAny_pure ?_)
  try simp only [Bool.not_true, Bool.false_eq_true, if_false, if_true]
  refine wpAny_bind (m := seqItems? (.ref a)) (wpAny_seqItems ho hd ?_); dsimp only
  refine wpAny_bind ?_; change wpAny _ _ (forIn vs _ _) _ _ s; rw [← Array.forIn_toList]
  refine wpAny_forIn_list _ (fun rest r s1 => (r.1 = none ∧ s1 = s) ∧ ∀ v ∈ rest, Plain P w n s v) _ ?_ ?_ _ _ ⟨⟨rfl, rfl⟩, hq⟩
  · rintro v rest r s1 ⟨⟨hr, rfl⟩, all⟩
    refine wpAny_bind (all v (List.mem_cons_self ..) _ _ _ ?_); simp only [Bool.false_eq_true, if_false]
    exact wpAny_pure ⟨⟨rfl, rfl⟩, fun u m => all u (List.mem_cons_of_mem _ m)⟩
  · rintro ⟨r1, r2⟩ s1 ⟨⟨hr, rfl⟩, _⟩
    simp only at hr; subst hr; exact wpAny_pure q
theorem Plain.flat {n : Nat} {s : Shared} {v : Value} (h : ∀ a, v ≠ .ref a) : Plain P w n s v := fun A E Q q => by
  have : ofAClassStatement n v = pure false := by
    cases n <;> cases v <;> first | rfl | exact absurd rfl (h _)
  rw [this]; exact wpAny_pure q
mutual
theorem plain_key : ∀ (k : NestedKey) (v : Value) (n : Nat) (s : Shared), NestedIs s.heap k v → k.depth ≤ n → Plain P w n s v
  | .none, _, n, s, x, _ => by cases x; exact .flat fun _ z => nomatch z
  | .num i, _, n, s, x, _ => by cases x <;> exact .flat fun _ z => nomatch z
  | .text y, _, n, s, x, _ => by cases x; exact .flat fun _ z => nomatch z
  | .tup ks, _, n, s, x, hn => by
    cases x with
    | tup g1 g2 g3 g4 =>
      rw [NestedKey.depth] at hn
      match n, hn with
      | n + 1, hn => exact .tuple g1 g2 g3 (plain_keys ks _ n s g4 (Nat.le_of_succ_le_succ hn))
theorem plain_keys : ∀ (ks : List NestedKey) (vs : List Value) (n : Nat) (s : Shared), NestedAll s.heap ks vs → NestedKey.depthAll ks ≤ n → ∀ v ∈ vs, Plain P w n s v
  | [], _, n, s, x, _, v, m => by cases x; cases m
  | k :: ks, _, n, s, x, hn, v, m => by
    cases x with
    | cons x1 x2 =>
      rw [NestedKey.depthAll] at hn
      rcases List.mem_cons.mp m with e | m
      · subst e; exact plain_key k _ n s x1 (Nat.le_trans (Nat.le_max_left ..) hn)
      · exact plain_keys ks _ n s x2 (Nat.le_trans (Nat.le_max_right ..) hn) v m
end
/-- a key of this kind at an address -/
abbrev IsN (h : Heap) (k : NestedKey) (a : Addr) : Prop := NestedIs h k (.ref a) ∧ k.depth ≤ 8
/-- a search among such keys shows nothing -/
theorem seen_key {A : Around} {E : Value → Shared → Prop} {s : Shared} {k : NestedKey} {b : Addr} {Q : Bool → Shared → Prop} (hk : IsN s.heap k b) {ys : List Value} (hy : ∀ y ∈ ys, ∃ k' c, y = Value.ref c ∧ IsN s.heap k' c) (q : Q false s) :
    wpAny (model P w) A (searchCouldBeSeen (.ref b) ys) Q E s := by
  unfold searchCouldBeSeen; refine wpAny_bind ?_
  refine wpAny_forIn_list _ (fun rest r s1 => (r.1 = none ∧ s1 = s) ∧ ∀ y ∈ rest, ∃ k' c, y = Value.ref c ∧ IsN s.heap k' c) _ ?_ ?_ _ _ ⟨⟨rfl, rfl⟩, hy⟩
  · rintro v rest r s1 ⟨⟨hr, rfl⟩, all⟩
    obtain ⟨k1, c, rfl, hc⟩ := all v (List.mem_cons_self ..)
    have on : ∀ y ∈ rest, ∃ k' c, y = Value.ref c ∧ IsN s1.heap k' c := fun u m => all u (List.mem_cons_of_mem _ m)
    dsimp only
    by_cases hv : (b == c || (carriedByValue (.ref b) && carriedByValue (.ref c))) = true
    · exact wp_if_pos hv (wpAny_pure ⟨⟨rfl, rfl⟩, on⟩)
    · refine wp_if_neg hv (wpAny_bind (quiet_key k _ 8 s1 hk.1 hk.2 _ _ _ ?_)); simp only [Bool.not_true, Bool.false_eq_true, if_false]
      refine wpAny_bind (quiet_key k1 _ 8 s1 hc.1 hc.2 _ _ _ ?_); simp only [Bool.not_true, Bool.false_eq_true, if_false]
      refine wpAny_bind (plain_key k _ 8 s1 hk.1 hk.2 _ _ _ ?_); simp only [Bool.false_eq_true, if_false]
      refine wpAny_bind (plain_key k1 _ 8 s1 hc.1 hc.2 _ _ _ ?_); simp only [Bool.false_eq_true, if_false]
      exact wpAny_pure ⟨⟨rfl, rfl⟩, on⟩
  · rintro ⟨r1, r2⟩ s1 ⟨⟨hr, rfl⟩, _⟩
    simp only at hr; subst hr; exact wpAny_pure q
end
end KaN


set_option maxRecDepth 100000
set_option maxHeartbeats 2000000
/-! a small set of such keys: what a search finds, what is put in -/
namespace KaN
open PySem PyProof.Rows L2
section
variable {P : Program} {w : World}
/-- hashed by value or not: some answer comes -/
def Told (P : Program) (w : World) (n : Nat) (s : Shared) (v : Value) : Prop := ∀ (A : Around) (E : Value → Shared → Prop) (Q : Bool → Shared → Prop), (∀ b, Q b s) → wpAny (model P w) A (hashByValue n v) Q E s
theorem Told.lit {n : Nat} {s : Shared} {v : Value} (b : Bool) (h : hashByValue n v = pure b) : Told P w n s v := fun A E Q q => by rw [h]; exact wpAny_pure (q b)
theorem Told.tuple {n m : Nat} {s : Shared} {a : Addr} {o : Obj} {vs : Array Value} (ho : s.heap.get? a = some o) (hc : o.cls = .type "tuple") (hd : o.data = .seq vs m) (hq : ∀ v ∈ vs.toList, Told P w n s v) : Told P w (n + 1) s (.ref a) := fun A E Q q => by
  have hT : s.TypeIs (.ref a) "tuple" := ⟨o, ho, hc⟩
  unfold hashByValue; refine wpAny_bind (wpAny_specialOf hT F.slot_tuple_hash.lookup ?_)
  change wpAny _ _ (seqItems? (.ref a) >>= _) _ _ s
  refine wpAny_bind (wpAny_seqItems ho hd ?_)
  refine wpAny_bind ?_; change wpAny _ _ (forIn vs _ _) _ _ s; rw [← Array.forIn_toList]
  refine wpAny_forIn_list _ (fun rest r s1 => (r.1 = none ∧ s1 = s) ∧ ∀ v ∈ rest, Told P w n s v) _ ?_ ?_ _ _ ⟨⟨rfl, rfl⟩, hq⟩
  · rintro v rest r s1 ⟨⟨hr, rfl⟩, all⟩
    refine wpAny_bind (all v (List.mem_cons_self ..) _ _ _ fun b => ?_)
    cases b
    · simp only [Bool.not_false, if_true]
      exact wpAny_pure (wpAny_pure (q false))
    · simp only [Bool.not_true, Bool.false_eq_true, if_false]
      exact wpAny_pure ⟨⟨rfl, rfl⟩, fun u m => all u (List.mem_cons_of_mem _ m)⟩
  · rintro ⟨r1, r2⟩ s1 ⟨⟨hr, rfl⟩, _⟩
    simp only at hr; subst hr; exact wpAny_pure (q true)
mutual
theorem told_key : ∀ (k : NestedKey) (v : Value) (n : Nat) (s : Shared), NestedIs s.heap k v → k.depth ≤ n → Told P w n s v
  | .none, _, n, s, x, _ => by cases x; exact .lit true (by cases n <;> rfl)
  | .num i, _, n, s, x, _ => by cases x <;> exact .lit true (by cases n <;> rfl)
  | .text y, _, n, s, x, _ => by cases x; exact .lit false (by cases n <;> rfl)
  | .tup ks, _, n, s, x, hn => by
    cases x with
    | tup g1 g2 g3 g4 =>
      rw [NestedKey.depth] at hn
      match n, hn with
      | n + 1, hn => exact .tuple g1 g2 g3 (told_keys ks _ n s g4 (Nat.le_of_succ_le_succ hn))
theorem told_keys : ∀ (ks : List NestedKey) (vs : List Value) (n : Nat) (s : Shared), NestedAll s.heap ks vs → NestedKey.depthAll ks ≤ n → ∀ v ∈ vs, Told P w n s v
  | [], _, n, s, x, _, v, m => by cases x; cases m
  | k :: ks, _, n, s, x, hn, v, m => by
    cases x with
    | cons x1 x2 =>
      rw [NestedKey.depthAll] at hn
      rcases List.mem_cons.mp m with e | m
      · subst e; exact told_key k _ n s x1 (Nat.le_trans (Nat.le_max_left ..) hn)
      · exact told_keys ks _ n s x2 (Nat.le_trans (Nat.le_max_right ..) hn) v m
end

/-! ### the set as rows -/
abbrev Rw := Addr × NestedKey
def rws (w : World) (L : List Rw) : List (Int × Value) := L.map fun r => (r.2.hash w, Value.ref r.1)
abbrev hss (w : World) (L : List Rw) : List Int := L.map fun r => r.2.hash w
structure SetN (w : World) (h : Heap) (a : Addr) (L : List Rw) (es : Array (Int × Value)) (ep : Nat) (t : SetTable) : Prop where
  ob : ∃ o, h.get? a = some o ∧ o.ExactSet ∧ o.data = .set es ep t
  rows : es.toList = rws w L
  tab : TabOk t (hss w L)
  nd : (L.map (·.2)).Nodup
  keys : ∀ r ∈ L, IsN h r.2 r.1
  led : w.params.followText "set-order" = true ∨ t.led = true
  m7 : t.mask = 7
  few : L.length ≤ 4
variable {A : Around} {E : Value → Shared → Prop} {s : Shared} {a : Addr} {L : List Rw} {es : Array (Int × Value)} {ep : Nat} {t : SetTable}
theorem rws_len (h : es.toList = rws w L) : es.size = L.length := by
  have := congrArg List.length h
  rwa [rws, Array.length_toList, List.length_map] at this
theorem SetN.fit {h : Heap} (R : SetN w h a L es ep t) : t.fits es.size = true := by
  have h1 := R.tab.sz; have h2 := rws_len R.rows; have h3 := R.few; have h4 := R.m7
  rw [hss, List.length_map] at h1
  unfold SetTable.fits SetTable.fill
  simp only [R.tab.dm, Bool.and_eq_true, beq_iff_eq, decide_eq_true_eq]
  exact ⟨by omega, by show t.place.size + 0 ≤ t.mask; omega⟩
theorem SetN.row {h : Heap} (R : SetN w h a L es ep t) {i : Nat} {r : Rw} (e : L[i]? = some r) : es[i]? = some (r.2.hash w, Value.ref r.1) := by
  rw [← Array.getElem?_toList, R.rows, rws, List.getElem?_map, e]; rfl
theorem SetN.stays {h : Heap} (R : SetN w h a L es ep t) : ¬ t.gaveWay = true := by
  unfold SetTable.gaveWay; rw [R.m7]; decide
abbrev begN (t : SetTable) (h : Int) (c : Nat) : SetTable.Probe := nth t.mask (runAt t.mask (SetTable.bits h % (t.mask + 1)) (SetTable.bits h)) c
theorem begN_clean (t : SetTable) (h : Int) (c : Nat) : (begN t h c).dummy = none := by
  have go : ∀ (n : Nat) (p : SetTable.Probe), p.dummy = none → (nth t.mask p n).dummy = none := by
    intro n; induction n with
    | zero => exact fun p e => e
    | succ n ih => exact fun p e => ih _ (by unfold adv; split <;> exact e)
  exact go c _ rfl
theorem begN_add (t : SetTable) (h : Int) (c q : Nat) : nth t.mask (begN t h c) q = begN t h (c + q) := (nth_add t.mask c _ q).symm

/-- the search, from the c-th step on -/
theorem look_from (R : SetN w s.heap a L es ep t) {x : Addr} {k : NestedKey} (hx : IsN s.heap k x) (hu : A.units + 8 < cLine) {K : Nat} (hKf : K < 10 * SetTable.turns t.mask)
    (hK : way t.mask (k.hash w) K ∉ t.place.toList) (hKb : ∀ c, c < K → way t.mask (k.hash w) c ∈ t.place.toList) {Q : SetFound → Shared → Prop}
    (yes : k ∈ L.map (·.2) → Q (.there none) s) (no : k ∉ L.map (·.2) → Q (.free (way t.mask (k.hash w) K) false) s) :
    ∀ (f c : Nat) (st : Option SetTable.Probe), st.getD (t.probeStart (k.hash w)) = begN t (k.hash w) c → c ≤ K → K - c < f →
      (∀ (i : Nat) (r : Rw), L[i]? = some r → r.2 = k → ∃ d, c ≤ d ∧ d < K ∧ t.place.toList[i]? = some (way t.mask (k.hash w) d)) →
      wpAny (model P w) A (setSearchFrom a (.ref x) (k.hash w) true f st) Q E s
  | 0, c, st, _, _, hf, _ => absurd hf (Nat.not_lt_zero _)
  | f + 1, c, st, hst, hc, hf, hre => by
    obtain ⟨o, g1, g2, g3⟩ := R.ob
    have hfit := R.fit
    have e1 : ∀ q, (nth t.mask (begN t (k.hash w) c) q).j = way t.mask (k.hash w) (c + q) := fun q => by rw [begN_add]
    have hmore : c + (K - c) = K := by omega
    rw [setSearchFrom_succ]
    refine wpAny_bind (wpAny_setState_of g1 g3 hfit ?_); dsimp only
    refine wp_if_neg R.stays ?_
    try refine wpAny_bind (wpAny_pure ?_)
    have at_ : ∀ (i : Nat) (r : Rw), L[i]? = some r → (fun i => (es[i]?.map (·.1)).getD 0) i = r.2.hash w := fun i r hr => by
      dsimp only; rw [R.row hr]; rfl
    rcases go_spec t R.tab.ris R.tab.dm (fun i => (es[i]?.map (·.1)).getD 0) (k.hash w) (10 * SetTable.turns t.mask) (K - c) (begN t (k.hash w) c) (begN_clean ..) (by omega)
      (fun q hq => by rw [e1]; exact hKb _ (by omega)) (by rw [e1, hmore]; exact hK) with ⟨q, i, hq, hi, _, hno, hpr⟩ | ⟨hno, hpr⟩
    · have hp : t.probe (fun i => (es[i]?.map (·.1)).getD 0) (k.hash w) (st.getD (t.probeStart (k.hash w))) = some (.candidate (way t.mask (k.hash w) (c + q)) i (begN t (k.hash w) (c + (q + 1)))) := by
        rw [hst, ← e1, ← begN_add]; exact hpr
      rw [hp]; dsimp only; rw [e1] at hi
      have hil : i < L.length := by
        have h1 := (List.getElem?_eq_some_iff.mp hi).1; have h2 := R.tab.sz
        rw [hss, List.length_map] at h2; rw [Array.length_toList] at h1; omega
      obtain ⟨r, hr⟩ : ∃ r, L[i]? = some r := ⟨_, List.getElem?_eq_getElem hil⟩
      have hm := List.mem_of_getElem? hr
      have hrk := R.keys r hm
      have rest : wpAny (model P w) A (searchRest a (.ref x) (k.hash w) true f es t (way t.mask (k.hash w) (c + q)) i (begN t (k.hash w) (c + (q + 1)))) Q E s := by
        unfold searchRest; rw [R.row hr]; dsimp only
        refine wpAny_bind (wpAny_holding (eqAt_key r.2 k A s _ _ hrk.1 hx.1 (by have := hrk.2; omega) _ _ _ _ ?_))
        refine wpAny_bind (wpAny_setState_of g1 g3 hfit ?_); dsimp only
        rw [← NestedKey.decide_eq]
        by_cases hkk : r.2 = k
        · refine wp_if_pos (by simp [hkk]) (wpAny_pure (yes (List.mem_map.mpr ⟨r, hm, hkk⟩)))
        · refine wp_if_neg (by simp [hkk]) ?_
          try refine wpAny_bind (wpAny_pure ?_)
          rw [sameMem]; dsimp only
          have hsl := slot_live R.tab.ris hi
          simp only [if_true, hsl, R.row hr]
          refine wpAny_bind (wpAny_isSame_ref_self (wpAny_bind (wpAny_pure ?_))); simp only [if_true]
          refine wp_if_neg (by simp [hkk]) ?_
          refine look_from R hx hu hKf hK hKb yes no f (c + (q + 1)) _ rfl (by omega) (by omega) fun j r2 hj hk2 => ?_
          obtain ⟨d, d1, d2, d3⟩ := hre j r2 hj hk2
          refine ⟨d, ?_, d2, d3⟩
          rcases Nat.lt_trichotomy d (c + q) with z | z | z
          · exact absurd ((at_ j r2 hj).trans (by rw [hk2])) (hno (d - c) j (by omega) (by rw [e1, show c + (d - c) = d by omega]; exact d3))
          · rw [z] at d3
            have q1 := slot_live R.tab.ris d3
            rw [hsl] at q1; injection q1 with q1
            rw [← q1, hr] at hj
            exact absurd ((congrArg Prod.snd (Option.some.inj hj)).trans hk2) hkk
          · omega
      by_cases hl : t.led = true
      · refine wp_if_neg (by simp [hl]) ?_
        try refine wpAny_bind (wpAny_pure ?_)
        exact rest
      · refine wp_if_pos (by simp [hl]) (wpAny_bind (seen_key hx (fun y hy => ?_) ?_))
        · obtain ⟨z, hz, rfl⟩ := List.mem_map.mp hy
          have hz2 : z ∈ es.toList := by
            have : z ∈ es ∧ z.1 = k.hash w := by simpa using hz
            simpa using this.1
          rw [R.rows] at hz2
          obtain ⟨r2, hr2, rfl⟩ := List.mem_map.mp hz2
          exact ⟨r2.2, r2.1, rfl, R.keys r2 hr2⟩
        · refine wp_if_neg (by decide) ?_
          try refine wpAny_bind (wpAny_pure ?_)
          exact rest
    · have hp : t.probe (fun i => (es[i]?.map (·.1)).getD 0) (k.hash w) (st.getD (t.probeStart (k.hash w))) = some (.empty (way t.mask (k.hash w) K) none) := by
        have e2 : way t.mask (k.hash w) K = (nth t.mask (begN t (k.hash w) c) (K - c)).j := by rw [e1, hmore]
        rw [hst, e2]; exact hpr
      rw [hp]; dsimp only
      refine wpAny_pure (no fun hm => ?_)
      obtain ⟨r2, hr2, hk2⟩ := List.mem_map.mp hm
      obtain ⟨j, hj⟩ := List.mem_iff_getElem?.mp hr2
      obtain ⟨d, d1, d2, d3⟩ := hre j r2 hj hk2
      exact absurd ((at_ j r2 hj).trans (by rw [hk2])) (hno (d - c) j (by omega) (by rw [e1, show c + (d - c) = d by omega]; exact d3))
/-- the search, whole -/
theorem look_at (R : SetN w s.heap a L es ep t) {x : Addr} {k : NestedKey} (hx : IsN s.heap k x) (hu : A.units + 8 < cLine) {Q : SetFound → Shared → Prop} (yes : k ∈ L.map (·.2) → Q (.there none) s)
    (no : ∀ K, k ∉ L.map (·.2) → way t.mask (k.hash w) K ∉ t.place.toList → (∀ c, c < K → way t.mask (k.hash w) c ∈ t.place.toList) → Q (.free (way t.mask (k.hash w) K) false) s) :
    wpAny (model P w) A (setSearch a (.ref x) (k.hash w) true) Q E s := by
  have hfew := R.few
  obtain ⟨K, hKf, hK, hKb⟩ := R.tab.first (by rw [hss, List.length_map, R.m7]; omega) (k.hash w)
  have big : K < 100000 := by
    have : SetTable.turns t.mask ≤ 200 := by rw [R.m7]; decide
    omega
  unfold setSearch
  refine look_from R hx hu hKf hK hKb yes (fun hn => no K hn hK hKb) 100000 0 none rfl (Nat.zero_le _) (by omega) fun i r hi hk => ?_
  have h1 : (hss w L)[i]? = some (k.hash w) := by rw [hss, List.getElem?_map, hi, ← hk]; rfl
  have h2 : i < t.place.toList.length := by
    have z := (List.getElem?_eq_some_iff.mp h1).1
    rw [Array.length_toList, R.tab.sz]; exact z
  obtain ⟨d, hd, e⟩ := R.tab.before hK h1 (List.getElem?_eq_getElem h2)
  exact ⟨d, Nat.zero_le _, hd, by rw [List.getElem?_eq_getElem h2, e]⟩
theorem isN_same {h h' : Heap} {k : NestedKey} {b : Addr} {o : Obj} (hb : IsN h k b) (ho : h.get? a = some o) (hd : o.data = .set es ep t) (sb : Heap.SameBut a h h') : IsN h' k b :=
  ⟨NestedIs.at (fun c ob vs n hc hq => (sb.2 c fun z => by subst z; rw [ho] at hc; cases hc; rw [hd] at hq; cases hq).trans hc) k _ hb.1, hb.2⟩
theorem isN_keep {h h' : Heap} {k : NestedKey} {b : Addr} (hb : IsN h k b) (kp : ∀ c o, h.get? c = some o → h'.get? c = some o) : IsN h' k b :=
  ⟨NestedIs.at (fun c ob vs n hc _ => kp c ob hc) k _ hb.1, hb.2⟩
/-- one is added -/
theorem put_at (R : SetN w s.heap a L es ep t) {x : Addr} {k : NestedKey} (hx : IsN s.heap k x) (hu : A.units + 8 < cLine) (hfew : L.length + 1 ≤ 4) {Q : Bool → Shared → Prop}
    (hQ : ∀ b h' L' es' ep' t', Heap.SameBut a s.heap h' → SetN w h' a L' es' ep' t' → (k ∈ L.map (·.2) → L' = L) → (k ∉ L.map (·.2) → L'.Perm ((x, k) :: L)) → Q b { s with heap := h' }) :
    wpAny (model P w) A (setAddHashed a (.ref x) (k.hash w)) Q E s := by
  obtain ⟨o, g1, g2, g3⟩ := R.ob
  have hfit := R.fit; have hsl := rws_len R.rows; have hm7 := R.m7
  unfold setAddHashed; refine wpAny_holding ?_
  rw [show (100000 : Nat) = 99999 + 1 from rfl, setAddHashedIn_succ]
  refine wpAny_bind (wpAny_setState_of g1 g3 hfit ?_); dsimp only
  refine wp_if_neg (by simp [byScan, Value.scannable]) ?_
  try refine wpAny_bind (wpAny_pure ?_)
  refine wpAny_bind (look_at R hx hu (fun hm => ?_) fun K hm hK hb => ?_)
  · dsimp only
    exact wpAny_pure (hQ false s.heap L es ep t (Heap.SameBut.refl a s.heap) R (fun _ => rfl) fun z => absurd hm z)
  · dsimp only
    refine wpAny_bind (wpAny_setState_of g1 g3 hfit ?_); dsimp only
    obtain ⟨q1, q2, q3, q4, q5, q6, q7, q8, q9⟩ := R.tab.put hK hb
    generalize hpt : t.put (way t.mask (k.hash w) K) = pt at q1 q3 q4 q5 q6 q7 q8 q9 ⊢
    obtain ⟨t1, p⟩ := pt
    dsimp only at q1 q3 q4 q5 q6 q7 q8 q9 ⊢
    subst q1
    have last : ∀ byv : Bool, wpAny (model P w) A (do
        let t2 := if byv then t1 else { t1 with plain := false }
        storeSet a (SetTable.insertAt es (SetTable.below t.place (way t.mask (k.hash w) K)) (k.hash w, Value.ref x)) t2
        if !false && t2.tooFull then setRelay a (SetTable.grown (es.size + 1))
        pure true) Q E s := by
      intro byv
      have T2 : TabOk (if byv then t1 else { t1 with plain := false }) ((hss w L).take (SetTable.below t.place (way t.mask (k.hash w) K)) ++ k.hash w :: (hss w L).drop (SetTable.below t.place (way t.mask (k.hash w) K))) := by
        cases byv
        · exact ⟨q3.ris, q3.dm, q3.sz, q3.mok, q3.bd, q3.reach⟩
        · exact q3
      have l2 : (if byv then t1 else { t1 with plain := false }).led = t.led := by cases byv <;> exact q5
      have m2 : (if byv then t1 else { t1 with plain := false }).mask = 7 := by cases byv <;> exact q4.trans hm7
      have f2 : (if byv then t1 else { t1 with plain := false }).fill = (hss w L).length + 1 := by cases byv <;> exact q9
      dsimp only
      generalize (if byv then t1 else { t1 with plain := false }) = t2 at T2 l2 m2 f2 ⊢
      have hin : (SetTable.insertAt es (SetTable.below t.place (way t.mask (k.hash w) K)) (k.hash w, Value.ref x)).toList = rws w (L.take (SetTable.below t.place (way t.mask (k.hash w) K)) ++ (x, k) :: L.drop (SetTable.below t.place (way t.mask (k.hash w) K))) := by
        rw [SetTable.toList_insertAt, R.rows]; unfold rws
        rw [List.map_append, List.map_cons, List.map_take, List.map_drop]
      have hhs : hss w (L.take (SetTable.below t.place (way t.mask (k.hash w) K)) ++ (x, k) :: L.drop (SetTable.below t.place (way t.mask (k.hash w) K))) = (hss w L).take (SetTable.below t.place (way t.mask (k.hash w) K)) ++ k.hash w :: (hss w L).drop (SetTable.below t.place (way t.mask (k.hash w) K)) := by
        unfold hss
        rw [List.map_append, List.map_cons, List.map_take, List.map_drop]
      rw [← hhs] at T2
      have pm := put_perm L (SetTable.below t.place (way t.mask (k.hash w) K)) (x, k)
      generalize SetTable.insertAt es (SetTable.below t.place (way t.mask (k.hash w) K)) (k.hash w, Value.ref x) = es1 at hin ⊢
      generalize L.take (SetTable.below t.place (way t.mask (k.hash w) K)) ++ (x, k) :: L.drop (SetTable.below t.place (way t.mask (k.hash w) K)) = L1 at pm T2 hin
      have hlen : L1.length = L.length + 1 := pm.length_eq
      have hes := rws_len hin
      refine wpAny_bind (wpAny_storeSet_of g1 g3 ?_ (by rw [hes, sizeLine_eq]; omega))
      have sb : Heap.SameBut a s.heap (s.heap.update a (Obj.putSet es1 t2)) := Heap.SameBut.update ..
      have ho1 := store_at (es' := es1) (t' := t2) g1 g3
      generalize s.heap.update a (Obj.putSet es1 t2) = h1 at sb ho1 ⊢
      have nf : ¬ (!false && t2.tooFull) = true := by
        unfold SetTable.tooFull
        rw [f2, m2, hss, List.length_map]
        simp only [Bool.not_false, Bool.true_and, decide_eq_true_eq]
        omega
      have fine : SetN w h1 a L1 es1 (ep + 1) t2 := ⟨⟨_, ho1, ⟨g2.1, g2.2.1, g2.2.2⟩, rfl⟩, hin, T2, (pm.map (·.2)).nodup_iff.mpr (by rw [List.map_cons]; exact List.nodup_cons.mpr ⟨hm, R.nd⟩),
        fun r hr => by
          rcases List.mem_cons.mp (pm.mem_iff.mp hr) with e | hr
          · rw [e]; exact isN_same hx g1 g3 sb
          · exact isN_same (R.keys r hr) g1 g3 sb, by rw [l2]; exact R.led, m2, by omega⟩
      first
        | refine wp_if_neg nf ?_
        | (refine wpAny_bind ?_; refine wp_if_neg nf ?_; refine wpAny_pure ?_)
      try refine wpAny_bind (wpAny_pure ?_)
      exact wpAny_pure (hQ true h1 L1 es1 (ep + 1) t2 sb fine (fun z => absurd z hm) fun _ => pm)
    by_cases hp1 : t1.plain = true
    · first
        | (refine wpAny_bind ?_; refine wp_if_pos hp1 ?_; refine told_key k _ 8 s hx.1 hx.2 _ _ _ fun b => ?_)
        | refine wp_if_pos hp1 (wpAny_bind (told_key k _ 8 s hx.1 hx.2 _ _ _ fun b => ?_))
      exact last b
    · first
        | (refine wpAny_bind ?_; refine wp_if_neg hp1 ?_; refine wpAny_pure ?_)
        | refine wp_if_neg hp1 (wpAny_bind (wpAny_pure ?_))
      exact last true
end
end KaN


set_option maxRecDepth 100000
set_option maxHeartbeats 3200000
/-! set(xs) of such keys -/
namespace KaN
open PySem PyProof.Rows L2
section
variable {P : Program} {w : World} {A : Around} {E : Value → Shared → Prop} {s : Shared}
/-- an empty set, just made -/
abbrev set0 (w : World) : Obj := { cls := .type "set", dict := none, data := .set #[] 0 (.fresh 0 0 (!w.params.followText "set-order")) }
theorem SetN.new {h : Heap} {a : Addr} (ho : h.get? a = some (set0 w)) : SetN w h a [] #[] 0 (.fresh 0 0 (!w.params.followText "set-order")) where
  ob := ⟨_, ho, ⟨rfl, rfl, rfl⟩, rfl⟩
  rows := rfl
  tab := ⟨List.Pairwise.nil, rfl, rfl, .inl rfl, fun x hx => (by cases hx), fun i h j hi => (by simp at hi)⟩
  nd := List.nodup_nil
  keys := fun r hr => nomatch hr
  led := by
    by_cases c : w.params.followText "set-order" = true
    · exact .inl c
    · exact .inr (by show (!w.params.followText "set-order") = true; simpa using c)
  m7 := rfl
  few := Nat.zero_le _
theorem SetN.held {h h' : Heap} {a : Addr} {L : List Rw} {es : Array (Int × Value)} {ep : Nat} {t : SetTable} (R : SetN w h a L es ep t) (ha : ∀ o, h.get? a = some o → h'.get? a = some o) (hk : ∀ r ∈ L, IsN h' r.2 r.1) : SetN w h' a L es ep t :=
  let ⟨o, g, r⟩ := R.ob; ⟨⟨o, ha o g, r⟩, R.rows, R.tab, R.nd, hk, R.led, R.m7, R.few⟩
/-- what of the first i items is in -/
structure In_ (ks : List Rw) (i : Nat) (L : List Rw) : Prop where
  sub : ∀ r ∈ L, r ∈ ks.take i
  all : ∀ r ∈ ks.take i, r.2 ∈ L.map (·.2)
  len : L.length ≤ i
theorem In_.nil (ks : List Rw) : In_ ks 0 [] where
  sub := fun _ h => (by cases h)
  all := fun _ h => (by simp at h)
  len := Nat.le_refl _
theorem In_.next {ks L L' : List Rw} {i : Nat} {x : Rw} (g : In_ ks i L) (e : ks[i]? = some x) (c1 : x.2 ∈ L.map (·.2) → L' = L) (c2 : x.2 ∉ L.map (·.2) → L'.Perm (x :: L)) : In_ ks (i + 1) L' := by
  have tk : ks.take (i + 1) = ks.take i ++ [x] := by rw [List.take_succ, e]; rfl
  have up : ∀ r ∈ L, r ∈ ks.take (i + 1) := fun r h => by rw [tk]; exact List.mem_append_left _ (g.sub r h)
  rcases Classical.em (x.2 ∈ L.map (·.2)) with c | c
  · rw [c1 c]
    refine ⟨up, fun r h => ?_, Nat.le_succ_of_le g.len⟩
    rw [tk] at h
    rcases List.mem_append.mp h with z | z
    · exact g.all r z
    · rw [List.mem_singleton.mp z]; exact c
  · have pm := c2 c
    refine ⟨fun r h => ?_, fun r h => ?_, by rw [pm.length_eq]; exact Nat.succ_le_succ g.len⟩
    · rcases List.mem_cons.mp (pm.mem_iff.mp h) with z | z
      · rw [z, tk]; exact List.mem_append_right _ (List.mem_singleton.mpr rfl)
      · exact up r z
    · refine (pm.map (·.2)).mem_iff.mpr ?_
      rw [tk] at h
      rcases List.mem_append.mp h with z | z
      · exact List.mem_cons_of_mem _ (g.all r z)
      · rw [List.mem_singleton.mp z]; exact List.mem_cons_self

theorem fill_loop {I : Addr} {fp wr : List Addr} {G : Array GenState → Array GenState → Prop} {n : Nat} {Pv : Nat → Value → Prop} {St : Nat → Shared → Prop} {R : Result → Shared → Prop}
    (W : WalksS P w A.in1 I fp wr G n Pv St) (S : Addr) (hSf : S ∉ fp) (ks : List Rw) (hn : n = ks.length) (h4 : ks.length ≤ 4) (hval : ∀ i v, Pv i v → ∃ r, ks[i]? = some r ∧ v = .ref r.1)
    (h0 : Heap) (hk : ∀ r ∈ ks, IsN h0 r.2 r.1) (hS0 : h0.get? S = none) (hw0 : ∀ b ∈ wr, h0.get? b = none) (hu : A.units + 12 < cLine) :
    ∀ (d i : Nat) (s : Shared), n - i = d → i ≤ n → St i s → (∀ b o, h0.get? b = some o → s.heap.get? b = some o) → (∃ L es ep t, SetN w s.heap S L es ep t ∧ In_ ks i L) →
      (∀ s' L es ep t, Moved (S :: wr) G s s' → SetN w s'.heap S L es ep t → In_ ks n L → (∀ b o, h0.get? b = some o → s'.heap.get? b = some o) → R (.ok (.ret .none)) s') →
      codeAny (model P w) A (.builtin "set.update.loop" ⟨[.ref S, .ref I], []⟩) R s := by
  have hSw : S ∉ wr := fun h => hSf (W.sub _ h)
  have wide : ∀ b ∈ wr, b ∈ S :: wr := fun b m => List.mem_cons_of_mem _ m
  have on : ∀ {s s' : Shared}, Moved wr G s s' → (∀ b o, h0.get? b = some o → s.heap.get? b = some o) → ∀ b o, h0.get? b = some o → s'.heap.get? b = some o := fun mv kp b o e =>
    mv.heap b o (fun m => by rw [hw0 b m] at e; cases e) (kp b o e)
  have inu : A.in1.units + 8 < cLine := by simp only [Around.in1_units]; omega
  intro d
  induction d with
  | zero =>
    intro i s e hi st kp ⟨L, es, ep, t, hS, g⟩ hR
    obtain rfl : i = n := by omega
    refine codeAny_builtin F.entry_set_update_loop ?_
    rw [Around.under_plainId F.plain_set_update_loop _]
    change wpAny _ A.in1 (pyNext (.ref I) >>= _) _ _ s
    refine wpAny_bind (W.done s _ _ st fun s2 mv => ?_)
    change wpAny _ A.in1 (ret Value.none) _ _ s2
    have kp2 := on mv kp
    exact wpAny_pure (hR s2 L es ep t (mv.mono wide) (hS.held (fun o z => mv.heap S o hSw z) fun r hr => isN_keep (hk r (List.mem_of_mem_take (g.sub r hr))) kp2) g kp2)
  | succ d ih =>
    intro i s e hi st kp ⟨L, es, ep, t, hS, g⟩ hR
    have hlt : i < n := by omega
    refine codeAny_builtin F.entry_set_update_loop ?_
    rw [Around.under_plainId F.plain_set_update_loop _]
    change wpAny _ A.in1 (pyNext (.ref I) >>= _) _ _ s
    refine wpAny_bind (W.item i s _ _ hlt st fun v s2 hP st2 mv => ?_)
    obtain ⟨r, hr, rfl⟩ := hval i v hP
    have kp2 := on mv kp
    have S2 : SetN w s2.heap S L es ep t := hS.held (fun o z => mv.heap S o hSw z) fun q hq => isN_keep (hk q (List.mem_of_mem_take (g.sub q hq))) kp2
    have hx : IsN s2.heap r.2 r.1 := isN_keep (hk r (List.mem_of_getElem? hr)) kp2
    change wpAny _ A.in1 (holding [Value.ref r.1] (setAdd S (.ref r.1)) >>= _) _ _ s2
    refine wpAny_bind (wpAny_holding ?_); unfold setAdd; refine wpAny_holding ?_
    refine wpAny_bind (pyHash_key r.2 _ A.in1 s2 _ hx.1 (by have := hx.2; omega) ?_)
    refine put_at (s := { s2 with toks := s2.toks + r.2.draws }) S2 hx inu (by have := g.len; omega) fun b h' L' es' ep' t' sb SN c1 c2 => ?_
    have kp3 : ∀ b o, h0.get? b = some o → h'.get? b = some o := fun b o z => (sb.2 b fun y => by rw [y, hS0] at z; cases z).trans (kp2 b o z)
    refine wpAny_pure ⟨plainId_quiet F.plain_set_update_loop _, ih (i + 1) _ (by omega) hlt (W.frame _ s2 _ _ st2 (Nat.le_add_right _ _) fun b m o z => ?_) kp3 ⟨L', es', ep', t', SN, g.next hr c1 c2⟩ fun s3 L3 es3 ep3 t3 mv3 S3 g3 kp4 => ?_⟩
    · exact (sb.2 b fun y : b = S => hSf (y ▸ m)).trans z
    · exact hR s3 L3 es3 ep3 t3 (Moved.trans W.gtrans ((mv.mono wide).then_heap (Nat.le_add_right _ _) fun b o m z => (sb.2 b fun y : b = S => m (y ▸ List.mem_cons_self)).trans z) mv3) S3 g3 kp4

/-- set(xs), xs a list of at most four such keys -/
theorem call_set_keys {l : Addr} {items : Array Value} (ks : List Rw) {Q : Value → Shared → Prop} (hh : A.handled = none) (hl : s.heap.IsList l items) (hit : items.toList = ks.map fun r => Value.ref r.1)
    (hk : ∀ r ∈ ks, IsN s.heap r.2 r.1) (h4 : ks.length ≤ 4) (hu : A.units + 20 < cLine)
    (h : ∀ (h' : Heap) (tk : Nat) L es ep t, SetN w h' s.heap.objs.size L es ep t → In_ ks ks.length L → (∀ b o, s.heap.get? b = some o → h'.get? b = some o) → Q (.ref s.heap.objs.size) { s with heap := h', toks := tk }) :
    wpAny (model P w) A (call (.type "set") [.ref l]) Q E s := by
  have hisz : items.size = ks.length := by
    have := congrArg List.length hit
    rwa [Array.length_toList, List.length_map] at this
  obtain ⟨c, tl, hmro⟩ := F.called_set.mro
  have x1 := F.called_set.made
  have x2 := F.called_set.sub
  refine wpAny_call (codeAny_of_tree ?_)
  change wpAny _ _ (callAny (.type "set") _) _ _ _
  refine wpAny_pure ⟨Code.quiet_builtin _ (by decide +kernel), codeAny_builtin F.entry_type_call ?_⟩
  rw [Around.under_plain (weight_type_call_type "set" [.ref l] []) rfl]
  have x3 := F.called_set.notType
  have x4 := F.called_set.canCreate
  have x5 := F.typeCall_set_1 (.ref l)
  repeat (any_goals (first | assumption | wp_step))
  refine codeAny_mono (code_set_led1 (.ref l) (E := E) (Q₁ := fun ob z => ob = .ref s.heap.objs.size ∧ z = { s with heap := s.heap.push (set0 w) }) ⟨rfl, rfl⟩) fun r s1 hr => ?_
  cases r with
  | error e => exact hr
  | ok fl =>
    cases fl with
    | ret ob =>
      obtain ⟨rfl, rfl⟩ := hr
      have hS : (s.heap.push (set0 w)).get? s.heap.objs.size = some (set0 w) := Heap.get?_push_size _ rfl
      have hT : Shared.TypeIs { s with heap := s.heap.push (set0 w) } (.ref s.heap.objs.size) "set" := ⟨_, hS, rfl⟩
      have x6 := F.called_set.init.lookup
      have x7 := F.called_set.init.bind (.ref s.heap.objs.size)
      repeat (any_goals (first | assumption | wp_step))
      refine codeAny_mono (codeAny_call_builtin (R := wants (fun r z => r = .none ∧ ∃ h' tk L es ep t, z = { s with heap := h', toks := tk } ∧ SetN w h' s.heap.objs.size L es ep t ∧ In_ ks ks.length L ∧
          (∀ b o, s.heap.get? b = some o → h'.get? b = some o)) E) F.called_set.init.plain F.entry_set_init (check_set_init_1 hT ?_)) fun r2 s2 hr2 => ?_
      · obtain ⟨ol, hol, hcl, nl, hdl⟩ := hl
        obtain ⟨ocls, odict, odata, oslots⟩ := ol
        simp only at hcl hdl
        subst hcl; subst hdl
        have hol2 : (s.heap.push (set0 w)).get? l = some { cls := .type "list", dict := odict, data := .seq items nl, slots := oslots } := Heap.get?_push_of_some _ hol
        have y1 := F.sub_list_set
        have y2 := F.sub_list_frozenset
        have y3 : (Value.type "list" == Value.type "dict") = false := by decide
        have hl1 : (s.heap.push (set0 w)).IsList l items := ⟨_, hol2, rfl, nl, rfl⟩
        unfold Builtin.«set.__init__» noKeywords Builtin.Frozenset.updateFrom
        generalize hPI : pyIter = PI
        wp_walk
        subst hPI
        refine wpAny_pyIter_list hl1 ?_
        refine wpAny_bind (wpAny_runValue ?_)
        have hlS : l < s.heap.objs.size := Heap.lt_size hol
        have z1 : (s.heap.push (set0 w)).objs.size = s.heap.objs.size + 1 := Heap.size_push ..
        have ne1 : l ≠ (s.heap.push (set0 w)).objs.size := by rw [z1]; exact Nat.ne_of_lt (Nat.lt_succ_of_lt hlS)
        have gone : ∀ b, s.heap.objs.size ≤ b → s.heap.get? b = none := fun b hb => by
          cases q : s.heap.get? b with
          | none => rfl
          | some o => exact absurd (Nat.lt_of_lt_of_le (Heap.lt_size q) hb) (Nat.lt_irrefl _)
        refine fill_loop ((Walks.list (by simp [hh]) _ l ne1 items).toS) s.heap.objs.size ?out ks hisz h4 (fun i v hv => ?val) s.heap hk (gone _ (Nat.le_refl _)) (fun b hb => gone b (by rw [List.mem_singleton.mp hb, z1]; exact Nat.le_succ _))
          (by simp only [Around.in1_units]; omega) (items.size - 0) 0 _ (by omega) (Nat.zero_le _) ⟨⟨_, Heap.get?_push_size _ rfl, rfl, rfl⟩, (hl1.push _)⟩ (fun b o e => Heap.get?_push_of_some _ (Heap.get?_push_of_some _ e)) ?beg ?fin
        case out =>
          rw [z1]; simp only [List.mem_cons, List.mem_singleton, List.not_mem_nil, or_false, not_or]; exact ⟨Nat.ne_of_lt (Nat.lt_succ_self _), Nat.ne_of_gt hlS⟩
        case val =>
          have q : items.toList[i]? = some v := by rw [Array.getElem?_toList]; exact hv
          rw [hit, List.getElem?_map] at q
          obtain ⟨r, hr, e⟩ := Option.map_eq_some_iff.mp q
          exact ⟨r, hr, e.symm⟩
        case beg => exact ⟨[], #[], 0, _, SetN.new (Heap.get?_push_of_some _ hS), In_.nil ks⟩
        case fin =>
          intro s3 L es ep t mv S3 g3 kp
          obtain ⟨h', g2, d2, tk, os2⟩ := s3
          have eg : g2 = s.gens := mv.gens
          have ed : d2 = s.drawn := mv.drawn
          have eo : os2 = s.os := mv.os
          subst eg; subst ed; subst eo
          refine wpAny_pure ?_
          change wpAny _ _ (ret Value.none) _ _ _
          rw [hisz] at g3
          exact wpAny_pure ⟨rfl, h', tk, L, es, ep, t, rfl, S3, g3, kp⟩
      · cases r2 with
        | error e => exact hr2
        | ok f2 =>
          cases f2 with
          | ret v =>
            obtain ⟨rfl, h', tk, L, es, ep, t, rfl, S3, g3, kp⟩ := hr2
            repeat (any_goals (first | assumption | wp_step))
            exact h _ _ _ _ _ _ S3 g3 kp
          | _ => exact hr2.elim
    | _ => exact hr.elim
end
end KaN


set_option maxRecDepth 100000
set_option maxHeartbeats 3200000
/-! set(xs) of a tuple of such keys -/
namespace KaN
open PySem PyProof.Rows L2
section
variable {P : Program} {w : World} {A : Around} {E : Value → Shared → Prop} {s : Shared}
/-- set(xs), xs a tuple of at most four such keys -/
theorem call_set_keysT {l : Addr} {items : Array Value} (ks : List Rw) {Q : Value → Shared → Prop} (hh : A.handled = none) (hl : s.heap.IsTuple l items) (hit : items.toList = ks.map fun r => Value.ref r.1)
    (hk : ∀ r ∈ ks, IsN s.heap r.2 r.1) (h4 : ks.length ≤ 4) (hu : A.units + 20 < cLine)
    (h : ∀ (h' : Heap) (tk : Nat) L es ep t, SetN w h' s.heap.objs.size L es ep t → In_ ks ks.length L → (∀ b o, s.heap.get? b = some o → h'.get? b = some o) → Q (.ref s.heap.objs.size) { s with heap := h', toks := tk }) :
    wpAny (model P w) A (call (.type "set") [.ref l]) Q E s := by
  have hisz : items.size = ks.length := by
    have := congrArg List.length hit
    rwa [Array.length_toList, List.length_map] at this
  obtain ⟨c, tl, hmro⟩ := F.called_set.mro
  have x1 := F.called_set.made
  have x2 := F.called_set.sub
  refine wpAny_call (codeAny_of_tree ?_)
  change wpAny _ _ (callAny (.type "set") _) _ _ _
  refine wpAny_pure ⟨Code.quiet_builtin _ (by decide +kernel), codeAny_builtin F.entry_type_call ?_⟩
  rw [Around.under_plain (weight_type_call_type "set" [.ref l] []) rfl]
  have x3 := F.called_set.notType
  have x4 := F.called_set.canCreate
  have x5 := F.typeCall_set_1 (.ref l)
  repeat (any_goals (first | assumption | wp_step))
  refine codeAny_mono (code_set_led1 (.ref l) (E := E) (Q₁ := fun ob z => ob = .ref s.heap.objs.size ∧ z = { s with heap := s.heap.push (set0 w) }) ⟨rfl, rfl⟩) fun r s1 hr => ?_
  cases r with
  | error e => exact hr
  | ok fl =>
    cases fl with
    | ret ob =>
      obtain ⟨rfl, rfl⟩ := hr
      have hS : (s.heap.push (set0 w)).get? s.heap.objs.size = some (set0 w) := Heap.get?_push_size _ rfl
      have hT : Shared.TypeIs { s with heap := s.heap.push (set0 w) } (.ref s.heap.objs.size) "set" := ⟨_, hS, rfl⟩
      have x6 := F.called_set.init.lookup
      have x7 := F.called_set.init.bind (.ref s.heap.objs.size)
      repeat (any_goals (first | assumption | wp_step))
      refine codeAny_mono (codeAny_call_builtin (R := wants (fun r z => r = .none ∧ ∃ h' tk L es ep t, z = { s with heap := h', toks := tk } ∧ SetN w h' s.heap.objs.size L es ep t ∧ In_ ks ks.length L ∧
          (∀ b o, s.heap.get? b = some o → h'.get? b = some o)) E) F.called_set.init.plain F.entry_set_init (check_set_init_1 hT ?_)) fun r2 s2 hr2 => ?_
      · obtain ⟨ol, hol, hcl, nl, hdl⟩ := hl
        obtain ⟨ocls, odict, odata, oslots⟩ := ol
        simp only at hcl hdl
        subst hcl; subst hdl
        have hol2 : (s.heap.push (set0 w)).get? l = some { cls := .type "tuple", dict := odict, data := .seq items nl, slots := oslots } := Heap.get?_push_of_some _ hol
        have y1 := F.sub_tuple_set
        have y2 := F.sub_tuple_frozenset
        have y3 : (Value.type "tuple" == Value.type "dict") = false := by decide
        have hl1 : (s.heap.push (set0 w)).IsTuple l items := ⟨_, hol2, rfl, nl, rfl⟩
        unfold Builtin.«set.__init__» noKeywords Builtin.Frozenset.updateFrom
        generalize hPI : pyIter = PI
        wp_walk
        subst hPI
        refine wpAny_pyIter_tuple hl1 ?_
        refine wpAny_bind (wpAny_runValue ?_)
        have hlS : l < s.heap.objs.size := Heap.lt_size hol
        have z1 : (s.heap.push (set0 w)).objs.size = s.heap.objs.size + 1 := Heap.size_push ..
        have ne1 : l ≠ (s.heap.push (set0 w)).objs.size := by rw [z1]; exact Nat.ne_of_lt (Nat.lt_succ_of_lt hlS)
        have gone : ∀ b, s.heap.objs.size ≤ b → s.heap.get? b = none := fun b hb => by
          cases q : s.heap.get? b with
          | none => rfl
          | some o => exact absurd (Nat.lt_of_lt_of_le (Heap.lt_size q) hb) (Nat.lt_irrefl _)
        refine fill_loop ((Walks.tuple (by simp [hh]) _ l ne1 items).toS) s.heap.objs.size ?out ks hisz h4 (fun i v hv => ?val) s.heap hk (gone _ (Nat.le_refl _)) (fun b hb => gone b (by rw [List.mem_singleton.mp hb, z1]; exact Nat.le_succ _))
          (by simp only [Around.in1_units]; omega) (items.size - 0) 0 _ (by omega) (Nat.zero_le _) ⟨⟨_, Heap.get?_push_size _ rfl, rfl, rfl⟩, (hl1.push _)⟩ (fun b o e => Heap.get?_push_of_some _ (Heap.get?_push_of_some _ e)) ?beg ?fin
        case out =>
          rw [z1]; simp only [List.mem_cons, List.mem_singleton, List.not_mem_nil, or_false, not_or]; exact ⟨Nat.ne_of_lt (Nat.lt_succ_self _), Nat.ne_of_gt hlS⟩
        case val =>
          have q : items.toList[i]? = some v := by rw [Array.getElem?_toList]; exact hv
          rw [hit, List.getElem?_map] at q
          obtain ⟨r, hr, e⟩ := Option.map_eq_some_iff.mp q
          exact ⟨r, hr, e.symm⟩
        case beg => exact ⟨[], #[], 0, _, SetN.new (Heap.get?_push_of_some _ hS), In_.nil ks⟩
        case fin =>
          intro s3 L es ep t mv S3 g3 kp
          obtain ⟨h', g2, d2, tk, os2⟩ := s3
          have eg : g2 = s.gens := mv.gens
          have ed : d2 = s.drawn := mv.drawn
          have eo : os2 = s.os := mv.os
          subst eg; subst ed; subst eo
          refine wpAny_pure ?_
          change wpAny _ _ (ret Value.none) _ _ _
          rw [hisz] at g3
          exact wpAny_pure ⟨rfl, h', tk, L, es, ep, t, rfl, S3, g3, kp⟩
      · cases r2 with
        | error e => exact hr2
        | ok f2 =>
          cases f2 with
          | ret v =>
            obtain ⟨rfl, h', tk, L, es, ep, t, rfl, S3, g3, kp⟩ := hr2
            repeat (any_goals (first | assumption | wp_step))
            exact h _ _ _ _ _ _ S3 g3 kp
          | _ => exact hr2.elim
    | _ => exact hr.elim
end
end KaN


set_option maxRecDepth 100000
set_option maxHeartbeats 3200000
/-! set(xs), sorted(set): tuples of whole numbers, texts, and tuples of these -/
namespace KaN
open PySem PySem.W PyProof.Rows L2
mutual
def nk : PyData → NestedKey
  | .none => .none
  | .bool _ => .none
  | .int i => .num i
  | .str x => .text x
  | .list _ => .none
  | .tuple xs => .tup (nkA xs)
  | .dict _ => .none
def nkA : List PyData → List NestedKey
  | [] => []
  | x :: r => nk x :: nkA r
end
mutual
theorem nk_depth : ∀ d : PyData, (nk d).depth ≤ d.depth
  | .none => by simp [nk, NestedKey.depth]
  | .bool _ => by simp [nk, NestedKey.depth]
  | .int i => by simp [nk, NestedKey.depth]
  | .str x => by simp [nk, NestedKey.depth]
  | .list _ => by simp [nk, NestedKey.depth]
  | .tuple xs => by
    have := nk_depths xs
    simp only [nk, NestedKey.depth, PyData.depth]; omega
  | .dict _ => by simp [nk, NestedKey.depth]
theorem nk_depths : ∀ ds : List PyData, NestedKey.depthAll (nkA ds) ≤ PyData.depthAll ds
  | [] => by simp [nkA, NestedKey.depthAll]
  | x :: r => by
    have h1 := nk_depth x
    have h2 := nk_depths r
    simp only [nkA, NestedKey.depthAll, PyData.depthAll]; omega
end
mutual
/-- v is such a key, as data -/
inductive Ky (K : PySem.W.Frag) (H : Hp) : V → PyData → Prop
  | int (i : Int) : Ky K H (.int i) (.int i)
  | str (x : Str) : Ky K H (.str x) (.str x)
  | tup {a : Addr} {xs : List V} {ds : List PyData} (e : SqT K H a xs) (r : KyA K H xs ds) : Ky K H (.ref a) (.tuple ds)
inductive KyA (K : PySem.W.Frag) (H : Hp) : List V → List PyData → Prop
  | nil : KyA K H [] []
  | cons {v : V} {vs : List V} {d : PyData} {ds : List PyData} (h : Ky K H v d) (r : KyA K H vs ds) : KyA K H (v :: vs) (d :: ds)
end
section
variable {X : Cx} {pins : List (Addr × Obj)} {σ : L2.St} {H : Hp} {s : Shared}
mutual
theorem Ky.real (I : Inv X pins σ H s) : ∀ {v : V} {d : PyData} {u : Value}, Ky X.K H v d → RelV v u → Reads s.heap u d [] ∧ NestedIs s.heap (nk d) u
  | _, _, u, .int i, r => by obtain ⟨t, rfl⟩ := r; exact ⟨.int i t, by rw [nk]; exact .int i t⟩
  | _, _, u, .str x, r => by obtain ⟨t, rfl⟩ := r; exact ⟨.str x t, by rw [nk]; exact .text x t⟩
  | _, _, u, .tup e q, r => by
    cases r
    obtain ⟨its, rv, ⟨o, ho, hc, n, hd⟩, _⟩ := I.tuple e
    obtain ⟨h1, h2⟩ := KyA.real I q rv
    exact ⟨.tuple ho hc hd (by simpa using h1), by rw [nk]; exact .tup ho hc hd (by simpa using h2)⟩
theorem KyA.real (I : Inv X pins σ H s) : ∀ {vs : List V} {ds : List PyData} {us : List Value}, KyA X.K H vs ds → Vals vs us → ReadsAll s.heap us ds [] ∧ NestedAll s.heap (nkA ds) us
  | _, _, us, .nil, r => by cases r; exact ⟨.nil, by rw [nkA]; exact .nil⟩
  | _, _, us, .cons h q, r => by
    cases r with
    | cons r1 r2 =>
      obtain ⟨a1, a2⟩ := Ky.real I h r1
      obtain ⟨b1, b2⟩ := KyA.real I q r2
      exact ⟨.cons (as := []) (bs := []) a1 b1, by rw [nkA]; exact .cons a2 b2⟩
end
end
section
variable {K : PySem.W.Frag} {H H' : Hp}
mutual
theorem Ky.sm (s : Same H H') : ∀ {v : V} {d : PyData}, Ky K H v d → Ky K H' v d
  | _, _, .int i => .int i
  | _, _, .str x => .str x
  | _, _, .tup e r => .tup (e.imp (fun z => z.imp (s _ _) fun ⟨o, q⟩ => ⟨o, s _ _ q⟩) id) (KyA.sm s r)
theorem KyA.sm (s : Same H H') : ∀ {vs : List V} {ds : List PyData}, KyA K H vs ds → KyA K H' vs ds
  | _, _, .nil => .nil
  | _, _, .cons h r => .cons (Ky.sm s h) (KyA.sm s r)
end
end
theorem perm_map_of {α β : Type} {f : α → β} {ys zs : List β} (h : ys.Perm zs) : ∀ l : List α, zs = l.map f → ∃ l' : List α, l'.Perm l ∧ ys = l'.map f := by
  induction h with
  | nil => intro l e; cases l with
    | nil => exact ⟨[], .nil, rfl⟩
    | cons _ _ => cases e
  | cons x _ ih => intro l e; cases l with
    | nil => cases e
    | cons b l =>
      rw [List.map_cons] at e; injection e with e1 e2
      obtain ⟨l1, p, q⟩ := ih l e2
      exact ⟨b :: l1, p.cons b, by rw [List.map_cons, e1, q]⟩
  | swap x y r => intro l e; cases l with
    | nil => cases e
    | cons b l => cases l with
      | nil => cases e
      | cons c l =>
        rw [List.map_cons, List.map_cons] at e; injection e with e1 e2; injection e2 with e2 e3
        exact ⟨c :: b :: l, .swap .., by rw [List.map_cons, List.map_cons, e1, e2, e3]⟩
  | trans _ _ ih1 ih2 => intro l e; obtain ⟨l2, p2, q2⟩ := ih2 l e; obtain ⟨l1, p1, q1⟩ := ih1 l2 q2; exact ⟨l1, p1.trans p2, q1⟩
abbrev Dw := Addr × PyData
abbrev rwOf (p : Dw) : Rw := (p.1, nk p.2)
theorem back_rows {D0 : List Dw} : ∀ {L : List Rw}, (∀ r ∈ L, r ∈ D0.map rwOf) → ∃ D : List Dw, L = D.map rwOf ∧ ∀ p ∈ D, p ∈ D0
  | [], _ => ⟨[], rfl, fun _ z => nomatch z⟩
  | r :: L, h => by
    obtain ⟨p, hp, e⟩ := List.mem_map.mp (h r List.mem_cons_self)
    obtain ⟨D, e2, hs⟩ := back_rows (L := L) fun q m => h q (List.mem_cons_of_mem _ m)
    exact ⟨p :: D, by rw [List.map_cons, e, e2], fun q m => by
      rcases List.mem_cons.mp m with z | z
      · rw [z]; exact hp
      · exact hs q z⟩
section
variable {P : Program} {w : World} {A : Around} {E : Value → Shared → Prop} {s : Shared}
/-- sorted(set) -/
theorem sorted_setN {a : Addr} {D : List Dw} {es : Array (Int × Value)} {ep : Nat} {t : SetTable} {Q : Value → Shared → Prop} (R : SetN w s.heap a (D.map rwOf) es ep t) (hh : A.handled = none)
    (hr : ∀ p ∈ D, Reads s.heap (.ref p.1) p.2 []) (hal : AllAlike (D.map (·.2))) (hk : Sortable (D.map (·.2))) (hu : A.units + 30 < cLine) (hd8 : ∀ p ∈ D, p.2.depth ≤ 8)
    (hQ : ∀ s' p (D1 : List Dw) (c : Nat), (∀ b o, s.heap.get? b = some o → s'.heap.get? b = some o) → s'.gens = s.gens → s'.os = s.os → s.heap.objs.size ≤ p →
      s'.heap.get? p = some (seqObj "list" ((D1.mergeSort (dataLe false (fun z : Dw => z.2))).map fun z => Value.ref z.1).toArray c) → D1.Perm D → Q (.ref p) s') :
    wpAny (model P w) A (call (.builtin "sorted") [.ref a]) Q E s := by
  obtain ⟨o, g1, g2, g3⟩ := R.ob
  have hfew := R.few
  have hsz := rws_len R.rows
  rw [List.length_map] at hfew hsz
  refine Calls.call_function_entry kind_sorted plain_sorted entry_sorted (args_sorted1 _) ?_
  unfold Builtin.«sorted»; refine wpAny_bind (m := checkCount "sorted" 1 1 _) (wpAny_pure ?_)
  refine wpAny_bind (collect_set (A := A.in1) hh ⟨o, g1, g2.1, g3⟩ R.fit (by unfold scanBound; omega) R.tab.ris R.led fun s1 vs k1 hz c1 o1 pm => ?_)
  have hes : es.toList.map (·.2) = D.map fun p => Value.ref p.1 := by rw [R.rows, rws, List.map_map, List.map_map]; rfl
  rw [hes] at pm
  obtain ⟨D1, pD, rfl⟩ := perm_map_of pm D rfl
  have hl1 : D1.length ≤ 4 := by rw [pD.length_eq]; exact hfew
  refine wpAny_bind (wpAny_newList ?_ (by rw [List.length_map, sizeLine_eq]; omega))
  have hoL : (s1.heap.push (seqObj "list" (D1.map fun p => Value.ref p.1).toArray 0)).get? s1.heap.objs.size = some (seqObj "list" (D1.map fun p => Value.ref p.1).toArray 0) := Heap.get?_push_size _ rfl
  have e0 : EachIs (fun (v : Value) (p : Dw) => v = .ref p.1) (D1.map fun p => Value.ref p.1) D1 := by
    have go : ∀ l : List Dw, EachIs (fun (v : Value) (p : Dw) => v = .ref p.1) (l.map fun p => Value.ref p.1) l := by
      intro l; induction l with
      | nil => exact .nil
      | cons p l ih => exact .cons rfl ih
    exact go D1
  have er : EachIs (fun (v : Value) (p : Dw) => ∃ as, Reads (s1.heap.push (seqObj "list" (D1.map fun p => Value.ref p.1).toArray 0)) v p.2 as ∧ s1.heap.objs.size ∉ as) (D1.map fun p => Value.ref p.1) D1 :=
    (each_mem e0).mono fun v p ⟨e, m⟩ => by
      subst e
      exact ⟨[], PyProof.Rows.Reads.keeps (fun b u z => Heap.get?_push_of_some _ (k1 b u z)) (hr p (pD.mem_iff.mp m)), fun z => nomatch z⟩
  have mem2 : ∀ d, d ∈ D1.map (·.2) → d ∈ D.map (·.2) := fun d m => (pD.map (·.2)).mem_iff.mp m
  refine wpAny_bind (wpAny_holding (list_sort_data (s := { s1 with heap := s1.heap.push (seqObj "list" (D1.map fun p => Value.ref p.1).toArray 0) }) (R := fun (v : Value) (p : Dw) => v = .ref p.1) (enc := fun p : Dw => p.2) hoL e0 er
    (fun d m d' m' => hal d (mem2 d m) d' (mem2 d' m')) (hk.imp (fun z d m => z d (mem2 d m)) fun z d m => z d (mem2 d m)) (by rw [sizeLine_eq]; omega) (fun p m => by have := hd8 p (pD.mem_iff.mp m); simp only [Around.in1_units]; omega) fun out ho eo => ?_))
  obtain ⟨c, hc⟩ := sortedHeap_at (vs := D1.map fun p => Value.ref p.1) (out := List.toArray out) hoL
  have eout : out = (D1.mergeSort (dataLe false (fun z : Dw => z.2))).map fun z => Value.ref z.1 := by
    have go : ∀ {vs : List Value} {l : List Dw}, EachIs (fun (v : Value) (p : Dw) => v = .ref p.1) vs l → vs = l.map fun z => Value.ref z.1 := by
      intro vs l h
      induction h with
      | nil => rfl
      | cons h _ ih => rw [List.map_cons, h, ih]
    exact go eo
  rw [eout] at hc ⊢
  refine wpAny_pure ⟨_, rfl, hQ _ s1.heap.objs.size D1 c (fun b u e => ?_) c1 o1 hz hc pD⟩
  have q := k1 b u e
  have lt := Heap.lt_size q
  refine (sortedHeap_old (Nat.ne_of_lt lt) (by rw [size_push']; exact Nat.lt_succ_of_lt lt)).trans (Heap.get?_push_of_some _ q)
end
/-- the set at a, without the keys' own objects -/
structure SetN0 (w : World) (h : Heap) (a : Addr) (D : List Dw) : Prop where
  ex : ∃ (es : Array (Int × Value)) (ep : Nat) (t : SetTable), (∃ o, h.get? a = some o ∧ o.ExactSet ∧ o.data = .set es ep t) ∧ es.toList = rws w (D.map rwOf) ∧ TabOk t (hss w (D.map rwOf)) ∧ ((D.map rwOf).map (·.2)).Nodup ∧
    (w.params.followText "set-order" = true ∨ t.led = true) ∧ t.mask = 7 ∧ (D.map rwOf).length ≤ 4
theorem SetN.zero {w : World} {h : Heap} {a : Addr} {D : List Dw} {es : Array (Int × Value)} {ep : Nat} {t : SetTable} (R : SetN w h a (D.map rwOf) es ep t) : SetN0 w h a D := ⟨es, ep, t, R.ob, R.rows, R.tab, R.nd, R.led, R.m7, R.few⟩
theorem SetN0.all {w : World} {h : Heap} {a : Addr} {D : List Dw} (R : SetN0 w h a D) (hk : ∀ p ∈ D, IsN h (nk p.2) p.1) : ∃ es ep t, SetN w h a (D.map rwOf) es ep t := by
  obtain ⟨es, ep, t, h1, h2, h3, h4, h5, h6, h7⟩ := R.ex
  exact ⟨es, ep, t, h1, h2, h3, h4, fun r m => by
    obtain ⟨p, hp, rfl⟩ := List.mem_map.mp m
    exact hk p hp, h5, h6, h7⟩
def SetNO (w : World) (a : Addr) (D : List Dw) : HO := .ext fun h => SetN0 w h a D
theorem setNO_ok {P : Program} {w : World} {H : Hp} {h : Heap} {a : Addr} {D : List Dw} (R : SetN0 w h a D) : ObjOk P w H h a (SetNO w a D) := by
  obtain ⟨es, ep, t, ⟨o, ho, r⟩, q⟩ := R.ex
  refine ⟨R, ⟨o, ho⟩, fun h1 h2 p kp => ?_⟩
  obtain ⟨es2, ep2, t2, ⟨o2, ho2, r2⟩, q2⟩ := SetN0.ex p
  exact ⟨es2, ep2, t2, ⟨o2, kp o2 ho2, r2⟩, q2⟩
section
variable {X : Cx}
/-- set(xs), xs a list of at most four keys -/
def rSetN (K : PySem.W.Frag) (w : World) : List V → Hp → VK → Prop := fun xs H Q => ∃ (l : Addr) (D0 : List Dw), xs = [V.ref l] ∧ (SqL K H l (D0.map fun p => V.ref p.1) ∨ SqT K H l (D0.map fun p => V.ref p.1)) ∧ (∀ p ∈ D0, Ky K H (.ref p.1) p.2 ∧ p.2.depth ≤ 8) ∧ D0.length ≤ 4 ∧
  ∀ a D, H a = none → (∀ p ∈ D, p ∈ D0) → (∀ p ∈ D0, ∃ q ∈ D, nk q.2 = nk p.2) → (D.map fun p => nk p.2).Nodup → D.length ≤ D0.length → Q (.ref a) (upd H a (SetNO w a D))
theorem refs_back : ∀ {D : List Dw} {us : List Value}, Vals (D.map fun p => V.ref p.1) us → us = D.map fun p => Value.ref p.1
  | [], _, .nil => rfl
  | p :: D, _, .cons r t => by cases r; rw [refs_back t]; rfl
theorem refs_on : ∀ D : List Dw, Vals (D.map fun p => V.ref p.1) (D.map fun p => Value.ref p.1)
  | [] => .nil
  | p :: D => .cons rfl (refs_on D)
theorem cr_setN (hc : X.calm = true) (hu : X.A.units + 64 < cLine) : CallR X (.type "set") (rSetN X.K X.w) := by
  intro pins s σ H xs us Q I r h
  obtain ⟨l, D0, rfl, hl, hk, h4, q⟩ := h
  rw [Vals.ref1 r]
  have keyIs : ∀ p ∈ D0, IsN s.heap (nk p.2) p.1 := fun p m => ⟨(Ky.real I (hk p m).1 rfl).2, Nat.le_trans (nk_depth _) (hk p m).2⟩
  have keyR : ∀ r ∈ D0.map rwOf, IsN s.heap r.2 r.1 := fun r m => by
    obtain ⟨p, hp, rfl⟩ := List.mem_map.mp m
    exact keyIs p hp
  have last : ∀ (h' : Heap) (tk : Nat) L es ep t, SetN X.w h' s.heap.objs.size L es ep t → In_ (D0.map rwOf) (D0.map rwOf).length L → (∀ b o, s.heap.get? b = some o → h'.get? b = some o) → EP X pins σ Q (.ref s.heap.objs.size) { s with heap := h', toks := tk } := by
    intro h' tk L es ep t R g kp
    obtain ⟨D, rfl, hD⟩ := back_rows (L := L) fun r m => List.mem_of_mem_take (g.sub r m)
    refine ⟨.ref s.heap.objs.size, upd H s.heap.objs.size (SetNO X.w s.heap.objs.size D), I.laid (t' := tk) kp (Nat.le_refl _) (setNO_ok R.zero), rfl, q _ D (I.hok.fresh (Nat.le_refl _)) hD (fun p m => ?_) ?_ (by simpa using g.len)⟩
    · have z := g.all (rwOf p) (by rw [List.take_length]; exact List.mem_map.mpr ⟨p, m, rfl⟩)
      rw [List.map_map] at z
      obtain ⟨q2, hq2, e⟩ := List.mem_map.mp z
      exact ⟨q2, hq2, e⟩
    · have z := R.nd
      rw [List.map_map] at z
      exact z
  rcases hl with hl | hl
  · obtain ⟨its, rv, pl, hz⟩ := I.list hl
    exact call_set_keys (P := X.prog) (D0.map rwOf) (I.ok.hd hc) pl.isList (by rw [List.map_map]; simpa [Function.comp_def] using refs_back rv) keyR (by rw [List.length_map]; exact h4) (by omega) last
  · obtain ⟨its, rv, pl, hz⟩ := I.tuple hl
    exact call_set_keysT (P := X.prog) (D0.map rwOf) (I.ok.hd hc) pl (by rw [List.map_map]; simpa [Function.comp_def] using refs_back rv) keyR (by rw [List.length_map]; exact h4) (by omega) last
/-- sorted(set) -/
def rSortN (K : PySem.W.Frag) (w : World) : List V → Hp → VK → Prop := fun vs H Q => ∃ (a : Addr) (D : List Dw), vs = [V.ref a] ∧ H a = some (SetNO w a D) ∧ (∀ p ∈ D, Ky K H (.ref p.1) p.2 ∧ p.2.depth ≤ 8) ∧ AllAlike (D.map (·.2)) ∧ Sortable (D.map (·.2)) ∧
  ∀ (D1 : List Dw) (p : Addr), D1.Perm D → H p = none → Q (.ref p) (upd H p (.lst ((D1.mergeSort (dataLe false (fun z : Dw => z.2))).map fun z => V.ref z.1)))
theorem cr_sortN (hc : X.calm = true) (hu : X.A.units + 64 < cLine) : CallR X (.builtin "sorted") (rSortN X.K X.w) := by
  intro pins s σ H vs us Q I r h
  obtain ⟨a, D, rfl, ha, hk, hal, hso, q⟩ := h
  have R0 : SetN0 X.w s.heap a D := (I.hok a _ ha).1
  obtain ⟨es, ep, t, R⟩ := R0.all fun p m => ⟨(Ky.real I (hk p m).1 rfl).2, Nat.le_trans (nk_depth _) (hk p m).2⟩
  rw [Vals.ref1 r]
  refine sorted_setN (P := X.prog) R (I.ok.hd hc) (fun p m => (Ky.real I (hk p m).1 rfl).1) hal hso (by omega) (fun p m => (hk p m).2) fun s2 p D1 c kp g o hp hg pD => ?_
  have hn : H p = none := I.hok.fresh hp
  have hlen : ((D1.mergeSort (dataLe false (fun z : Dw => z.2))).map fun z => V.ref z.1).length ≤ sizeLine := by
    have := R.few
    rw [List.length_map] at this
    rw [List.length_map, List.length_mergeSort, pD.length_eq, sizeLine_eq]; omega
  have J : Inv X pins σ (upd H p (.lst ((D1.mergeSort (dataLe false (fun z : Dw => z.2))).map fun z => V.ref z.1))) { s with heap := s2.heap, gens := s2.gens, drawn := s2.drawn, toks := s2.toks } :=
    I.call (ch := []) (Un.laid kp hp hn) (I.hok.laid kp hp ⟨hlen, _, c, refs_on _, hg⟩) (by rw [g]; exact I.bare) (fun _ z => nomatch z)
  have e : s2 = { s with heap := s2.heap, gens := s2.gens, drawn := s2.drawn, toks := s2.toks } := by cases s2; cases s; cases o; rfl
  rw [e]
  exact ⟨.ref p, _, J, rfl, q D1 p pD hn⟩
end
end KaN


set_option maxRecDepth 100000
set_option maxHeartbeats 2000000
namespace KaG
open PySem PySem.Spec PyProof.Rows L2 KaN
/-! ### needs and grounds as data; tuple(sorted(set(xs))) -/
def dV : V → PyData
  | .int i => .int i
  | .str x => .str x
  | _ => .none
def needD (xs : List V) : PyData := .tuple (xs.map dV)
def grdD (g : List (List V)) : PyData := .tuple (g.map needD)
section
variable {K : PySem.W.Frag} {H : Hp} {rows names : List Str}
theorem need_ky {xs : List V} {a : Addr} (h : NeedV rows names xs) (e : H a = some (.tup xs)) : Ky K H (.ref a) (needD xs) := by
  cases h with
  | row n t m => exact .tup (SqT.of e) (.cons (.str _) (.cons (.str _) (.cons (.int _) (.cons (.int _) .nil))))
  | kind n a t m => exact .tup (SqT.of e) (.cons (.str _) (.cons (.str _) (.cons (.int _) (.cons (.int _) (.cons (.int _) .nil)))))
theorem need_deep {xs : List V} (h : NeedV rows names xs) : (needD xs).depth = 1 := by
  cases h <;> simp [needD, dV, PyData.depth, PyData.depthAll]
theorem need_like {xs ys : List V} (h : NeedV rows names xs) (h' : NeedV rows names ys) : PySem.W.alike (needD xs) (needD ys) = true := by
  cases h <;> cases h' <;> simp [needD, dV, PySem.W.alike, PySem.W.alikeAll]
theorem need_cons {xs : List V} (h : NeedV rows names xs) : ∃ x r, needD xs = .tuple (x :: r) := by
  cases h <;> exact ⟨_, _, rfl⟩
theorem needs_ky : ∀ {ns : List Addr} {g : List (List V)}, Paired (fun n its => H n = some (.tup its)) ns g → (∀ n ∈ g, NeedV rows names n) → KyA K H (ns.map V.ref) (g.map needD)
  | _, _, .nil, _ => .nil
  | _, _, .cons h r, q => .cons (need_ky (q _ (List.mem_cons_self ..)) h) (needs_ky r fun n m => q n (List.mem_cons_of_mem _ m))
theorem grd_ky {g : List (List V)} {a : Addr} (h : Grd H a g) (q : ∀ n ∈ g, NeedV rows names n) : Ky K H (.ref a) (grdD g) := by
  obtain ⟨ns, e, p⟩ := h
  exact .tup (SqT.of e) (needs_ky p q)
theorem needs_deep : ∀ {g : List (List V)}, (∀ n ∈ g, NeedV rows names n) → PyData.depthAll (g.map needD) ≤ 1
  | [], _ => by simp [PyData.depthAll]
  | n :: g, q => by
    have h1 := need_deep (q n (List.mem_cons_self ..))
    have h2 := needs_deep (g := g) fun m hm => q m (List.mem_cons_of_mem _ hm)
    rw [List.map_cons, PyData.depthAll]; omega
theorem grd_deep {g : List (List V)} (q : ∀ n ∈ g, NeedV rows names n) : (grdD g).depth ≤ 2 := by
  have := needs_deep q
  rw [grdD, PyData.depth]; omega
theorem needs_like : ∀ {g g' : List (List V)}, (∀ n ∈ g, NeedV rows names n) → (∀ n ∈ g', NeedV rows names n) → PySem.W.alikeAll (g.map needD) (g'.map needD) = true
  | [], _, _, _ => by simp [PySem.W.alikeAll]
  | _ :: _, [], _, _ => by simp [PySem.W.alikeAll]
  | n :: g, n' :: g', q, q' => by
    rw [List.map_cons, List.map_cons, PySem.W.alikeAll, need_like (q n (List.mem_cons_self ..)) (q' n' (List.mem_cons_self ..)), needs_like (g := g) (g' := g') (fun m hm => q m (List.mem_cons_of_mem _ hm)) fun m hm => q' m (List.mem_cons_of_mem _ hm)]; rfl
theorem grd_like {g g' : List (List V)} (q : ∀ n ∈ g, NeedV rows names n) (q' : ∀ n ∈ g', NeedV rows names n) : PySem.W.alike (grdD g) (grdD g') = true := by
  rw [grdD, grdD, PySem.W.alike]
  exact needs_like q q'
end
def rTupOf (K : PySem.W.Frag) : List V → Hp → VK → Prop := fun xs H Q => ∃ p ys, xs = [.ref p] ∧ ((SqL K H p ys ∧ ∀ l, H l = none → Q (.ref l) (upd H l (.tup ys))) ∨ (SqT K H p ys ∧ Q (.ref p) H))
theorem call_tupOf {X : Cx} : CallR X (.type "tuple") (rTupOf X.K) := call_tuple_of
theorem order_of {α : Type} {K : PySem.W.Frag} {w : World} {H : Hp} {l : Addr} {Q : VK} (enc : α → PyData) (zs : List (Addr × α)) (hl : SqL K H l (zs.map fun z => V.ref z.1) ∨ SqT K H l (zs.map fun z => V.ref z.1)) (hk : ∀ z ∈ zs, Ky K H (.ref z.1) (enc z.2) ∧ (enc z.2).depth ≤ 8)
    (hal : ∀ z ∈ zs, ∀ y ∈ zs, PySem.W.alike (enc z.2) (enc y.2) = true) (hso : ∀ z ∈ zs, ∃ x r, enc z.2 = .tuple (x :: r)) (h4 : zs.length ≤ 4)
    (k : ∀ (ys : List (Addr × α)) (p : Addr) (H' : Hp), Same H H' → H p = none → H' p = some (.tup (ys.map fun z => V.ref z.1)) → (∀ z ∈ ys, z ∈ zs) → (0 < zs.length → 0 < ys.length) → ys.length ≤ zs.length → Q (.ref p) H') :
    rSetN K w [V.ref l] H fun v H1 => rSortN K w [v] H1 fun v2 H2 => rTupOf K [v2] H2 Q := by
  refine ⟨l, zs.map fun z => (z.1, enc z.2), rfl, by rw [List.map_map]; exact hl, fun p m => ?_, by rw [List.length_map]; exact h4, fun a D ha hsub hall hnd hlen => ?_⟩
  · obtain ⟨z, hz, rfl⟩ := List.mem_map.mp m
    exact hk z hz
  · have back : ∀ D' : List Dw, (∀ p ∈ D', p ∈ zs.map fun z => (z.1, enc z.2)) → ∃ ys : List (Addr × α), D' = ys.map (fun z => (z.1, enc z.2)) ∧ ∀ z ∈ ys, z ∈ zs := by
      intro D'
      induction D' with
      | nil => exact fun _ => ⟨[], rfl, fun _ z => nomatch z⟩
      | cons p D' ih =>
        intro h
        obtain ⟨z, hz, e⟩ := List.mem_map.mp (h p (List.mem_cons_self ..))
        obtain ⟨ys, e2, hs⟩ := ih fun q m => h q (List.mem_cons_of_mem _ m)
        refine ⟨z :: ys, by rw [List.map_cons, e, e2], fun q m => ?_⟩
        rcases List.mem_cons.mp m with c | c
        · rw [c]; exact hz
        · exact hs q c
    have of : ∀ p ∈ D, ∃ z ∈ zs, p = (z.1, enc z.2) := fun p m => by
      obtain ⟨z, hz, e⟩ := List.mem_map.mp (hsub p m)
      exact ⟨z, hz, e.symm⟩
    refine ⟨a, D, rfl, upd_same, fun p m => ?_, fun d m d' m' => ?_, .inl fun d m => ?_, fun D1 p pD hp => ?_⟩
    · obtain ⟨z, hz, rfl⟩ := of p m
      exact ⟨Ky.sm (same_upd ha) (hk z hz).1, (hk z hz).2⟩
    · obtain ⟨p, hp, rfl⟩ := List.mem_map.mp m
      obtain ⟨p', hp', rfl⟩ := List.mem_map.mp m'
      obtain ⟨z, hz, rfl⟩ := of p hp
      obtain ⟨y, hy, rfl⟩ := of p' hp'
      exact hal z hz y hy
    · obtain ⟨p, hp, rfl⟩ := List.mem_map.mp m
      obtain ⟨z, hz, rfl⟩ := of p hp
      exact hso z hz
    · have pm : (D1.mergeSort (PySem.W.dataLe false (fun z : Dw => z.2))).Perm D := (List.mergeSort_perm ..).trans pD
      obtain ⟨ys, ey, hy⟩ := back _ fun q m => hsub q (pm.mem_iff.mp m)
      have hz : ys.length = D.length := by rw [← pm.length_eq, ey, List.length_map]
      rw [ey, List.map_map]
      have n1 : H p = none := by
        cases e : H p with
        | none => rfl
        | some u => rw [same_upd ha _ _ e] at hp; cases hp
      refine ⟨p, ys.map fun z => V.ref z.1, rfl, .inl ⟨SqL.of upd_same, fun q hq => ?_⟩⟩
      have S2 := KaG.Same.tr (same_upd (o := SetNO w a D) ha) (same_upd (o := .lst (ys.map fun z => V.ref z.1)) hp)
      have n2 : H q = none := by
        cases e : H q with
        | none => rfl
        | some u =>
          have := S2 _ _ e
          rw [show (upd (upd H a (SetNO w a D)) p (.lst (ys.map fun z => V.ref z.1))) q = none from hq] at this
          cases this
      refine k ys q _ (KaG.Same.tr S2 (same_upd hq)) n2 upd_same hy (fun h0 => ?_) (by rw [hz]; simpa using hlen)
      obtain ⟨z, hz1⟩ : ∃ z, z ∈ zs := ⟨_, List.getElem_mem h0⟩
      obtain ⟨q2, hq2, _⟩ := hall (z.1, enc z.2) (List.mem_map.mpr ⟨z, hz1, rfl⟩)
      rw [hz]
      exact List.length_pos_of_mem hq2
end KaG


set_option maxRecDepth 100000
set_option maxHeartbeats 2000000
namespace KaG
open PySem PySem.Spec PyProof.Rows L2 KaN
theorem paired_zip {α β : Type} {R : α → β → Prop} : ∀ {xs : List α} {ys : List β}, Paired R xs ys → ∀ z ∈ xs.zip ys, R z.1 z.2
  | _, _, .nil, _, m => by cases m
  | _, _, .cons h r, z, m => by
    rw [List.zip_cons_cons] at m
    rcases List.mem_cons.mp m with c | c
    · rw [c]; exact h
    · exact paired_zip r z c
theorem zip_fst {α β γ : Type} {R : α → β → Prop} (f : α → γ) : ∀ {xs : List α} {ys : List β}, Paired R xs ys → (xs.zip ys).map (fun z => f z.1) = xs.map f
  | _, _, .nil => rfl
  | _, _, .cons h r => by rw [List.zip_cons_cons, List.map_cons, List.map_cons, zip_fst f r]
theorem paired_of {α β : Type} {R : α → β → Prop} : ∀ {zs : List (α × β)}, (∀ z ∈ zs, R z.1 z.2) → Paired R (zs.map (·.1)) (zs.map (·.2))
  | [], _ => .nil
  | z :: zs, h => .cons (h z (List.mem_cons_self ..)) (paired_of fun y m => h y (List.mem_cons_of_mem _ m))
theorem zip_snd {α β : Type} {xs : List α} {ys : List β} {z : α × β} (m : z ∈ xs.zip ys) : z.2 ∈ ys := (List.of_mem_zip m).2
/-- needs in a list, put in order: a ground -/
theorem order_needs {K : PySem.W.Frag} {w : World} {H : Hp} {l : Addr} {Q : VK} {rows names : List Str} {as : List Addr} {g : List (List V)} (hl : SqL K H l (as.map V.ref) ∨ SqT K H l (as.map V.ref)) (pg : Paired (fun n its => H n = some (.tup its)) as g)
    (hn : ∀ n ∈ g, NeedV rows names n) (h4 : as.length ≤ 4)
    (k : ∀ (p : Addr) (g' : List (List V)) (H' : Hp), Same H H' → H p = none → Grd H' p g' → (∀ n ∈ g', n ∈ g) → (0 < g.length → 0 < g'.length) → g'.length ≤ g.length → Q (.ref p) H') :
    rSetN K w [V.ref l] H fun v H1 => rSortN K w [v] H1 fun v2 H2 => rTupOf K [v2] H2 Q := by
  have hz : (as.zip g).length = g.length := by rw [List.length_zip, paired_len pg, Nat.min_self]
  refine order_of needD (as.zip g) (by rw [zip_fst V.ref pg]; exact hl) (fun z m => ?_) (fun z m y m' => ?_) (fun z m => ?_) (by rw [hz, ← paired_len pg]; exact h4) fun ys p H' S np ep sub pos le => ?_
  · have hv := hn _ (zip_snd m)
    exact ⟨need_ky hv (paired_zip pg z m), by rw [need_deep hv]; decide⟩
  · exact need_like (hn _ (zip_snd m)) (hn _ (zip_snd m'))
  · exact need_cons (hn _ (zip_snd m))
  · refine k p (ys.map (·.2)) H' S np ⟨ys.map (·.1), by rw [ep, List.map_map]; rfl, paired_of fun z m => S _ _ (paired_zip pg z (sub z m))⟩ (fun n m => ?_) (fun h => by rw [List.length_map]; exact pos (by rw [hz]; exact h)) (by rw [List.length_map, ← hz]; exact le)
    obtain ⟨z, hz2, rfl⟩ := List.mem_map.mp m
    exact zip_snd (sub z hz2)
/-- grounds in a list, put in order -/
theorem order_grounds {K : PySem.W.Frag} {w : World} {H : Hp} {l : Addr} {Q : VK} {rows names : List Str} {as : List Addr} {gs : List (List (List V))} (hl : SqL K H l (as.map V.ref) ∨ SqT K H l (as.map V.ref)) (pg : Paired (fun a g => Grd H a g) as gs)
    (hn : ∀ g ∈ gs, 0 < g.length ∧ ∀ n ∈ g, NeedV rows names n) (h4 : as.length ≤ 4)
    (k : ∀ (p : Addr) (bs : List Addr) (gs' : List (List (List V))) (H' : Hp), Same H H' → H p = none → H' p = some (.tup (bs.map V.ref)) → Paired (fun a g => Grd H' a g) bs gs' → (∀ g ∈ gs', g ∈ gs) → gs'.length ≤ gs.length → Q (.ref p) H') :
    rSetN K w [V.ref l] H fun v H1 => rSortN K w [v] H1 fun v2 H2 => rTupOf K [v2] H2 Q := by
  have hz : (as.zip gs).length = gs.length := by rw [List.length_zip, paired_len pg, Nat.min_self]
  refine order_of grdD (as.zip gs) (by rw [zip_fst V.ref pg]; exact hl) (fun z m => ?_) (fun z m y m' => ?_) (fun z m => ?_) (by rw [hz, ← paired_len pg]; exact h4) fun ys p H' S np ep sub pos le => ?_
  · have hv := (hn _ (zip_snd m)).2
    exact ⟨grd_ky (paired_zip pg z m) hv, Nat.le_trans (grd_deep hv) (by decide)⟩
  · exact grd_like (hn _ (zip_snd m)).2 (hn _ (zip_snd m')).2
  · have h1 := (hn _ (zip_snd m)).1
    cases hg : z.2 with
    | nil => rw [hg] at h1; exact absurd h1 (by decide)
    | cons n r => exact ⟨needD n, r.map needD, by rw [grdD, List.map_cons]⟩
  · refine k p (ys.map (·.1)) (ys.map (·.2)) H' S np (by rw [ep, List.map_map]; rfl) (paired_of fun z m => Grd.ts (paired_zip pg z (sub z m)) (TSame.of S)) (fun n m => ?_) (by rw [List.length_map, ← hz]; exact le)
    obtain ⟨z, hz2, rfl⟩ := List.mem_map.mp m
    exact zip_snd (sub z hz2)
section
variable {P : Program} {w : World} {K : PySem.W.Frag} {mg : Str → Option Value} {base : Heap}
theorem scGround : FnScope ["bag", "rows", "names", "some", "k"] ["bag", "rows", "names"] (defScope sGround) := ⟨rfl, rfl, rfl, by decide +kernel, rfl, by decide +kernel, by decide +kernel⟩
def spGround : Sp := fun vs H Q _ => ∃ (bg r n : Addr) (rows names : List Str), vs = [.ref bg, .ref r, .ref n] ∧ Bag H bg ∧ r ≠ bg ∧ n ≠ bg ∧ H r = some (.tup (rows.map V.str)) ∧ H n = some (.tup (names.map V.str)) ∧ 0 < rows.length ∧ 0 < names.length ∧ rows.length ≤ 20 ∧ names.length ≤ 20 ∧
  ∀ (p : Addr) (g : List (List V)) (H' : Hp), Ext bg H H' → H p = none → Grd H' p g → 0 < g.length → g.length ≤ 3 → (∀ n ∈ g, NeedV rows names n) → Q (.ref p) H'
theorem ok_ground {f fN fS : Addr} {fd fdN fdS : FuncData} (F : Fun K "_law_ground" "_law_ground" sGround f fd) (T : TxtC mg) (CN : Ct P w K mg base "_law_need" 4 ["bag", "rows", "names"] spNeed fN fdN) (C : Ct P w K mg base "_law_some" 2 ["bag", "things"] spSome2 fS fdS) : FnOk P w K mg base CX0 5 f fd ["bag", "rows", "names"] spGround := by
  refine F.ok scGround (fun vs H Q E h => ?_) (fun cdv A outer s H vs Q E hr h => ?_)
  · obtain ⟨bg, r, n, rows, names, rfl, _⟩ := h
    rfl
  · obtain ⟨bg, r, n, rows, names, rfl, hB, rb, nb, er, en, r0, n0, r20, n20, k⟩ := h
    have hr4 : Room 4 (A.deeper (envOfC "_law_ground" (defScope sGround) s.heap.objs.size f cdv)) := hr.mono (by decide)
    have hr2 : Room 2 (A.deeper (envOfC "_law_ground" (defScope sGround) s.heap.objs.size f cdv)) := hr.mono (by decide)
    have hu : (A.deeper (envOfC "_law_ground" (defScope sGround) s.heap.objs.size f cdv)).units + 64 < cLine := by have := hr.3; omega
    refine ⟨_, (pss_cons (ps_setLc (i := 3) (own := [("k", 4)]) (g := gName 4) (by rfl) scGround.nd rfl rfl (sw_true rfl rfl rfl (by decide +kernel))
        (pi_range1 rfl T.b.range (pa_cons (pe_call C.G hr2 (by rfl) C.m C.kp C.b .nil pass0 (pa_cons (pv 0) (pa_cons (pe_lst (pa_cons pe_int (pa_cons pe_int (pa_cons pe_int (pa_cons pe_int (pa_cons pe_int (pa_cons pe_int pa_nil))))))) pa_nil))) pa_nil))
        (blkOk_by (own := [("k", 4)]) (N := ["bag", "rows", "names", "some", "k"]) (sc := defScope sGround) (by decide +kernel)) (fun _ _ _ _ _ => pg_name (i := 4) scGround.nd rfl (Or.inl rfl)) (fun _ _ _ _ _ => pts_nil)
        (fun _ _ _ _ _ => pe_call CN.G hr4 (by rfl) CN.m CN.kp CN.b .nil pass0 (pa_cons (pv 0) (pa_cons (pv 1) (pa_cons (pv 2) pa_nil)))))
      (pss_one (ps_ret (pe_callTy call_tuple_of (by rfl) T.tup (by decide +kernel) (pa_cons (pe_callB (cr_sortN rfl hu) (by rfl) T.sor (by decide +kernel)
        (pa_cons (pe_callTy (cr_setN rfl hu) (by rfl) T.set (by decide +kernel) (pa_cons (pv 3) pa_nil)) pa_nil)) pa_nil))))), ?_⟩
    have sz : ∀ {m : Nat}, m ≤ 900 → m ≤ sizeLine := fun h => Nat.le_of_lt (small1000 (by omega))
    refine ⟨_, rfl, sz (by show 6 ≤ 900; decide), fun q nq => ?_⟩
    have E0 : Ext bg H (upd H q (.lst [.int 1, .int 1, .int 1, .int 2, .int 2, .int 3])) := (Ext.of_same hB Same.refl').new nq
    have qb : q ≠ bg := fun z => hB.there (z ▸ nq)
    refine ⟨bg, q, _, rfl, E0.bag, qb, .inl upd_same, by decide, by decide, fun v H1 mv E1 => ?_⟩
    obtain ⟨z, rfl, z1, z3⟩ := ints_in (ns := [1, 1, 1, 2, 2, 3]) (lo := 1) (hi := 3) (by decide) mv
    have E01 := E0.trans E1
    refine ⟨z, rfl, by omega, by omega, fun D hD => lc_range (fun i G => Ext bg H G ∧ ∃ (as : List Addr) (g : List (List V)), as.length = i ∧ G D = some (.lst (as.map V.ref)) ∧ Paired (fun n its => G n = some (.tup its)) as g ∧ ∀ n ∈ g, NeedV rows names n) ?_ ?_ ?_⟩
    · exact ⟨E01.new hD, [], [], rfl, upd_same, .nil, fun _ z => nomatch z⟩
    · rintro i G hi ⟨E2, as, g, la, gD, pg, hg⟩
      refine ⟨rfl, ?_⟩
      unfold tYes
      dsimp only
      have Db : D ≠ bg := fun z => E01.bag.there (z ▸ hD)
      refine iteT ⟨_, rfl, _, rfl, _, rfl, bg, r, n, rows, names, rfl, E2.bag, rb, nb, E2.keep r _ rb er, E2.keep n _ nb en, r0, n0, r20, n20, fun p xs H3 E3 np ep hv => ?_⟩
      have pD : p ≠ D := fun z => by rw [z, gD] at np; cases np
      have gD3 := E3.keep D _ Db gD
      refine ⟨_, gD3, small1000 (by rw [List.length_map]; omega), ?_, as ++ [p], g ++ [xs], by rw [List.length_append, la]; rfl, by rw [upd_same, List.map_append]; rfl, ?_, ?_⟩
      · exact Ext.write hB (E2.trans E3) (newAt E01 hD)
      · exact paired_snoc (by rw [upd_ne pD]; exact ep) (Paired.mono' (fun a b c => ts_lst gD3 a _ (TSame.ext E2.bag E3 a _ c)) pg)
      · intro m hm
        rcases List.mem_append.mp hm with c | c
        · exact hg m c
        · rw [List.mem_singleton.mp c]; exact hv
    · rintro G ⟨E2, as, g, la, gD, pg, hg⟩
      have lg := paired_len pg
      refine ⟨_, rfl, order_needs (K := K) (w := w) (.inl (SqL.of gD)) pg hg (by omega) fun p g' H' S np hp sub pos le => ?_⟩
      refine k p g' H' (E2.trans (Ext.of_same E2.bag S)) (newAt E2 np) hp (pos (by omega)) (by omega) fun n m => hg n (sub n m)
end
end KaG


set_option maxRecDepth 100000
set_option maxHeartbeats 4000000
namespace KaG
open PySem PySem.Spec PyProof.Rows L2 KaN
/-- a kind, as drawn -/
def KdOk (rs ns : List Str) (k : Kd) : Prop := (1 ≤ k.keep ∧ k.keep ≤ 8 ∧ 0 ≤ k.bar ∧ k.bar ≤ 12 ∧ k.gs.length ≤ 4) ∧ ∀ g ∈ k.gs, 0 < g.length ∧ g.length ≤ 3 ∧ ∀ n ∈ g, NeedV rs ns n
theorem book_ok {rs ns : List Str} {ks : List Kd} (hr : Nms rs) (hn : Nms ns) (r0 : 0 < rs.length) (n0 : 0 < ns.length) (n5 : ns.length ≤ 5) (e : ks.map Kd.name = ns) (h : ∀ k ∈ ks, KdOk rs ns k) : BookOk rs ks := by
  have hl : ks.length = ns.length := by rw [← e, List.length_map]
  subst e
  exact ⟨hr, hn, r0, by omega, by omega, fun k m => (h k m).1, fun k m g mg => (h k m).2 g mg⟩
/-- a list of grounds -/
structure GsAt (H : Hp) (rs ns : List Str) (as : List Addr) (gs : List (List (List V))) : Prop where
  pr : Paired (fun a g => Grd H a g) as gs
  ok : ∀ g ∈ gs, 0 < g.length ∧ g.length ≤ 3 ∧ ∀ n ∈ g, NeedV rs ns n
theorem GsAt.ts {H H' : Hp} {rs ns : List Str} {as : List Addr} {gs : List (List (List V))} (h : GsAt H rs ns as gs) (s : TSame H H') : GsAt H' rs ns as gs := ⟨Paired.mono' (fun a b q => Grd.ts q s) h.pr, h.ok⟩
theorem GsAt.snoc {H : Hp} {rs ns : List Str} {as : List Addr} {gs : List (List (List V))} {a : Addr} {g : List (List V)} (h : GsAt H rs ns as gs) (e : Grd H a g) (o : 0 < g.length ∧ g.length ≤ 3 ∧ ∀ n ∈ g, NeedV rs ns n) : GsAt H rs ns (as ++ [a]) (gs ++ [g]) :=
  ⟨paired_snoc e h.pr, fun x m => by
    rcases List.mem_append.mp m with c | c
    · exact h.ok x c
    · rw [List.mem_singleton.mp c]; exact o⟩
theorem GsAt.nil {H : Hp} {rs ns : List Str} : GsAt H rs ns [] [] := ⟨.nil, fun _ z => nomatch z⟩
theorem paired_take {α β : Type} {R : α → β → Prop} : ∀ (n : Nat) {xs : List α} {ys : List β}, Paired R xs ys → Paired R (xs.take n) (ys.take n)
  | 0, _, _, _ => by rw [List.take_zero, List.take_zero]; exact .nil
  | n + 1, _, _, .nil => by rw [List.take_nil, List.take_nil]; exact .nil
  | n + 1, _, _, .cons h r => by rw [List.take_succ_cons, List.take_succ_cons]; exact .cons h (paired_take n r)
theorem GsAt.cut {H : Hp} {rs ns : List Str} {as : List Addr} {gs : List (List (List V))} (h : GsAt H rs ns as gs) (n : Nat) : GsAt H rs ns (as.take n) (gs.take n) := ⟨paired_take n h.pr, fun g m => h.ok g (List.mem_of_mem_take m)⟩
/-- the kinds so far -/
structure KsAt (H : Hp) (rs ns : List Str) (kas : List Addr) (ks : List Kd) : Prop where
  pr : Paired (fun a k => KdAt H a k) kas ks
  ok : ∀ k ∈ ks, KdOk rs ns k
theorem KsAt.ts {H H' : Hp} {rs ns : List Str} {kas : List Addr} {ks : List Kd} (h : KsAt H rs ns kas ks) (s : TSame H H') : KsAt H' rs ns kas ks := ⟨Paired.mono' (fun a b q => KdAt.ts q s) h.pr, h.ok⟩
theorem KsAt.snoc {H : Hp} {rs ns : List Str} {kas : List Addr} {ks : List Kd} {a : Addr} {k : Kd} (h : KsAt H rs ns kas ks) (e : KdAt H a k) (o : KdOk rs ns k) : KsAt H rs ns (kas ++ [a]) (ks ++ [k]) :=
  ⟨paired_snoc e h.pr, fun x m => by
    rcases List.mem_append.mp m with c | c
    · exact h.ok x c
    · rw [List.mem_singleton.mp c]; exact o⟩
theorem same_ts_new {H : Hp} {p : Addr} {o : HO} (h : H p = none) : TSame H (upd H p o) := TSame.of (same_upd h)
theorem TSame.tr {H H1 H2 : Hp} (s : TSame H H1) (t : TSame H1 H2) : TSame H H2 := fun b xs e => t b xs (s b xs e)
theorem grd_one {H : Hp} {a n : Addr} {its : List V} (e : H a = some (.tup [.ref n])) (e2 : H n = some (.tup its)) : Grd H a [its] := ⟨[n], e, .cons e2 .nil⟩
section
variable {P : Program} {w : World} {K : PySem.W.Frag} {mg : Str → Option Value} {base : Heap}
theorem scAny : FnScope ["bag", "kinds", "rows", "names", "found", "name", "grounds", "k"] ["bag", "kinds", "rows"] (defScope sAny) := ⟨rfl, rfl, rfl, by decide +kernel, rfl, by decide +kernel, by decide +kernel⟩
def spBook (H : Hp) (bg : Addr) (Q : VK) : Prop := ∀ (p : Addr) (rs : List Str) (ks : List Kd) (H' : Hp), Ext bg H H' → H p = none → rs.length ≤ 5 → BookAt H' p rs ks → BookOk rs ks → Q (.ref p) H'
def spAny : Sp := fun vs H Q _ => ∃ (bg : Addr) (n m : Int), vs = [.ref bg, .int n, .int m] ∧ Bag H bg ∧ 1 ≤ n ∧ n ≤ 5 ∧ 1 ≤ m ∧ m ≤ 5 ∧ spBook H bg Q
theorem ok_any {f fM fG fS fT : Addr} {fd fdM fdG fdS fdT : FuncData} (F : Fun K "_law_any_rulebook" "_law_any_rulebook" sAny f fd) (T : TxtC mg) (CN : Ct P w K mg base "_law_named" 3 ["bag", "many"] spNamed fM fdM) (CG : Ct P w K mg base "_law_ground" 5 ["bag", "rows", "names"] spGround fG fdG)
    (C : Ct P w K mg base "_law_some" 2 ["bag", "things"] spSome2 fS fdS) (CT : Ct P w K mg base "_law_take" 1 ["bag", "upto"] spTake fT fdT) : FnOk P w K mg base CX0 6 f fd ["bag", "kinds", "rows"] spAny := by
  refine F.ok scAny (fun vs H Q E h => ?_) (fun cdv A outer s H vs Q E hr h => ?_)
  · obtain ⟨bg, n, m, rfl, _⟩ := h
    rfl
  · obtain ⟨bg, n, m, rfl, hB, n1, n5, m1, m5, k⟩ := h
    have hr5 : Room 5 (A.deeper (envOfC "_law_any_rulebook" (defScope sAny) s.heap.objs.size f cdv)) := hr.mono (by decide)
    have hr3 : Room 3 (A.deeper (envOfC "_law_any_rulebook" (defScope sAny) s.heap.objs.size f cdv)) := hr.mono (by decide)
    have hr2 : Room 2 (A.deeper (envOfC "_law_any_rulebook" (defScope sAny) s.heap.objs.size f cdv)) := hr.mono (by decide)
    have hr1 : Room 1 (A.deeper (envOfC "_law_any_rulebook" (defScope sAny) s.heap.objs.size f cdv)) := hr.mono (by decide)
    have hu : (A.deeper (envOfC "_law_any_rulebook" (defScope sAny) s.heap.objs.size f cdv)).units + 64 < cLine := by have := hr.3; omega
    refine ⟨_, (pss_cons (ps_asg (pe_tup (pa_cons (pe_call CN.G hr3 (by rfl) CN.m CN.kp CN.b .nil pass0 (pa_cons (pv 0) (pa_cons (pe_op op_add pe_int (pe_call CT.G hr1 (by rfl) CT.m CT.kp CT.b .nil pass0 (pa_cons (pv 0) (pa_cons (pv 1) pa_nil)))) pa_nil)))
          (pa_cons (pe_call CN.G hr3 (by rfl) CN.m CN.kp CN.b .nil pass0 (pa_cons (pv 0) (pa_cons (pe_op op_add pe_int (pe_call CT.G hr1 (by rfl) CT.m CT.kp CT.b .nil pass0 (pa_cons (pv 0) (pa_cons (pv 2) pa_nil)))) pa_nil))) pa_nil)))
          (pg_tup (by rfl) (pgs_cons (pg_name (i := 3) scAny.nd rfl (Or.inr rfl)) (pgs_cons (pg_name (i := 2) scAny.nd rfl (Or.inr rfl)) pgs_nil))))
      (pss_cons (ps_set (i := 4) scAny.nd rfl (Or.inl rfl) (pe_lst pa_nil))
      (pss_cons (ps_for PassesOwn.never rfl (pi_tup (pv 3)) (pg_name (i := 5) scAny.nd rfl (Or.inl rfl))
        (pss_cons (ps_setLc (i := 6) (own := [("k", 7)]) (g := gName 7) (by rfl) scAny.nd rfl rfl (sw_true rfl rfl rfl (by decide +kernel))
            (pi_range1 rfl T.b.range (pa_cons (pe_call C.G hr2 (by rfl) C.m C.kp C.b .nil pass0 (pa_cons (pv 0) (pa_cons (pe_lst (pa_cons pe_int (pa_cons pe_int (pa_cons pe_int (pa_cons pe_int (pa_cons pe_int (pa_cons pe_int pa_nil))))))) pa_nil))) pa_nil))
            (blkOk_by (own := [("k", 7)]) (N := ["bag", "kinds", "rows", "names", "found", "name", "grounds", "k"]) (sc := defScope sAny) (by decide +kernel)) (fun _ _ _ _ _ => pg_name (i := 7) scAny.nd rfl (Or.inl rfl)) (fun _ _ _ _ _ => pts_nil)
            (fun _ _ _ _ _ => pe_call CG.G hr5 (by rfl) CG.m CG.kp CG.b .nil pass0 (pa_cons (pv 0) (pa_cons (pv 2) (pa_cons (pv 3) pa_nil)))))
        (pss_cons (ps_if (pt_cmpR op_eq (pe_call CT.G hr1 (by rfl) CT.m CT.kp CT.b .nil pass0 (pa_cons (pv 0) (pa_cons pe_int pa_nil))) pe_int (nomark _))
            (pss_one (ps_set (i := 6) scAny.nd rfl (Or.inl rfl) (pe_op op_cat (pe_slice sl_list (pv 6) po_none (po_some pe_int)) (pe_lst (pa_cons (pe_tup (pa_cons (pe_tup (pa_cons pe_str
              (pa_cons (pe_call C.G hr2 (by rfl) C.m C.kp C.b .nil pass0 (pa_cons (pv 0) (pa_cons (pv 2) pa_nil))) (pa_cons (pe_call CT.G hr1 (by rfl) CT.m CT.kp CT.b .nil pass0 (pa_cons (pv 0) (pa_cons pe_int pa_nil))) (pa_cons pe_int pa_nil))))) pa_nil)) pa_nil))))) pss_nil)
        (pss_one (ps_expr (pe_bm PySem.F.plainAttrs_list PySem.F.slot_list_append PySem.F.type_list_append mt_append (pv 4) (pa_cons (pe_tup (pa_cons (pv 5) (pa_cons (pe_op op_add pe_int (pe_call CT.G hr1 (by rfl) CT.m CT.kp CT.b .nil pass0 (pa_cons (pv 0) (pa_cons pe_int pa_nil))))
            (pa_cons (pe_call C.G hr2 (by rfl) C.m C.kp C.b .nil pass0 (pa_cons (pv 0) (pa_cons (pe_lst (pa_cons pe_int (pa_cons pe_int (pa_cons pe_int (pa_cons pe_int (pa_cons pe_int (pa_cons pe_int pa_nil))))))) pa_nil)))
            (pa_cons (pe_callTy call_tupOf (by rfl) T.tup (by decide +kernel) (pa_cons (pe_callB (cr_sortN rfl hu) (by rfl) T.sor (by decide +kernel) (pa_cons (pe_callTy (cr_setN rfl hu) (by rfl) T.set (by decide +kernel) (pa_cons (pv 6) pa_nil)) pa_nil)) pa_nil)) pa_nil))))) pa_nil)))))))
      (pss_one (ps_ret (pe_tup (pa_cons (pv 2) (pa_cons (pe_callTy call_tuple_of (by rfl) T.tup (by decide +kernel) (pa_cons (pv 4) pa_nil)) pa_nil)))))))), ?_⟩
    have sz : ∀ {m : Nat}, m ≤ 900 → m ≤ sizeLine := fun h => Nat.le_of_lt (small1000 (by omega))
    refine ⟨_, rfl, _, rfl, _, rfl, bg, _, rfl, hB, by omega, by omega, fun z1 H1 E1 a0 a1 => ?_⟩
    refine ⟨_, _, rfl, rfl, bg, _, rfl, E1.bag, by omega, by omega, fun nt ns H2 E2 nnt ent hns lns => ?_⟩
    have E12 := E1.trans E2
    refine ⟨_, rfl, _, rfl, _, rfl, bg, _, rfl, E12.bag, by omega, by omega, fun z2 H3 E3 b0 b1 => ?_⟩
    have E13 := E12.trans E3
    refine ⟨_, _, rfl, rfl, bg, _, rfl, E13.bag, by omega, by omega, fun rt rs H4 E4 nrt ert hrs lrs => ?_⟩
    have E14 := E13.trans E4
    have ntb : nt ≠ bg := fun z => (E1.bag.there) (z ▸ nnt)
    have rtb : rt ≠ bg := fun z => (E13.bag.there) (z ▸ nrt)
    have ent4 := E4.keep nt _ ntb (E3.keep nt _ ntb ent)
    refine ⟨sz (by show 2 ≤ 900; decide), fun t nt' => ?_⟩
    refine ⟨t, _, rfl, SqT.of upd_same, by rfl, _, _, rfl, _, _, rfl, rfl, ?_⟩
    have E15 := E14.new (o := .tup [.ref nt, .ref rt]) nt'
    have e1 := same_upd (o := .tup [.ref nt, .ref rt]) nt' _ _ ent4
    have e2 := same_upd (o := .tup [.ref nt, .ref rt]) nt' _ _ ert
    generalize upd H4 t (.tup [.ref nt, .ref rt]) = H5 at E15 e1 e2 ⊢
    refine ⟨Nat.zero_le _, fun p np => ?_⟩
    have nl : ns.length = (1 + z1).toNat := lns
    have rl : rs.length = (1 + z2).toNat := lrs
    have pH : H p = none := newAt E15 np
    have pb : p ≠ bg := fun z => hB.there (z ▸ pH)
    refine ⟨_, rfl, nt, rfl, ⟨_, SqT.of (same_upd np _ _ e1)⟩, for_tup (K := K) (a := nt) (xs := ns.map V.str) (fun i σ' G => (∃ x5 x6 x7 : Option V, σ' = [some (.ref bg), some (.int n), some (.ref rt), some (.ref nt), some (.ref p), x5, x6, x7]) ∧ Ext bg H G ∧ G nt = some (.tup (ns.map V.str)) ∧ G rt = some (.tup (rs.map V.str)) ∧
      ∃ (kas : List Addr) (ks : List Kd), G p = some (.lst (kas.map V.ref)) ∧ KsAt G rs ns kas ks ∧ ks.map Kd.name = ns.take i) ?_ ?_ ?_ ?_⟩
    · exact ⟨⟨_, _, _, rfl⟩, E15.new np, same_upd np _ _ e1, same_upd np _ _ e2, [], [], upd_same, ⟨.nil, fun _ z => nomatch z⟩, rfl⟩
    · rintro i σ' G _ ⟨_, _, g1, _⟩
      exact SqT.of g1
    · rintro i x σ' G hx ⟨⟨x5, x6, x7, rfl⟩, E6, g1, g2, kas, ks, gp, hk, en⟩
      rw [List.getElem?_map] at hx
      obtain ⟨nm, hnm, rfl⟩ := Option.map_eq_some_iff.mp hx
      refine ⟨_, rfl, sz (by show 6 ≤ 900; decide), fun q nq => ?_⟩
      have qb : q ≠ bg := fun z => E6.bag.there (z ▸ nq)
      have E7 := E6.new (o := .lst [.int 1, .int 2, .int 2, .int 3, .int 4, .int 0]) nq
      refine ⟨bg, q, _, rfl, E7.bag, qb, .inl upd_same, by decide, by decide, fun v H7 mv E8 => ?_⟩
      obtain ⟨z, rfl, z0, z4⟩ := ints_in (ns := [1, 2, 2, 3, 4, 0]) (lo := 0) (hi := 4) (by decide) mv
      have E68 := E7.trans E8
      have old : ∀ c o, c ≠ bg → G c = some o → H7 c = some o := fun c o cb e => E8.keep c o cb (same_upd nq _ _ e)
      have f1 := old nt _ ntb g1
      have f2 := old rt _ rtb g2
      have f3 := old p _ pb gp
      have hk7 : KsAt H7 rs ns kas ks := hk.ts ((same_ts_new nq).tr (TSame.ext E7.bag E8))
      refine ⟨z, rfl, by omega, by omega, fun D hD => lc_range (fun j G2 => Ext bg H7 G2 ∧ ∃ (as : List Addr) (gs : List (List (List V))), as.length = j ∧ G2 D = some (.lst (as.map V.ref)) ∧ GsAt G2 rs ns as gs) ?_ ?_ ?_⟩
      · exact ⟨(Ext.of_same E68.bag Same.refl').new hD, [], [], rfl, upd_same, GsAt.nil⟩
      · rintro j G2 hj ⟨E9, as, gs, la, gD, hg⟩
        refine ⟨rfl, ?_⟩
        unfold tYes
        dsimp only
        have Db : D ≠ bg := fun z => E68.bag.there (z ▸ hD)
        refine iteT ⟨_, rfl, _, rfl, _, rfl, bg, rt, nt, rs, ns, rfl, E9.bag, rtb, ntb, E9.keep rt _ rtb f2, E9.keep nt _ ntb f1, by omega, by omega, by omega, by omega, fun a g G3 E10 na ha p1 p2 p3 => ?_⟩
        have gD3 := E10.keep D _ Db gD
        refine ⟨_, gD3, small1000 (by rw [List.length_map]; omega), ?_, as ++ [a], gs ++ [g], by rw [List.length_append, la]; rfl, by rw [upd_same, List.map_append]; rfl, ?_⟩
        · exact Ext.write E68.bag (E9.trans E10) hD
        · exact ((hg.ts (TSame.ext E9.bag E10)).snoc ha ⟨p1, p2, p3⟩).ts (ts_lst gD3)
      · rintro G2 ⟨E9, as, gs, la, gD, hg⟩
        have pD : p ≠ D := fun z => by rw [← z, f3] at hD; cases hD
        have l4 : as.length ≤ 4 := by omega
        dsimp only [gName]
        refine seqGo (fun b D' => ∀ (ga : Addr) (bs : List Addr) (hs : List (List (List V))) (G4 : Hp), Ext bg H7 G4 → G4 ga = some (.lst (bs.map V.ref)) → GsAt G4 rs ns bs hs → bs.length ≤ 4 →
          b D' [some (.ref bg), some (.int n), some (.ref rt), some (.ref nt), some (.ref p), some (.str nm), some (.ref ga), x7] G4) (fun ga bs hs G4 E11 gg hgs lb => ?_) (fun rest => ?_)
        · have gp4 := E11.keep p _ pb f3
          refine ⟨_, rfl, .inl ⟨rfl, _, SqL.of gp4⟩, _, rfl, _, rfl, bg, 8, rfl, E11.bag, by decide, by decide, fun y1 G5 E12 c0 c1 => ?_⟩
          refine ⟨_, _, rfl, rfl, _, rfl, sz (by show 6 ≤ 900; decide), fun q2 nq2 => ?_⟩
          have E13 := E12.new (o := .lst [.int 0, .int 0, .int 1, .int 2, .int 5, .int 12]) nq2
          have q2b : q2 ≠ bg := fun z => E12.bag.there (z ▸ nq2)
          refine ⟨bg, q2, _, rfl, E13.bag, q2b, .inl upd_same, by decide, by decide, fun v2 G6 mv2 E14 => ?_⟩
          obtain ⟨bar, rfl, bar0, bar12⟩ := ints_in (ns := [0, 0, 1, 2, 5, 12]) (lo := 0) (hi := 12) (by decide) mv2
          have E15 := E13.trans E14
          have gab : ga ≠ bg := fun z => by
            obtain ⟨c, st, i, b2, ms, e, _⟩ := E11.bag
            rw [← z, gg] at e
            injection e with e; injection e with e
            match bs, e with
            | [], e => cases e
            | _ :: _, e => rw [List.map_cons] at e; injection e with e; cases e
          have hgs6 := hgs.ts (TSame.ext E11.bag E15)
          refine ⟨_, rfl, ?_⟩
          dsimp only [tCB, tCons, tNil]
          refine order_grounds (K := K) (w := w) (rows := rs) (names := ns) (.inl (SqL.of (E15.keep ga _ gab gg))) hgs6.pr (fun g m => ⟨(hgs6.ok g m).1, (hgs6.ok g m).2.2⟩) lb fun a2 bs2 gs2 G7 S na2 ea2 pr2 sub le => ?_
          have gp7 := S _ _ (E15.keep p _ pb gp4)
          refine ⟨sz (by show 4 ≤ 900; decide), fun ka nka => ?_⟩
          have S8 := same_upd (o := .tup [.str nm, .int (1 + y1), .int bar, .ref a2]) nka
          have hli := paired_len hk.pr
          have hik : ks.length = i := by
            have := congrArg List.length en
            rw [List.length_map, List.length_take] at this
            have hi := (List.getElem?_eq_some_iff.mp hnm).1
            omega
          have hi := (List.getElem?_eq_some_iff.mp hnm).1
          refine ⟨p, _, _, rfl, rfl, S8 _ _ gp7, small1000 (by rw [List.length_map]; omega), ?_⟩
          have E17 : Ext bg H7 (upd G7 ka (.tup [.str nm, .int (1 + y1), .int bar, .ref a2])) := ((E11.trans E15).trans (Ext.of_same E15.bag S)).new nka
          have T7 : TSame H7 (upd G7 ka (.tup [.str nm, .int (1 + y1), .int bar, .ref a2])) := TSame.ext E68.bag E17
          have tw := ts_lst (ys := kas.map V.ref ++ [.ref ka]) (S8 _ _ gp7)
          have lens : gs2.length ≤ 4 := by have := paired_len hgs.pr; omega
          refine ⟨⟨_, _, _, rfl⟩, Ext.write hB (E68.trans E17) pH, tw _ _ (T7 _ _ f1), tw _ _ (T7 _ _ f2), kas ++ [ka], ks ++ [⟨nm, 1 + y1, bar, gs2⟩], by rw [upd_same, List.map_append]; rfl, ?_, ?_⟩
          · refine (((hk7.ts T7).snoc ?_ ?_).ts tw)
            · exact ⟨a2, bs2, upd_same, S8 _ _ ea2, Paired.mono' (fun a b q => Grd.ts q (TSame.of S8)) pr2⟩
            · exact ⟨⟨by show 1 ≤ 1 + y1; omega, by show 1 + y1 ≤ 8; omega, bar0, bar12, lens⟩, fun g m => hgs.ok g (sub g m)⟩
          · rw [List.map_append, en, List.take_add_one, hnm]; rfl
        · have Db : D ≠ bg := fun z => E68.bag.there (z ▸ hD)
          refine ⟨_, rfl, bg, 3, rfl, E9.bag, by decide, by decide, fun y G3 E10 c0 c1 => ?_⟩
          have gD3 := E10.keep D _ Db gD
          have hg3 := hg.ts (TSame.ext E9.bag E10)
          have E93 := E9.trans E10
          refine ⟨rfl, _, rfl, ite2 (fun hc => ?_) fun hc => ?_⟩
          · refine ⟨_, rfl, _, rfl, _, _, rfl, SqL.of gD3, fun r nr => ?_⟩
            rw [cut_to _ 3 (by decide), ← List.map_take, show (3 : Int).toNat = 3 from rfl]
            have Er := E93.new (o := .lst ((as.take 3).map V.ref)) nr
            have hgr := hg3.ts (same_ts_new (o := .lst ((as.take 3).map V.ref)) nr)
            have rb : r ≠ bg := fun z => E93.bag.there (z ▸ nr)
            have gr : (upd G3 r (.lst ((as.take 3).map V.ref))) r = some (.lst ((as.take 3).map V.ref)) := upd_same
            have hrt := Er.keep rt _ rtb f2
            generalize upd G3 r (.lst ((as.take 3).map V.ref)) = G5 at Er hgr gr hrt ⊢
            refine ⟨_, rfl, _, rfl, bg, rt, rs.map V.str, rfl, Er.bag, rtb, .inr hrt, by rw [List.length_map]; omega, by rw [List.length_map]; omega, fun v2 G6 mv2 E12 => ?_⟩
            obtain ⟨x, rfl, hxr⟩ := strs_in mv2
            refine ⟨_, rfl, bg, 5, rfl, E12.bag, by decide, by decide, fun y2 G7 E13 d0 d1 => ?_⟩
            have E57 := E12.trans E13
            have gr7 := E57.keep r _ rb gr
            have hg7 := hgr.ts (TSame.ext Er.bag E57)
            have E97 := Er.trans E57
            refine ⟨sz (by show 4 ≤ 900; decide), fun na nna => ⟨sz (by show 1 ≤ 900; decide), fun ga nga => ⟨sz (by show 1 ≤ 900; decide), fun l nl2 => ?_⟩⟩⟩
            have S1 := same_upd (o := .tup [.str "row", .str x, .int y2, .int 9]) nna
            have S2 := KaG.Same.tr S1 (same_upd (o := .tup [.ref na]) nga)
            have S3 := KaG.Same.tr S2 (same_upd (o := .lst [.ref ga]) nl2)
            have h1 : (upd (upd (upd G7 na (.tup [.str "row", .str x, .int y2, .int 9])) ga (.tup [.ref na])) l (.lst [.ref ga])) na = some (.tup [.str "row", .str x, .int y2, .int 9]) := KaG.Same.tr (same_upd nga) (same_upd nl2) _ _ upd_same
            have h2 : (upd (upd (upd G7 na (.tup [.str "row", .str x, .int y2, .int 9])) ga (.tup [.ref na])) l (.lst [.ref ga])) ga = some (.tup [.ref na]) := same_upd nl2 _ _ upd_same
            have h3 : (upd (upd (upd G7 na (.tup [.str "row", .str x, .int y2, .int 9])) ga (.tup [.ref na])) l (.lst [.ref ga])) l = some (.lst [.ref ga]) := upd_same
            generalize upd (upd (upd G7 na (.tup [.str "row", .str x, .int y2, .int 9])) ga (.tup [.ref na])) l (.lst [.ref ga]) = G8 at S3 h1 h2 h3 ⊢
            refine ⟨_, _, _, _, rfl, rfl, S3 _ _ gr7, h3, sz (by rw [List.length_map, List.length_take]; show _ + 1 ≤ 900; omega), fun q3 nq3 => ?_⟩
            have S4 := KaG.Same.tr S3 (same_upd (o := .lst ((as.take 3).map V.ref ++ [.ref ga])) nq3)
            refine rest q3 (as.take 3 ++ [ga]) (gs.take 3 ++ [[[.str "row", .str x, .int y2, .int 9]]]) _ (E97.trans (Ext.of_same E97.bag S4)) (by rw [upd_same, List.map_append]; rfl) ?_ (by rw [List.length_append, List.length_take]; show _ + 1 ≤ 4; omega)
            refine ((hg7.ts (TSame.of S4)).cut 3).snoc (grd_one (same_upd nq3 _ _ h2) (same_upd nq3 _ _ h1)) ⟨by show 0 < 1; decide, by show 1 ≤ 3; decide, fun n2 m2 => ?_⟩
            rw [List.mem_singleton.mp m2]
            exact .row x y2 9 hxr d0 (by omega) (by decide) (by decide)
          · exact rest D as gs G3 E93 gD3 hg3 l4
    · rintro σ' G ⟨⟨x5, x6, x7, rfl⟩, E6, g1, g2, kas, ks, gp, hk, en⟩
      rw [List.length_map, List.take_length] at en
      refine ⟨_, rfl, _, rfl, p, _, rfl, .inl ⟨SqL.of gp, fun q nq => ?_⟩⟩
      refine ⟨sz (by show 2 ≤ 900; decide), fun b nb => ?_⟩
      have S1 := same_upd (o := .tup (kas.map V.ref)) nq
      have S2 := KaG.Same.tr S1 (same_upd (o := .tup [.ref rt, .ref q]) nb)
      refine k b rs ks _ (E6.trans (Ext.of_same E6.bag S2)) (newAt (E6.trans (Ext.of_same E6.bag S1)) nb) (by omega) ⟨rt, q, kas, upd_same, S2 _ _ g2, same_upd nb _ _ upd_same, (hk.ts (TSame.of S2)).pr⟩ ?_
      exact book_ok hrs hns (by omega) (by omega) (by omega) en hk.ok
end
end KaG


set_option maxRecDepth 100000
set_option maxHeartbeats 4000000
namespace KaG
open PySem PySem.Spec PyProof.Rows L2 KaN
theorem set_same {α : Type} : ∀ {l : List α} {j : Nat} {x : α}, l[j]? = some x → l.set j x = l
  | [], _, _, _ => rfl
  | y :: l, 0, x, e => by cases e; rfl
  | y :: l, j + 1, x, e => by rw [List.set_cons_succ, set_same (show l[j]? = some x from e)]
theorem at_str {ns : List Str} {z : Int} (h0 : 0 ≤ z) (h1 : z < ns.length) : ∃ x ∈ ns, atI (ns.map V.str) z = some (.str x) := by
  obtain ⟨j, rfl⟩ := Int.eq_ofNat_of_zero_le h0
  have hj : j < ns.length := by omega
  exact ⟨ns[j], List.getElem_mem hj, atI_nat (by rw [List.getElem?_map, List.getElem?_eq_getElem hj]; rfl)⟩
theorem ifGo {tt : TT} {b e : TS} {D : Ends} {σ : L2.St} {H : Hp} (R : Hp → Prop) (hb : ∀ M, R M → b D σ M) (he : ∀ M, R M → e D σ M) (hm : ∀ Q : Bool → Hp → Prop, (∀ c M, R M → Q c M) → tt σ H Q) : tIfS tt b e D σ H :=
  hm _ fun c M r => by
    cases c
    · exact iteF (he M r)
    · exact iteT (hb M r)
theorem pickGo {tt : TT} {ta tb : TE} {σ : L2.St} {H : Hp} {Q : VK} (R : V → Prop) (k : ∀ v, R v → Q v H) (ht : ∀ Q' : Bool → Hp → Prop, (∀ c, Q' c H) → tt σ H Q') (ha : ∀ Q' : VK, (∀ v, R v → Q' v H) → ta σ H Q') (hb : ∀ Q' : VK, (∀ v, R v → Q' v H) → tb σ H Q') : tIf tt ta tb σ H Q :=
  ht _ fun c => by
    cases c
    · exact iteF (hb _ k)
    · exact iteT (ha _ k)
/-- a kind while it is made: a list, with the list of its grounds -/
structure KlAt (H0 H : Hp) (bg p : Addr) (rs ns : List Str) (l : Addr) (d : Kd) (gl : Addr) (as : List Addr) : Prop where
  at_ : H l = some (.lst [.str d.name, .int d.keep, .int d.bar, .ref gl])
  gat : H gl = some (.lst (as.map V.ref))
  gs : GsAt H rs ns as d.gs
  ln : H0 l = none
  lb : l ≠ bg
  lp : l ≠ p
  gb : gl ≠ bg
  gp : gl ≠ p
abbrev Kl (H0 H : Hp) (bg p : Addr) (rs ns : List Str) (l : Addr) (d : Kd) : Prop := ∃ gl as, KlAt H0 H bg p rs ns l d gl as
theorem lst_ne {H : Hp} {a b : Addr} {xs : List Addr} {s : Str} {r : List V} (e : H a = some (.lst (xs.map V.ref))) (f : H b = some (.lst (.str s :: r))) : a ≠ b := fun z => by
  rw [z, f] at e
  injection e with e
  injection e with e
  cases xs with
  | nil => cases e
  | cons x xs => rw [List.map_cons] at e; injection e with e; cases e
theorem Kl.mono {H0 H H' : Hp} {bg p : Addr} {rs ns : List Str} {l : Addr} {d : Kd} (h : Kl H0 H bg p rs ns l d) (t : TSame H H') (k : ∀ b o, b ≠ bg → b ≠ p → H b = some o → H' b = some o) : Kl H0 H' bg p rs ns l d := by
  obtain ⟨gl, as, q⟩ := h
  exact ⟨gl, as, k _ _ q.lb q.lp q.at_, k _ _ q.gb q.gp q.gat, q.gs.ts t, q.ln, q.lb, q.lp, q.gb, q.gp⟩
def KlOk (m : Nat) (d : Kd) : Prop := 1 ≤ d.keep ∧ d.keep ≤ 8 ∧ 0 ≤ d.bar ∧ d.bar ≤ 12 ∧ d.gs.length ≤ m
structure FAt (H0 H : Hp) (bg p : Addr) (rs ns : List Str) (m : Nat) (ls : List Addr) (ds : List Kd) : Prop where
  at_ : H p = some (.lst (ls.map V.ref))
  pr : Paired (fun l d => Kl H0 H bg p rs ns l d) ls ds
  nd : ls.Nodup
  ok : ∀ d ∈ ds, KlOk m d
theorem FAt.ext {H0 H H' : Hp} {bg p : Addr} {rs ns : List Str} {m : Nat} {ls : List Addr} {ds : List Kd} (h : FAt H0 H bg p rs ns m ls ds) (pb : p ≠ bg) (hb : Bag H bg) (E : Ext bg H H') : FAt H0 H' bg p rs ns m ls ds :=
  ⟨E.keep _ _ pb h.at_, Paired.mono' (fun l d q => Kl.mono q (TSame.ext hb E) fun b o n1 _ e => E.keep b o n1 e) h.pr, h.nd, h.ok⟩
theorem paired_there {α β : Type} {R : α → β → Prop} {C : α → Prop} (hc : ∀ a b, R a b → C a) : ∀ {xs : List α} {ys : List β}, Paired R xs ys → ∀ a ∈ xs, C a
  | _, _, .nil, _, m => by cases m
  | _, _, .cons h r, a, m => by
    rcases List.mem_cons.mp m with c | c
    · rw [c]; exact hc _ _ h
    · exact paired_there hc r a c
theorem FAt.snoc {H0 H : Hp} {bg p : Addr} {rs ns : List Str} {m : Nat} {ls : List Addr} {ds : List Kd} {l : Addr} {d : Kd} (h : FAt H0 H bg p rs ns m ls ds) (q : Kl H0 H bg p rs ns l d) (o : KlOk m d) (n : l ∉ ls) : FAt H0 (upd H p (.lst (ls.map V.ref ++ [.ref l]))) bg p rs ns m (ls ++ [l]) (ds ++ [d]) :=
  ⟨by rw [upd_same, List.map_append]; rfl, Paired.mono' (fun l d q => Kl.mono q (ts_lst h.at_) fun b o _ n2 e => by rw [upd_ne n2]; exact e) (paired_snoc q h.pr),
    by rw [List.nodup_append]; exact ⟨h.nd, by simp, fun a m b m2 => by rw [List.mem_singleton.mp m2]; exact fun z => n (z ▸ m)⟩, fun x m => by
    rcases List.mem_append.mp m with c | c
    · exact h.ok x c
    · rw [List.mem_singleton.mp c]; exact o⟩
theorem paired_set {α β : Type} {R S : α → β → Prop} : ∀ {xs : List α} {ys : List β} (j : Nat) (y : β), Paired R xs ys → (∀ i x z, xs[i]? = some x → ys[i]? = some z → i ≠ j → R x z → S x z) → (∀ x, xs[j]? = some x → S x y) → Paired S xs (ys.set j y)
  | _, _, _, _, .nil, _, _ => .nil
  | _, _, 0, y, .cons h r, f, g => by
    rw [List.set_cons_zero]
    refine .cons (g _ rfl) ?_
    have go : ∀ {as : List α} {bs : List β} (n : Nat), Paired R as bs → (∀ (i : Nat) (x : α) (z : β), as[i]? = some x → bs[i]? = some z → R x z → S x z) → Paired S as bs := by
      intro as bs n q
      induction q with
      | nil => exact fun _ => .nil
      | cons h _ ih => exact fun f => .cons (f 0 _ _ rfl rfl h) (ih fun i x z e1 e2 => f (i + 1) x z e1 e2)
    exact go 0 r fun i x z e1 e2 => f (i + 1) x z e1 e2 (Nat.succ_ne_zero i)
  | _, _, j + 1, y, .cons h r, f, g => by
    rw [List.set_cons_succ]
    exact .cons (f 0 _ _ rfl rfl (Nat.succ_ne_zero j).symm h) (paired_set j y r (fun i x z e1 e2 n => f (i + 1) x z e1 e2 (by omega)) fun x e => g x e)
/-- the list of one kind's grounds exchanged -/
theorem FAt.put {H0 H : Hp} {bg p : Addr} {rs ns : List Str} {m : Nat} {ls : List Addr} {ds : List Kd} {l q : Addr} {d : Kd} {as : List Addr} {gs : List (List (List V))} {j : Nat} (h : FAt H0 H bg p rs ns m ls ds) (hl : ls[j]? = some l) (hd : ds[j]? = some d)
    (hq : H q = some (.lst (as.map V.ref))) (g : GsAt H rs ns as gs) (qb : q ≠ bg) (qp : q ≠ p) (n : gs.length ≤ m) :
    FAt H0 (upd H l (.lst [.str d.name, .int d.keep, .int d.bar, .ref q])) bg p rs ns m ls (ds.set j { d with gs := gs }) := by
  obtain ⟨d1, e1, gl, as1, k⟩ := paired_at h.pr hl
  rw [hd] at e1
  cases e1
  have tl : TSame H (upd H l (.lst [.str d.name, .int d.keep, .int d.bar, .ref q])) := ts_lst k.at_
  have ql : q ≠ l := lst_ne hq k.at_
  refine ⟨by rw [upd_ne k.lp.symm]; exact h.at_, paired_set j _ h.pr (fun i x z e1 e2 nij k2 => ?_) fun x e => ?_, h.nd, fun x hx => ?_⟩
  · obtain ⟨gl2, as2, k2⟩ := k2
    have xl : x ≠ l := fun z => by
      subst z
      have h1 := (List.getElem?_eq_some_iff.mp e1).1
      have h2 := (List.getElem?_eq_some_iff.mp hl).1
      exact nij ((List.getElem_inj (h₀ := h1) (h₁ := h2) h.nd).mp ((List.getElem?_eq_some_iff.mp e1).2.trans (List.getElem?_eq_some_iff.mp hl).2.symm))
    exact ⟨gl2, as2, by rw [upd_ne xl]; exact k2.at_, by rw [upd_ne (lst_ne k2.gat k.at_)]; exact k2.gat, k2.gs.ts tl, k2.ln, k2.lb, k2.lp, k2.gb, k2.gp⟩
  · rw [hl] at e
    cases e
    exact ⟨q, as, upd_same, by rw [upd_ne ql]; exact hq, g.ts tl, k.ln, k.lb, k.lp, qb, qp⟩
  · rcases List.mem_or_eq_of_mem_set hx with c | c
    · exact h.ok x c
    · rw [c]
      have o := h.ok d (List.mem_of_getElem? hd)
      exact ⟨o.1, o.2.1, o.2.2.1, o.2.2.2.1, n⟩
theorem FAt.wide {H0 H : Hp} {bg p : Addr} {rs ns : List Str} {m m' : Nat} {ls : List Addr} {ds : List Kd} (h : FAt H0 H bg p rs ns m ls ds) (n : m ≤ m') : FAt H0 H bg p rs ns m' ls ds :=
  ⟨h.at_, h.pr, h.nd, fun d x => let ⟨a, b, c, e, f⟩ := h.ok d x; ⟨a, b, c, e, Nat.le_trans f n⟩⟩
def rLstOf (K : PySem.W.Frag) : List V → Hp → VK → Prop := fun xs H Q => ∃ p ys, xs = [.ref p] ∧ (SqL K H p ys ∨ SqT K H p ys) ∧ ∀ l, H l = none → Q (.ref l) (upd H l (.lst ys))
theorem call_lstOf {X : Cx} : CallR X (.type "list") (rLstOf X.K) := call_list_of
section
variable {P : Program} {w : World} {K : PySem.W.Frag} {mg : Str → Option Value} {base : Heap}
abbrev nmPl : List Str := ["bag", "sort", "kinds", "names", "rows", "found", "ring", "k", "after", "tells", "tell", "giver", "grounds", "kind", "kept", "ground", "name", "keep", "bar"]
theorem scPl : FnScope nmPl ["bag", "sort", "kinds"] (defScope sPlanted) := ⟨rfl, rfl, rfl, by decide +kernel, rfl, by decide +kernel, by decide +kernel⟩
def spPl : Sp := fun vs H Q _ => ∃ (bg : Addr) (so : Str) (n : Int), vs = [.ref bg, .str so, .int n] ∧ Bag H bg ∧ (so = "ever" ∨ so = "longer" ∨ so = "gone" ∨ so = "none") ∧ 1 ≤ n ∧ n ≤ 5 ∧ spBook H bg Q
theorem ok_pl {f fM fG fO fS fT : Addr} {fd fdM fdG fdO fdS fdT : FuncData} (F : Fun K "_law_planted" "_law_planted" sPlanted f fd) (T : TxtC mg) (CN : Ct P w K mg base "_law_named" 3 ["bag", "many"] spNamed fM fdM) (CG : Ct P w K mg base "_law_ground" 5 ["bag", "rows", "names"] spGround fG fdG)
    (CO : Ct P w K mg base "_law_more_needs" 3 ["bag", "sort", "rows"] spMore fO fdO) (C : Ct P w K mg base "_law_some" 2 ["bag", "things"] spSome2 fS fdS) (CT : Ct P w K mg base "_law_take" 1 ["bag", "upto"] spTake fT fdT) : FnOk P w K mg base CX0 6 f fd ["bag", "sort", "kinds"] spPl := by
  refine F.ok scPl (fun vs H Q E h => ?_) (fun cdv A outer s H vs Q E hr h => ?_)
  · obtain ⟨bg, so, n, rfl, _⟩ := h
    rfl
  · obtain ⟨bg, so, n, rfl, hB, hso, n1, n5, k⟩ := h
    have hr5 : Room 5 (A.deeper (envOfC "_law_planted" (defScope sPlanted) s.heap.objs.size f cdv)) := hr.mono (by decide)
    have hr3 : Room 3 (A.deeper (envOfC "_law_planted" (defScope sPlanted) s.heap.objs.size f cdv)) := hr.mono (by decide)
    have hr2 : Room 2 (A.deeper (envOfC "_law_planted" (defScope sPlanted) s.heap.objs.size f cdv)) := hr.mono (by decide)
    have hr1 : Room 1 (A.deeper (envOfC "_law_planted" (defScope sPlanted) s.heap.objs.size f cdv)) := hr.mono (by decide)
    have hu : (A.deeper (envOfC "_law_planted" (defScope sPlanted) s.heap.objs.size f cdv)).units + 64 < cLine := by have := hr.3; omega
    have u1 : (A.deeper (envOfC "_law_planted" (defScope sPlanted) s.heap.objs.size f cdv)).units + 1 < cLine := by have := hr.3; omega
    refine ⟨_, (pss_cons (ps_asg (pe_tup (pa_cons (pe_call CN.G hr3 (by rfl) CN.m CN.kp CN.b .nil pass0 (pa_cons (pv 0) (pa_cons (pe_op op_add pe_int (pe_call CT.G hr1 (by rfl) CT.m CT.kp CT.b .nil pass0 (pa_cons (pv 0) (pa_cons (pv 2) pa_nil)))) pa_nil)))
          (pa_cons (pe_call CN.G hr3 (by rfl) CN.m CN.kp CN.b .nil pass0 (pa_cons (pv 0) (pa_cons pe_int pa_nil))) pa_nil)))
          (pg_tup (by rfl) (pgs_cons (pg_name (i := 3) scPl.nd rfl (Or.inr rfl)) (pgs_cons (pg_name (i := 4) scPl.nd rfl (Or.inr rfl)) pgs_nil))))
      (pss_cons (ps_par (i := 5) (j := 6) rfl scPl.nd rfl rfl (by decide) rfl rfl (pa_cons (pe_lst pa_nil) (pa_cons (pe_op op_add pe_int (pe_call CT.G hr1 (by rfl) CT.m CT.kp CT.b .nil pass0 (pa_cons (pv 0) (pa_cons (pe_callB call_len_seq (by rfl) T.b.len PySem.boot_len (pa_cons (pv 3) pa_nil)) pa_nil)))) pa_nil)) (by rfl))
      (pss_cons (ps_for PassesOwn.never rfl (pi_range1 rfl T.b.range (pa_cons (pe_callB call_len_seq (by rfl) T.b.len PySem.boot_len (pa_cons (pv 3) pa_nil)) pa_nil)) (pg_name (i := 7) scPl.nd rfl (Or.inl rfl))
        (pss_cons (ps_set (i := 8) scPl.nd rfl (Or.inl rfl) (pe_op op_add pe_int (pe_call CT.G hr1 (by rfl) CT.m CT.kp CT.b .nil pass0 (pa_cons (pv 0) (pa_cons pe_int pa_nil)))))
        (pss_cons (ps_set (i := 9) scPl.nd rfl (Or.inl rfl) (pe_disp (pps_cons pe_str (pe_op op_add (pv 8) (pe_call CT.G hr1 (by rfl) CT.m CT.kp CT.b .nil pass0 (pa_cons (pv 0) (pa_cons (pe_op op_sub pe_int (pv 8)) pa_nil))))
            (pps_cons pe_str (pe_call CT.G hr1 (by rfl) CT.m CT.kp CT.b .nil pass0 (pa_cons (pv 0) (pa_cons (pv 8) pa_nil))) (pps_cons pe_str pe_int (pps_cons pe_str pe_int pps_nil)))) rfl rfl (by decide) (by decide)))
        (pss_cons (ps_set (i := 10) scPl.nd rfl (Or.inl rfl) (pe_dget u1 (pv 9) (pv 1) (fun _ _ => rfl)))
        (pss_cons (ps_set (i := 11) scPl.nd rfl (Or.inl rfl) (pe_ifExp (pt_cmpR op_gt (pv 7) pe_int (nomark _)) (pe_ix ix_tup (pv 3) (pe_op op_sub (pv 7) pe_int) (fun _ _ => rfl)) (pe_ix ix_tup (pv 3) (pe_op op_sub (pv 6) pe_int) (fun _ _ => rfl))))
        (pss_cons (ps_if (PW.pt (pw_and (pt_cmpR op_eq (pv 1) pe_str (nomark _)) (pw_and1 (pt_cmpR op_eq (pv 7) pe_int (nomark _)))))
          (pss_one (ps_par (i := 8) (j := 10) rfl scPl.nd rfl rfl (by decide) rfl rfl (pa_cons (pe_op op_add pe_int (pe_call CT.G hr1 (by rfl) CT.m CT.kp CT.b .nil pass0 (pa_cons (pv 0) (pa_cons pe_int pa_nil)))) (pa_cons pe_int pa_nil)) (by rfl))) pss_nil)
        (pss_cons (ps_set (i := 12) scPl.nd rfl (Or.inl rfl) (pe_lst (pa_cons (pe_tup (pa_cons (pe_tup (pa_cons pe_str (pa_cons (pv 11) (pa_cons (pv 8) (pa_cons (pv 10) (pa_cons pe_int pa_nil)))))) pa_nil)) pa_nil)))
        (pss_cons (ps_if (PW.pt (pw_or (pt_cmpR op_eq (pv 7) pe_int (nomark _)) (pw_or1 (PW.pt (pw_and (pt_cmpR op_eq (pv 1) pe_str (nomark _)) (pw_and1 (pt_cmpR op_eq (pe_call CT.G hr1 (by rfl) CT.m CT.kp CT.b .nil pass0 (pa_cons (pv 0) (pa_cons pe_int pa_nil))) pe_int (nomark _))))))))
          (pss_one (ps_expr (pe_bm PySem.F.plainAttrs_list PySem.F.slot_list_append PySem.F.type_list_append mt_append (pv 12) (pa_cons (pe_tup (pa_cons (pe_tup (pa_cons pe_str (pa_cons (pe_ifExp (pt_cmpR op_ne (pv 1) pe_str (nomark _)) (pe_ix ix_tup (pv 4) pe_int (fun _ _ => rfl)) (pe_ix ix_tup (pv 4) pe_int (fun _ _ => rfl)))
              (pa_cons (pe_call CT.G hr1 (by rfl) CT.m CT.kp CT.b .nil pass0 (pa_cons (pv 0) (pa_cons pe_int pa_nil))) (pa_cons pe_int pa_nil))))) pa_nil)) pa_nil)))) pss_nil)
        (pss_cons (ps_setLc (i := 12) (own := [("ground", 15)]) (g := gName 15) (by rfl) scPl.nd rfl rfl (sw_true rfl rfl rfl (by decide +kernel)) (pi_list (pv 12))
            (blkOk_by (own := [("ground", 15)]) (N := nmPl) (sc := defScope sPlanted) (by decide +kernel)) (fun _ _ _ _ _ => pg_name (i := 15) scPl.nd rfl (Or.inl rfl)) (fun _ _ _ _ _ => pts_nil)
            (fun _ _ _ _ _ => pe_callTy (T := "tuple") (r := rTupOf K) call_tupOf (by rfl) T.tup (by decide +kernel) (pa_cons (pe_callB (id := "sorted") (r := rSortN K w) (cr_sortN rfl hu) (by rfl) T.sor (by decide +kernel) (pa_cons (pe_callTy (T := "set") (r := rSetN K w) (cr_setN rfl hu) (by rfl) T.set (by decide +kernel)
              (pa_cons (pe_op op_cat (pe_callTy (T := "list") (r := rLstOf K) call_lstOf (by rfl) T.b.list (by decide +kernel) (pa_cons (pv 15) pa_nil)) (pe_call CO.G hr3 (by rfl) CO.m CO.kp CO.b .nil pass0 (pa_cons (pv 0) (pa_cons (pv 1) (pa_cons (pv 4) pa_nil))))) pa_nil)) pa_nil)) pa_nil)))
        (pss_one (ps_expr (pe_bm PySem.F.plainAttrs_list PySem.F.slot_list_append PySem.F.type_list_append mt_append (pv 5) (pa_cons (pe_lst (pa_cons (pe_ix ix_tup (pv 3) (pv 7) (fun _ _ => rfl)) (pa_cons (pe_op op_sub pe_int (pe_call CT.G hr1 (by rfl) CT.m CT.kp CT.b .nil pass0 (pa_cons (pv 0) (pa_cons pe_int pa_nil))))
            (pa_cons (pe_call C.G hr2 (by rfl) C.m C.kp C.b .nil pass0 (pa_cons (pv 0) (pa_cons (pe_lst (pa_cons pe_int (pa_cons pe_int (pa_cons pe_int (pa_cons pe_int pa_nil))))) pa_nil))) (pa_cons (pv 12) pa_nil))))) pa_nil)))))))))))))
      (pss_cons (ps_for PassesOwn.never rfl (pi_list (pe_op op_rep (pv 5) (pe_callTy call_int1 (by rfl) T.b.int (by decide +kernel) (pa_cons (pe_cmpR op_eq (pv 1) pe_str (nomark _)) pa_nil)))) (pg_name (i := 13) scPl.nd rfl (Or.inl rfl))
        (pss_one (ps_asg (pe_op op_cat (pe_ix ix_list (pv 13) pe_int (fun _ _ => rfl)) (pe_lc (own := [("k", 7)]) (g := gName 7) (by rfl) scPl.nd (pi_range1 rfl T.b.range (pa_cons (pe_call CT.G hr1 (by rfl) CT.m CT.kp CT.b .nil pass0 (pa_cons (pv 0) (pa_cons pe_int pa_nil))) pa_nil))
            (blkOk_by (own := [("k", 7)]) (N := nmPl) (sc := defScope sPlanted) (by decide +kernel)) (fun _ _ _ _ _ => pg_name (i := 7) scPl.nd rfl (Or.inl rfl)) (fun _ _ _ _ _ => pts_nil)
            (fun _ _ _ _ _ => pe_call CG.G hr5 (by rfl) CG.m CG.kp CG.b .nil pass0 (pa_cons (pv 0) (pa_cons (pv 4) (pa_cons (pv 3) pa_nil)))))) (pg_sub (pv 13) pe_int set_list))))
      (pss_cons (ps_setLc (i := 14) (own := [("name", 16), ("keep", 17), ("bar", 18), ("grounds", 12)]) (g := gLst K 4 (gCons (gName 16) (gCons (gName 17) (gCons (gName 18) (gCons (gName 12) gNil))))) (by rfl) scPl.nd rfl rfl (sw_true rfl rfl rfl (by decide +kernel)) (pi_list (pv 5))
            (blkOk_by (own := [("name", 16), ("keep", 17), ("bar", 18), ("grounds", 12)]) (N := nmPl) (sc := defScope sPlanted) (by decide +kernel)) (fun _ _ _ _ _ => pg_lst (t := gCons (gName 16) (gCons (gName 17) (gCons (gName 18) (gCons (gName 12) gNil)))) rfl (pgs_cons (pg_name (i := 16) scPl.nd rfl (Or.inl rfl)) (pgs_cons (pg_name (i := 17) scPl.nd rfl (Or.inl rfl)) (pgs_cons (pg_name (i := 18) scPl.nd rfl (Or.inl rfl)) (pgs_cons (pg_name (i := 12) scPl.nd rfl (Or.inl rfl)) pgs_nil))))) (fun _ _ _ _ _ => pts_nil)
            (fun _ _ _ _ _ => pe_tup (pa_cons (pv 16) (pa_cons (pv 17) (pa_cons (pv 18) (pa_cons (pe_callTy (T := "tuple") (r := rTupOf K) call_tupOf (by rfl) T.tup (by decide +kernel) (pa_cons (pe_callB (id := "sorted") (r := rSortN K w) (cr_sortN rfl hu) (by rfl) T.sor (by decide +kernel) (pa_cons (pe_callTy (T := "set") (r := rSetN K w) (cr_setN rfl hu) (by rfl) T.set (by decide +kernel)
              (pa_cons (pe_slice (r := rSlL K) sl_list (pv 12) po_none (po_some pe_int)) pa_nil)) pa_nil)) pa_nil)) pa_nil))))))
      (pss_one (ps_ret (pe_tup (pa_cons (pv 4) (pa_cons (pe_callTy call_tuple_of (by rfl) T.tup (by decide +kernel) (pa_cons (pv 14) pa_nil)) pa_nil)))))))))), ?_⟩
    have sz : ∀ {m : Nat}, m ≤ 900 → m ≤ sizeLine := fun h => Nat.le_of_lt (small1000 (by omega))
    refine ⟨_, rfl, _, rfl, _, rfl, bg, _, rfl, hB, by omega, by omega, fun z1 H1 E1 a0 a1 => ?_⟩
    refine ⟨_, _, rfl, rfl, bg, _, rfl, E1.bag, by omega, by omega, fun nt ns H2 E2 nnt ent hns lns => ?_⟩
    have E12 := E1.trans E2
    refine ⟨_, rfl, bg, 2, rfl, E12.bag, by decide, by decide, fun rt rs H4 E4 nrt ert hrs lrs => ?_⟩
    have E14 := E12.trans E4
    have ntb : nt ≠ bg := fun z => E1.bag.there (z ▸ nnt)
    have rtb : rt ≠ bg := fun z => E12.bag.there (z ▸ nrt)
    have ent4 := E4.keep nt _ ntb ent
    have nl : ns.length = (1 + z1).toNat := lns
    have rl : rs.length = 2 := lrs
    refine ⟨sz (by show 2 ≤ 900; decide), fun t nt' => ?_⟩
    refine ⟨t, _, rfl, SqT.of upd_same, by rfl, _, _, rfl, _, _, rfl, rfl, ?_⟩
    have E15 := E14.new (o := .tup [.ref nt, .ref rt]) nt'
    have e1 := same_upd (o := .tup [.ref nt, .ref rt]) nt' _ _ ent4
    have e2 := same_upd (o := .tup [.ref nt, .ref rt]) nt' _ _ ert
    generalize upd H4 t (.tup [.ref nt, .ref rt]) = H5 at E15 e1 e2 ⊢
    refine ⟨Nat.zero_le _, fun p np => ?_⟩
    have pH : H p = none := newAt E15 np
    have pb : p ≠ bg := fun z => hB.there (z ▸ pH)
    have E16 := E15.new (o := .lst []) np
    have e16 := same_upd (o := .lst []) np _ _ e1
    have e26 := same_upd (o := .lst []) np _ _ e2
    have p6 : (upd H5 p (.lst [])) p = some (.lst []) := upd_same
    generalize upd H5 p (.lst []) = H6 at E16 e16 e26 p6 ⊢
    refine ⟨_, rfl, _, rfl, nt, _, rfl, .inr (SqT.of e16), bg, _, rfl, E16.bag, by rw [List.length_map]; omega, by rw [List.length_map]; omega, fun ring H7 E7 r0 r1 => ?_⟩
    rw [List.length_map] at r1
    refine ⟨_, _, rfl, rfl, _, _, rfl, ?_⟩
    have E17 := E16.trans E7
    have f1 := E7.keep nt _ ntb e16
    have f2 := E7.keep rt _ rtb e26
    have f3 := E7.keep p _ pb p6
    refine ⟨_, rfl, nt, _, rfl, .inr (SqT.of f1), _, rfl, by omega, by rw [List.length_map]; omega, for_range (fun i σ' G => (∃ x7 x8 x9 x10 x11 x12 x13 x14 x15 x16 x17 x18 : Option V, σ' = [some (.ref bg), some (.str so), some (.int n), some (.ref nt), some (.ref rt), some (.ref p), some (.int (1 + ring)), x7, x8, x9, x10, x11, x12, x13, x14, x15, x16, x17, x18]) ∧
      Ext bg H G ∧ G nt = some (.tup (ns.map V.str)) ∧ G rt = some (.tup (rs.map V.str)) ∧ ∃ (ls : List Addr) (ds : List Kd), FAt H G bg p rs ns 2 ls ds ∧ ds.map Kd.name = ns.take i) ?_ ?_ ?_⟩
    · exact ⟨⟨_, _, _, _, _, _, _, _, _, _, _, _, rfl⟩, E17, f1, f2, [], [], ⟨f3, .nil, List.nodup_nil, fun _ z => nomatch z⟩, rfl⟩
    · rintro i σ' G hi ⟨⟨x7, x8, x9, x10, x11, x12, x13, x14, x15, x16, x17, x18, rfl⟩, E8, g1, g2, ls, ds, hF, en⟩
      rw [Int.toNat_natCast, List.length_map] at hi
      refine ⟨_, rfl, bg, 3, rfl, E8.bag, by decide, by decide, fun a G1 E9 a0 a1 => ?_⟩
      refine ⟨_, _, rfl, rfl, fun dd hdd => ?_⟩
      have E10 := E9.new (o := .dK []) hdd
      have ddb : dd ≠ bg := fun z => E9.bag.there (z ▸ hdd)
      refine ⟨_, rfl, _, rfl, _, rfl, _, _, rfl, rfl, bg, _, rfl, E10.bag, by omega, by omega, fun b G2 E11 b0 b1 => ?_⟩
      refine ⟨_, _, rfl, rfl, _, rfl, _, rfl, bg, _, rfl, E11.bag, by omega, by omega, fun c G3 E12 c0 c1 => ?_⟩
      have E13 := E11.trans E12
      refine ⟨E13.keep dd _ ddb upd_same, [(Sum.inr "ever", .int (1 + a + b)), (Sum.inr "longer", .int c), (Sum.inr "gone", .int 0), (Sum.inr "none", .int 2)], rfl, by show 4 ≤ 15; decide, ?_⟩
      obtain ⟨tl, etl, t0, t4⟩ : ∃ tl : Int, valV (mergeK [] [((Sum.inr "ever" : Key), V.int (1 + a + b)), (Sum.inr "longer", .int c), (Sum.inr "gone", .int 0), (Sum.inr "none", .int 2)]) (Sum.inr so) = some (.int tl) ∧ 0 ≤ tl ∧ tl ≤ 4 := by
        rcases hso with rfl | rfl | rfl | rfl
        · exact ⟨_, rfl, by omega, by omega⟩
        · exact ⟨_, rfl, by omega, by omega⟩
        · exact ⟨_, rfl, by omega, by omega⟩
        · exact ⟨_, rfl, by omega, by omega⟩
      refine ⟨_, rfl, _, rfl, dd, .int tl, rfl, by rw [← etl]; exact DGet.k (k := Sum.inr so) upd_same, ?_⟩
      have E14 : Ext bg G (upd G3 dd (.dK (mergeK [] [((Sum.inr "ever" : Key), V.int (1 + a + b)), (Sum.inr "longer", .int c), (Sum.inr "gone", .int 0), (Sum.inr "none", .int 2)]))) := Ext.write E8.bag (E10.trans E13) (newAt E9 hdd)
      generalize upd G3 dd (.dK (mergeK [] [((Sum.inr "ever" : Key), V.int (1 + a + b)), (Sum.inr "longer", .int c), (Sum.inr "gone", .int 0), (Sum.inr "none", .int 2)])) = G4 at E14 ⊢
      have g14 := E14.keep nt _ ntb g1
      have g24 := E14.keep rt _ rtb g2
      dsimp only [gName]
      refine seqGo (fun b' D' => ∀ x : Str, x ∈ ns → b' D' [some (.ref bg), some (.str so), some (.int n), some (.ref nt), some (.ref rt), some (.ref p), some (.int (1 + ring)), some (.int (0 + (i : Int))), some (.int (1 + a)), some (.ref dd), some (.int tl), some (.str x), x12, x13, x14, x15, x16, x17, x18] G4) (fun x hx => ?_) (fun rest => ?_)
      · refine seqGo (fun b' D' => ∀ (af te : Int) (G5 : Hp), Ext bg G G5 → 1 ≤ af → af ≤ 9 → 0 ≤ te → te ≤ 4 → b' D' [some (.ref bg), some (.str so), some (.int n), some (.ref nt), some (.ref rt), some (.ref p), some (.int (1 + ring)), some (.int (0 + (i : Int))), some (.int af), some (.ref dd), some (.int te), some (.str x), x12, x13, x14, x15, x16, x17, x18] G5) (fun af te G5 E15 af1 af9 te0 te4 => ?_) (fun rest => ?_)
        · refine ⟨_, rfl, _, rfl, _, rfl, sz (by show 5 ≤ 900; decide), fun na nna => ⟨sz (by show 1 ≤ 900; decide), fun ga nga => ⟨sz (by show 1 ≤ 900; decide), fun gl ngl => ?_⟩⟩⟩
          have S1 := same_upd (o := .tup [.str "kind", .str x, .int af, .int te, .int 9]) nna
          have S2 := KaG.Same.tr S1 (same_upd (o := .tup [.ref na]) nga)
          have S3 := KaG.Same.tr S2 (same_upd (o := .lst [.ref ga]) ngl)
          have y1 : (upd (upd (upd G5 na (.tup [.str "kind", .str x, .int af, .int te, .int 9])) ga (.tup [.ref na])) gl (.lst [.ref ga])) na = some (.tup [.str "kind", .str x, .int af, .int te, .int 9]) := KaG.Same.tr (same_upd nga) (same_upd ngl) _ _ upd_same
          have y2 : (upd (upd (upd G5 na (.tup [.str "kind", .str x, .int af, .int te, .int 9])) ga (.tup [.ref na])) gl (.lst [.ref ga])) ga = some (.tup [.ref na]) := same_upd ngl _ _ upd_same
          have y3 : (upd (upd (upd G5 na (.tup [.str "kind", .str x, .int af, .int te, .int 9])) ga (.tup [.ref na])) gl (.lst [.ref ga])) gl = some (.lst [.ref ga]) := upd_same
          have gl0 : G5 gl = none := by
            cases e : G5 gl with
            | none => rfl
            | some u => rw [S2 _ _ e] at ngl; cases ngl
          generalize upd (upd (upd G5 na (.tup [.str "kind", .str x, .int af, .int te, .int 9])) ga (.tup [.ref na])) gl (.lst [.ref ga]) = G6 at S3 y1 y2 y3 ⊢
          have E16 := E15.trans (Ext.of_same E15.bag S3)
          have glb : gl ≠ bg := fun z => E15.bag.there (z ▸ gl0)
          have glG : G gl = none := newAt E15 gl0
          have gs6 : GsAt G6 rs ns [ga] [[[.str "kind", .str x, .int af, .int te, .int 9]]] := ⟨.cons (grd_one y2 y1) .nil, fun g m => by
            rw [List.mem_singleton.mp m]
            refine ⟨by show 0 < 1; decide, by show 1 ≤ 3; decide, fun n2 m2 => ?_⟩
            rw [List.mem_singleton.mp m2]
            exact .kind x af te 9 hx af1 af9 te0 te4 (by decide) (by decide)⟩
          dsimp only [gName]
          refine seqGo (fun b' D' => ∀ (as : List Addr) (gs : List (List (List V))) (G7 : Hp), Ext bg G G7 → G7 gl = some (.lst (as.map V.ref)) → GsAt G7 rs ns as gs → (∀ g ∈ gs, g.length = 1) → gs.length ≤ 2 →
            b' D' [some (.ref bg), some (.str so), some (.int n), some (.ref nt), some (.ref rt), some (.ref p), some (.int (1 + ring)), some (.int (0 + (i : Int))), some (.int af), some (.ref dd), some (.int te), some (.str x), some (.ref gl), x13, x14, x15, x16, x17, x18] G7) (fun as gs G7 E17 ygl hgs one le2 => ?_) (fun rest => ?_)
          · have lenas := paired_len hgs.pr
            refine ⟨_, rfl, gl, rfl, ⟨_, SqL.of ygl⟩, fun D hD => lc_list (K := K) (a := gl) (xs := as.map V.ref) (fun j M => Ext bg G7 M ∧ ∃ (bs : List Addr) (hs : List (List (List V))), M D = some (.lst (bs.map V.ref)) ∧ GsAt M rs ns bs hs ∧ bs.length = j) ?_ ?_ ?_ ?_⟩
            · exact ⟨(Ext.of_same E17.bag Same.refl').new hD, [], [], upd_same, GsAt.nil, rfl⟩
            · rintro j M _ ⟨E18, _⟩
              exact SqL.of (E18.keep gl _ glb ygl)
            · rintro j v M hv ⟨E18, bs, hs, mD, hh, lb⟩
              rw [List.getElem?_map] at hv
              obtain ⟨a2, ha2, rfl⟩ := Option.map_eq_some_iff.mp hv
              obtain ⟨g, hg, nsA, z1', z2'⟩ := paired_at hgs.pr ha2
              have og := hgs.ok g (List.mem_of_getElem? hg)
              have g1' := one g (List.mem_of_getElem? hg)
              have hj : j < as.length := (List.getElem?_eq_some_iff.mp ha2).1
              have ts7 := TSame.ext E17.bag E18
              have Db : D ≠ bg := fun z => E17.bag.there (z ▸ hD)
              refine ⟨rfl, ?_⟩
              unfold tYes
              dsimp only
              refine iteT ⟨_, rfl, a2, _, rfl, .inr (SqT.of (ts7 _ _ z1')), fun l nl' => ?_⟩
              have E19 := E18.new (o := .lst (nsA.map V.ref)) nl'
              have lb' : l ≠ bg := fun z => E18.bag.there (z ▸ nl')
              refine ⟨_, rfl, _, rfl, _, rfl, bg, rt, .str so, rs, rfl, E19.bag, rtb, (E17.trans E19).keep rt _ rtb g2, rl, fun p2 xs M2 E20 np2 ep2 hxs => ?_⟩
              have ml := E20.keep l _ lb' upd_same
              have E21 : Ext bg G7 M2 := E19.trans E20
              have mD2 : M2 D = some (.lst (bs.map V.ref)) := E20.keep D _ Db (same_upd nl' _ _ mD)
              obtain ⟨qs, its, ex, hq, lq⟩ : ∃ (qs : List Addr) (its : List (List V)), xs = qs.map V.ref ∧ Paired (fun n2 it => M2 n2 = some (.tup it)) qs its ∧ its.length ≤ 1 ∧ ∀ it ∈ its, NeedV rs ns it := by
                rcases hxs with e | ⟨q, it, e, _, hq, hn⟩
                · exact ⟨[], [], e, .nil, by decide, fun _ m => (by cases m)⟩
                · exact ⟨[q], [it], e, .cons hq .nil, Nat.le_refl _, fun it' m => by rw [List.mem_singleton.mp m]; exact hn ns⟩
              subst ex
              have pq := paired_len hq
              have pz := paired_len z2'
              refine ⟨l, p2, _, _, rfl, rfl, ml, ep2, sz (by rw [List.length_map, List.length_map]; omega), fun r nr => ?_⟩
              have S4 := same_upd (o := .lst (nsA.map V.ref ++ qs.map V.ref)) nr
              have ts8 : TSame G7 M2 := TSame.ext E17.bag E21
              dsimp only [tCB, tCons, tNil]
              have mem : ∀ n2 ∈ g ++ its, NeedV rs ns n2 := fun n2 m => (List.mem_append.mp m).elim (og.2.2 n2) (lq.2 n2)
              refine order_needs (K := K) (w := w) (rows := rs) (names := ns) (as := nsA ++ qs) (g := g ++ its) (by rw [List.map_append]; exact .inl (SqL.of upd_same))
                (paired_app (Paired.mono' (fun _ _ q => S4 _ _ (ts8 _ _ q)) z2') (Paired.mono' (fun _ _ q => S4 _ _ q) hq)) mem (by rw [List.length_append]; have := lq.1; omega) fun a3 g3 M3 S5 na3 ha3 sub3 pos3 le3 => ?_
              have S45 := KaG.Same.tr S4 S5
              have mD3 := S45 _ _ mD2
              rw [List.length_append] at pos3 le3
              refine ⟨_, mD3, small1000 (by rw [List.length_map]; omega), Ext.write E17.bag (E21.trans (Ext.of_same E21.bag S45)) hD, bs ++ [a3], hs ++ [g3], by rw [upd_same, List.map_append]; rfl, ?_, by rw [List.length_append, lb]; rfl⟩
              have ts9 : TSame M M3 := ((same_ts_new nl').tr (TSame.ext E19.bag E20)).tr (TSame.of S45)
              exact (((hh.ts ts9).snoc ha3 ⟨pos3 (by omega), by have := lq.1; omega, fun n2 m => mem n2 (sub3 n2 m)⟩)).ts (ts_lst mD3)
            · rintro M ⟨E18, bs, hs, mD, hh, lb⟩
              rw [List.length_map] at lb
              have E19 := E17.trans E18
              have hFm := hF.ext pb E8.bag E19
              have hni : ns[i]? = some ns[i] := List.getElem?_eq_getElem hi
              have Db : D ≠ bg := fun z => E17.bag.there (z ▸ hD)
              have Dp : D ≠ p := fun z => by rw [z, (hF.ext pb E8.bag E17).at_] at hD; cases hD
              refine ⟨_, rfl, .inl ⟨rfl, _, SqL.of hFm.at_⟩, _, rfl, _, rfl, nt, _, _, .str ns[i], rfl, rfl, SqT.of (E19.keep nt _ ntb g1), by rw [Int.zero_add]; exact atI_nat (by rw [List.getElem?_map, hni]; rfl), ?_⟩
              refine ⟨_, rfl, bg, 2, rfl, E18.bag, by decide, by decide, fun y1 M1 E20 c0 c1 => ?_⟩
              refine ⟨_, _, rfl, rfl, _, rfl, sz (by show 4 ≤ 900; decide), fun q2 nq2 => ?_⟩
              have E21 := E20.new (o := .lst [.int 0, .int 0, .int 1, .int 3]) nq2
              have q2b : q2 ≠ bg := fun z => E20.bag.there (z ▸ nq2)
              refine ⟨bg, q2, _, rfl, E21.bag, q2b, .inl upd_same, by decide, by decide, fun v2 M2 mv2 E22 => ?_⟩
              obtain ⟨bar, rfl, bar0, bar3⟩ := ints_in (ns := [0, 0, 1, 3]) (lo := 0) (hi := 3) (by decide) mv2
              have E23 := E21.trans E22
              refine ⟨_, rfl, sz (by show 4 ≤ 900; decide), fun l nl' => ?_⟩
              have E24 := E23.new (o := .lst [.str ns[i], .int (8 - y1), .int bar, .ref D]) nl'
              have hFz := hFm.ext pb E18.bag E24
              have mDz := E24.keep D _ Db mD
              have ltz : (upd M2 l (.lst [.str ns[i], .int (8 - y1), .int bar, .ref D])) l = some (.lst [.str ns[i], .int (8 - y1), .int bar, .ref D]) := upd_same
              have E25 := E8.trans (E19.trans E24)
              have lH : H l = none := newAt ((E8.trans E19).trans E23) nl'
              have lb' : l ≠ bg := fun z => hB.there (z ▸ lH)
              have lp' : l ≠ p := fun z => by rw [z, (hFm.ext pb E18.bag E23).at_] at nl'; cases nl'
              have lls : l ∉ ls := fun m => by
                have there := paired_there (C := fun l => M2 l ≠ none) (fun l d ⟨gl, as, q⟩ => by rw [q.at_]; exact fun z => nomatch z) (hFm.ext pb E18.bag E23).pr l m
                exact there nl'
              generalize upd M2 l (.lst [.str ns[i], .int (8 - y1), .int bar, .ref D]) = M3 at E24 hFz mDz ltz E25 ⊢
              have lds : ls.length ≤ 5 := by
                have h1 := paired_len hF.pr
                have h2 := congrArg List.length en
                rw [List.length_map, List.length_take] at h2
                omega
              refine ⟨p, _, _, rfl, rfl, hFz.at_, small1000 (by rw [List.length_map]; omega), ?_⟩
              have tsl := ts_lst (ys := ls.map V.ref ++ [.ref l]) hFz.at_
              have lenh := paired_len hh.pr
              refine ⟨⟨_, _, _, _, _, _, _, _, _, _, _, _, rfl⟩, Ext.write hB E25 pH, tsl _ _ (E24.keep nt _ ntb (E19.keep nt _ ntb g1)), tsl _ _ (E24.keep rt _ rtb (E19.keep rt _ rtb g2)), ls ++ [l], ds ++ [⟨ns[i], 8 - y1, bar, hs⟩], ?_, ?_⟩
              · refine hFz.snoc ⟨D, bs, ltz, mDz, hh.ts (TSame.ext E18.bag E24), lH, lb', lp', Db, Dp⟩ ⟨?_, ?_, bar0, ?_, ?_⟩ lls
                · show 1 ≤ 8 - y1; omega
                · show 8 - y1 ≤ 8; omega
                · show bar ≤ 12; omega
                · show hs.length ≤ 2; omega
              · rw [List.map_append, en, List.take_add_one, hni]; rfl
          · refine ifGo (fun M => Ext bg G6 M) (fun M EM => ?_) (fun M EM => ?_) (fun Q' q => ?_)
            · have g2M := (E16.trans EM).keep rt _ rtb g2
              have ygM := EM.keep gl _ glb y3
              refine ⟨_, rfl, .inl ⟨rfl, _, SqL.of ygM⟩, ?_⟩
              dsimp only [tCons, tTup, tC, tNil]
              refine pickGo (fun v => ∃ z ∈ rs, v = V.str z) (fun v ⟨xr, hxr, ev⟩ => ?_) (fun Q' q => ⟨_, rfl, rfl, _, rfl, q _⟩) (fun Q' q => ?_) (fun Q' q => ?_)
              · subst ev
                refine ⟨_, rfl, bg, 5, rfl, EM.bag, by decide, by decide, fun y2 M1 E17 d0 d1 => ?_⟩
                refine ⟨sz (by show 4 ≤ 900; decide), fun nb nnb => ⟨sz (by show 1 ≤ 900; decide), fun gb ngb => ?_⟩⟩
                have yg1 := E17.keep gl _ glb ygM
                have T1 := same_upd (o := .tup [.str "row", .str xr, .int y2, .int 9]) nnb
                have T2 := same_upd (o := .tup [.ref nb]) ngb
                have T12 := KaG.Same.tr T1 T2
                have yg2 := T12 _ _ yg1
                refine ⟨gl, _, _, rfl, rfl, yg2, small1000 (by show 1 ≤ 1000; decide), ?_⟩
                have tsl := ts_lst (ys := [V.ref ga] ++ [V.ref gb]) yg2
                have E18 := E17.trans (Ext.of_same E17.bag T12)
                have tsM : TSame M (upd (upd M1 nb (.tup [.str "row", .str xr, .int y2, .int 9])) gb (.tup [.ref nb])) := TSame.ext EM.bag E18
                refine rest [ga, gb] [[[.str "kind", .str x, .int af, .int te, .int 9]], [[.str "row", .str xr, .int y2, .int 9]]] _ (Ext.write E8.bag (E16.trans (EM.trans E18)) glG) upd_same ?_ (fun g m => ?_) (by show 2 ≤ 2; decide)
                · refine GsAt.ts (GsAt.snoc (as := [ga]) (gs := [[[.str "kind", .str x, .int af, .int te, .int 9]]]) ((gs6.ts (TSame.ext E16.bag EM)).ts tsM) (grd_one upd_same (T2 _ _ upd_same)) ⟨by show 0 < 1; decide, by show 1 ≤ 3; decide, fun n2 m2 => ?_⟩) tsl
                  rw [List.mem_singleton.mp m2]
                  exact .row xr y2 9 hxr d0 (by omega) (by decide) (by decide)
                · rcases List.mem_cons.mp m with c | c
                  · rw [c]; rfl
                  · rw [List.mem_singleton.mp c]; rfl
              · obtain ⟨z, hz, ez⟩ := at_str (ns := rs) (z := 0) (by decide) (by omega)
                exact ⟨_, rfl, rt, _, 0, .str z, rfl, rfl, SqT.of g2M, ez, q _ ⟨z, hz, rfl⟩⟩
              · obtain ⟨z, hz, ez⟩ := at_str (ns := rs) (z := 1) (by decide) (by omega)
                exact ⟨_, rfl, rt, _, 1, .str z, rfl, rfl, SqT.of g2M, ez, q _ ⟨z, hz, rfl⟩⟩
            · exact rest [ga] _ M (E16.trans EM) (EM.keep gl _ glb y3) (gs6.ts (TSame.ext E16.bag EM)) (fun g m => by rw [List.mem_singleton.mp m]; rfl) (by show 1 ≤ 2; decide)
            · have r0' : Ext bg G6 G6 := Ext.of_same E16.bag Same.refl'
              refine ⟨_, rfl, rfl, _, rfl, ite2 (fun h1 => q _ _ r0') fun h1 => ?_⟩
              refine ⟨_, rfl, rfl, _, rfl, ite2 (fun h2 => ?_) fun h2 => q _ _ r0'⟩
              exact ⟨_, rfl, bg, 3, rfl, E16.bag, by decide, by decide, fun y M E c0 c1 => ⟨rfl, _, rfl, q _ _ E⟩⟩
        · refine ifGo (fun M => M = G4) (fun M EM => ?_) (fun M EM => ?_) (fun Q' q => ?_)
          · subst EM
            refine ⟨_, rfl, bg, 2, rfl, E14.bag, by decide, by decide, fun y M E15 c0 c1 => ?_⟩
            refine ⟨_, _, rfl, rfl, _, _, rfl, ?_⟩
            exact rest (2 + y) 1 M (E14.trans E15) (by omega) (by omega) (by decide) (by decide)
          · subst EM
            exact rest (1 + a) tl M E14 (by omega) (by omega) t0 t4
          · refine ⟨_, rfl, rfl, _, rfl, ite2 (fun h1 => ?_) fun h1 => ?_⟩
            · exact ⟨_, rfl, rfl, _, rfl, q _ _ rfl⟩
            · exact q _ _ rfl
      · refine ⟨_, rfl, _, _, rfl, rfl, _, rfl, ite2 (fun hc => ?_) fun hc => ?_⟩
        · have hc2 : (0 : Int) < 0 + (i : Int) := by simpa using hc
          obtain ⟨x, hx, ex⟩ := at_str (ns := ns) (z := 0 + (i : Int) - 1) (by omega) (by omega)
          exact ⟨_, rfl, _, rfl, _, _, rfl, rfl, nt, _, _, .str x, rfl, rfl, SqT.of g14, ex, rest x hx⟩
        · obtain ⟨x, hx, ex⟩ := at_str (ns := ns) (z := 1 + ring - 1) (by omega) (by omega)
          exact ⟨_, rfl, _, rfl, _, _, rfl, rfl, nt, _, _, .str x, rfl, rfl, SqT.of g14, ex, rest x hx⟩
    · rintro σ' G ⟨⟨x7, x8, x9, x10, x11, x12, x13, x14, x15, x16, x17, x18, rfl⟩, E8, g1, g2, ls, ds, hF, en⟩
      rw [Int.toNat_natCast, List.length_map, List.take_length] at en
      have hll : ls.length ≤ 5 := by
        have h1 := paired_len hF.pr
        have h2 := congrArg List.length en
        rw [List.length_map] at h2
        omega
      refine ⟨_, rfl, _, rfl, rfl, .inr ⟨_, rfl, p, _, ls.map V.ref, rfl, rfl, hF.at_, ?_, ?_, ?_, fun c nc => ?_⟩⟩
      · split <;> decide
      · split <;> decide
      · rw [List.length_map]
        split
        · exact sz (by show _ * 1 ≤ 900; omega)
        · exact sz (by show _ * 0 ≤ 900; omega)
      obtain ⟨ls2, els2, sub2, nd2⟩ : ∃ ls2 : List Addr, (List.replicate (if decide (V.str so = V.str "ever") = true then (1 : Int) else 0).toNat (ls.map V.ref)).flatten = ls2.map V.ref ∧ (∀ l ∈ ls2, l ∈ ls) ∧ ls2.length ≤ 5 := by
        split
        · exact ⟨ls, by show (List.replicate 1 (ls.map V.ref)).flatten = _; simp, fun _ m => m, hll⟩
        · exact ⟨[], by show (List.replicate 0 (ls.map V.ref)).flatten = _; simp, fun _ m => (by cases m), by decide⟩
      rw [els2]
      have E9 := E8.new (o := .lst (ls2.map V.ref)) nc
      have j1 := same_upd (o := .lst (ls2.map V.ref)) nc _ _ g1
      have j2 := same_upd (o := .lst (ls2.map V.ref)) nc _ _ g2
      have jF := hF.ext pb E8.bag (Ext.of_same E8.bag (same_upd (o := .lst (ls2.map V.ref)) nc))
      have jc : (upd G c (.lst (ls2.map V.ref))) c = some (.lst (ls2.map V.ref)) := upd_same
      have cb : c ≠ bg := fun z => E8.bag.there (z ▸ nc)
      have cp : c ≠ p := fun z => by rw [z, hF.at_] at nc; cases nc
      generalize upd G c (.lst (ls2.map V.ref)) = G9 at E9 j1 j2 jF jc ⊢
      refine ⟨c, rfl, ⟨_, SqL.of jc⟩, for_list (K := K) (a := c) (xs := ls2.map V.ref) (fun i σ' J => (∃ x7 x8 x9 x10 x11 x12 x13 x14 x15 x16 x17 x18 : Option V, σ' = [some (.ref bg), some (.str so), some (.int n), some (.ref nt), some (.ref rt), some (.ref p), some (.int (1 + ring)), x7, x8, x9, x10, x11, x12, x13, x14, x15, x16, x17, x18]) ∧
        Ext bg H J ∧ J nt = some (.tup (ns.map V.str)) ∧ J rt = some (.tup (rs.map V.str)) ∧ J c = some (.lst (ls2.map V.ref)) ∧ ∃ ds2 : List Kd, FAt H J bg p rs ns (2 + 2 * i) ls ds2 ∧ ds2.map Kd.name = ns) ?_ ?_ ?_ ?_⟩
      · exact ⟨⟨_, _, _, _, _, _, _, _, _, _, _, _, rfl⟩, E9, j1, j2, jc, ds, jF, en⟩
      · rintro i σ' J _ ⟨_, _, _, _, jc, _⟩
        exact SqL.of jc
      · rintro i x σ' J hx ⟨⟨x7, x8, x9, x10, x11, x12, x13, x14, x15, x16, x17, x18, rfl⟩, E10, h1, h2, hc, ds2, hF2, en2⟩
        rw [List.getElem?_map] at hx
        obtain ⟨l, hl0, rfl⟩ := Option.map_eq_some_iff.mp hx
        have hi5 : i < ls2.length := (List.getElem?_eq_some_iff.mp hl0).1
        obtain ⟨j, hl⟩ := List.mem_iff_getElem?.mp (sub2 l (List.mem_of_getElem? hl0))
        obtain ⟨d, hd, gl, as, q⟩ := paired_at hF2.pr hl
        have od := hF2.ok d (List.mem_of_getElem? hd)
        have lenas := paired_len q.gs.pr
        refine ⟨_, rfl, l, _, 3, .ref gl, rfl, rfl, SqL.of q.at_, rfl, _, rfl, bg, 3, rfl, E10.bag, by decide, by decide, fun z J1 E11 z0 z1 => ?_⟩
        refine ⟨z, rfl, by omega, by omega, fun D hD => lc_range (fun y M => Ext bg J1 M ∧ ∃ (bs : List Addr) (gs : List (List (List V))), bs.length = y ∧ M D = some (.lst (bs.map V.ref)) ∧ GsAt M rs ns bs gs) ?_ ?_ ?_⟩
        · exact ⟨(Ext.of_same E11.bag Same.refl').new hD, [], [], rfl, upd_same, GsAt.nil⟩
        · rintro y M hy ⟨E12, bs, gs, lb, mD, hg⟩
          refine ⟨rfl, ?_⟩
          unfold tYes
          dsimp only
          have Db : D ≠ bg := fun z => E11.bag.there (z ▸ hD)
          refine iteT ⟨_, rfl, _, rfl, _, rfl, bg, rt, nt, rs, ns, rfl, E12.bag, rtb, ntb, E12.keep rt _ rtb (E11.keep rt _ rtb h2), E12.keep nt _ ntb (E11.keep nt _ ntb h1), by omega, by omega, by omega, by omega, fun a g M3 E13 na ha p1 p2 p3 => ?_⟩
          have mD3 := E13.keep D _ Db mD
          refine ⟨_, mD3, small1000 (by rw [List.length_map]; omega), ?_, bs ++ [a], gs ++ [g], by rw [List.length_append, lb]; rfl, by rw [upd_same, List.map_append]; rfl, ?_⟩
          · exact Ext.write E11.bag (E12.trans E13) hD
          · exact ((hg.ts (TSame.ext E12.bag E13)).snoc ha ⟨p1, p2, p3⟩).ts (ts_lst mD3)
        · rintro M ⟨E12, bs, gs, lb, mD, hg⟩
          have E13 := E11.trans E12
          have E14 := E10.trans E13
          have mgl := E13.keep gl _ q.gb q.gat
          have ml := E13.keep l _ q.lb q.at_
          have hF3 := hF2.ext pb E10.bag E13
          have lbs := paired_len hg.pr
          refine ⟨gl, D, _, _, rfl, rfl, mgl, mD, sz (by rw [List.length_map, List.length_map]; have := od.2.2.2.2; omega), fun r nr => ?_⟩
          have S1 := same_upd (o := .lst (as.map V.ref ++ bs.map V.ref)) nr
          have rb : r ≠ bg := fun z => E14.bag.there (z ▸ nr)
          have rp : r ≠ p := fun z => by rw [z, hF3.at_] at nr; cases nr
          have ml2 := S1 _ _ ml
          have gsx : GsAt (upd M r (.lst (as.map V.ref ++ bs.map V.ref))) rs ns (as ++ bs) (d.gs ++ gs) := by
            have w1 := (q.gs.ts (TSame.ext E10.bag E13)).ts (TSame.of S1)
            have w2 := hg.ts (TSame.of S1)
            exact ⟨paired_app w1.pr w2.pr, fun g m => (List.mem_append.mp m).elim (w1.ok g) (w2.ok g)⟩
          have hF4 := (hF3.ext pb E14.bag (Ext.of_same E14.bag S1)).wide (show 2 + 2 * i ≤ 2 + 2 * (i + 1) by omega)
          have lc : l ≠ c := (lst_ne (E13.keep c _ cb hc) ml).symm
          refine ⟨_, rfl, l, _, 3, 3, rfl, rfl, ml2, rfl, ?_⟩
          have fin := hF4.put (q := r) (as := as ++ bs) (gs := d.gs ++ gs) hl hd (by rw [upd_same, List.map_append]) gsx rb rp (by rw [List.length_append]; have := od.2.2.2.2; omega)
          have tsl := ts_lst (ys := [V.str d.name, .int d.keep, .int d.bar, .ref r]) ml2
          refine ⟨⟨_, _, _, _, _, _, _, _, _, _, _, _, rfl⟩, ?_, tsl _ _ (S1 _ _ (E13.keep nt _ ntb h1)), tsl _ _ (S1 _ _ (E13.keep rt _ rtb h2)), ?_, ds2.set j { d with gs := d.gs ++ gs }, fin, ?_⟩
          · exact Ext.write hB (E14.trans (Ext.of_same E14.bag S1)) q.ln
          · show upd _ l _ c = _
            rw [upd_ne lc.symm]
            exact S1 _ _ (E13.keep c _ cb hc)
          · rw [List.map_set, en2]
            have nsj : ns[j]? = some d.name := by rw [← en2, List.getElem?_map, hd]; rfl
            exact set_same nsj
      · rintro σ' J ⟨⟨x7, x8, x9, x10, x11, x12, x13, x14, x15, x16, x17, x18, rfl⟩, E10, h1, h2, hc, ds2, hF2, en2⟩
        rw [List.length_map] at hF2
        have dl : ds2.length = ns.length := by rw [← en2, List.length_map]
        refine ⟨_, rfl, p, rfl, ⟨_, SqL.of hF2.at_⟩, fun D hD => lc_list (K := K) (a := p) (xs := ls.map V.ref) (fun i M => Same J M ∧ ∃ (kas : List Addr) (ks : List Kd), M D = some (.lst (kas.map V.ref)) ∧ KsAt M rs ns kas ks ∧ ks.map Kd.name = ns.take i) ?_ ?_ ?_ ?_⟩
        · exact ⟨same_upd hD, [], [], upd_same, ⟨.nil, fun _ z => nomatch z⟩, rfl⟩
        · rintro i M _ ⟨S, _⟩
          exact SqL.of (S _ _ hF2.at_)
        · rintro i x M hx ⟨S, kas, ks, mD, hk, ek⟩
          rw [List.getElem?_map] at hx
          obtain ⟨l, hl, rfl⟩ := Option.map_eq_some_iff.mp hx
          obtain ⟨d, hd, gl, as, q⟩ := paired_at hF2.pr hl
          have od := hF2.ok d (List.mem_of_getElem? hd)
          refine ⟨l, _, rfl, SqL.of (S _ _ q.at_), rfl, _, _, rfl, _, _, rfl, _, _, rfl, _, _, rfl, rfl, rfl, ?_⟩
          unfold tYes
          dsimp only
          refine iteT ⟨_, rfl, _, rfl, _, rfl, _, rfl, _, rfl, _, _, rfl, SqL.of (S _ _ q.gat), fun r nr => ?_⟩
          rw [cut_to _ 4 (by decide), ← List.map_take, show (4 : Int).toNat = 4 from rfl]
          dsimp only [tCB, tCons, tNil]
          have gsr := ((q.gs.ts (TSame.of S)).cut 4).ts (same_ts_new (o := .lst ((as.take 4).map V.ref)) nr)
          refine order_grounds (K := K) (w := w) (rows := rs) (names := ns) (.inl (SqL.of upd_same)) gsr.pr (fun g m => ⟨(gsr.ok g m).1, (gsr.ok g m).2.2⟩) (by rw [List.length_take]; omega) fun a2 bs2 gs2 M2 S2 na2 ea2 pr2 sub le => ?_
          refine ⟨sz (by show 4 ≤ 900; decide), fun ka nka => ?_⟩
          have S01 : Same M M2 := KaG.Same.tr (same_upd nr) S2
          have S3 := same_upd (o := .tup [.str d.name, .int d.keep, .int d.bar, .ref a2]) nka
          have mD3 := S3 _ _ (S01 _ _ mD)
          have S03 := KaG.Same.tr S01 S3
          have nsi : ns[i]? = some d.name := by rw [← en2, List.getElem?_map, hd]; rfl
          have hik : ks.length ≤ 5 := by
            have := congrArg List.length ek
            rw [List.length_map, List.length_take] at this
            omega
          refine ⟨_, mD3, small1000 (by rw [List.length_map, paired_len hk.pr]; omega), ?_, kas ++ [ka], ks ++ [⟨d.name, d.keep, d.bar, gs2⟩], by rw [upd_same, List.map_append]; rfl, ?_, ?_⟩
          · exact fun b u e => by rw [upd_ne (ne_of_none e hD)]; exact S03 b u (S b u e)
          · refine ((hk.ts (TSame.of S03)).snoc ?_ ?_).ts (ts_lst mD3)
            · exact ⟨a2, bs2, upd_same, S3 _ _ ea2, Paired.mono' (fun a b z => Grd.ts z (TSame.of S3)) pr2⟩
            · refine ⟨⟨od.1, od.2.1, od.2.2.1, od.2.2.2.1, ?_⟩, fun g m => gsr.ok g (sub g m)⟩
              have := List.length_take (i := 4) (l := d.gs)
              show gs2.length ≤ 4
              omega
          · rw [List.map_append, ek, List.take_add_one, nsi]; rfl
        · rintro M ⟨S, kas, ks, mD, hk, ek⟩
          rw [List.length_map, ← paired_len hF2.pr |>.symm, dl, List.take_length] at ek
          refine ⟨_, rfl, _, rfl, D, _, rfl, .inl ⟨SqL.of mD, fun q nq => ?_⟩⟩
          refine ⟨sz (by show 2 ≤ 900; decide), fun b nb => ?_⟩
          have S1 := KaG.Same.tr S (same_upd (o := .tup (kas.map V.ref)) nq)
          have S2 := KaG.Same.tr S1 (same_upd (o := .tup [.ref rt, .ref q]) nb)
          have S3 := KaG.Same.tr (same_upd (o := .tup (kas.map V.ref)) nq) (same_upd (o := .tup [.ref rt, .ref q]) nb)
          refine k b rs ks _ (E10.trans (Ext.of_same E10.bag S2)) (newAt (E10.trans (Ext.of_same E10.bag S1)) nb) (by omega) ⟨rt, q, kas, upd_same, S2 _ _ h2, same_upd nb _ _ upd_same, (hk.ts (TSame.of S3)).pr⟩ ?_
          exact book_ok hrs hns (by omega) (by omega) (by omega) ek hk.ok
end
end KaG


set_option maxRecDepth 100000
set_option maxHeartbeats 4000000
namespace KaG
open PySem PySem.Spec PyProof.Rows L2 KaN
/-- the dict of least tells -/
def LdOk (kvs : List (Key × V)) (ns : List Str) : Prop := ∀ x ∈ ns, ∃ v : Int, valV kvs (Sum.inr x) = some (.int v) ∧ 1 ≤ v ∧ v ≤ 3
theorem ld_ok {kvs : List (Key × V)} {ns : List Str} (nd : ns.Nodup) (e : kvs.map (·.1) = ns.map Sum.inr) (h : ∀ kv ∈ kvs, ∃ v : Int, kv.2 = .int v ∧ 1 ≤ v ∧ v ≤ 3) : LdOk kvs ns := fun x hx => by
  have m : (Sum.inr x : Key) ∈ kvs.map (·.1) := by rw [e]; exact List.mem_map.mpr ⟨x, hx, rfl⟩
  obtain ⟨kv, hkv, ek⟩ := List.mem_map.mp m
  obtain ⟨v, ev, v1, v3⟩ := h kv hkv
  have nk : (kvs.map (·.1)).Nodup := by rw [e]; exact List.pairwise_map.mpr (nd.imp fun h z => h (Sum.inr.inj z))
  have q := valV_in nk hkv
  rw [ek, ev] at q
  exact ⟨v, q, v1, v3⟩
section
variable {P : Program} {w : World} {K : PySem.W.Frag} {mg : Str → Option Value} {base : Heap}
abbrev nmTh : List Str := ["bag", "kinds", "names", "rows", "name", "least", "found", "k", "grounds", "giver", "tell", "ground"]
theorem scTh : FnScope nmTh ["bag", "kinds"] (defScope sThreaded) := ⟨rfl, rfl, rfl, by decide +kernel, rfl, by decide +kernel, by decide +kernel⟩
def spTh : Sp := fun vs H Q _ => ∃ (bg : Addr) (n : Int), vs = [.ref bg, .int n] ∧ Bag H bg ∧ 1 ≤ n ∧ n ≤ 5 ∧ spBook H bg Q
theorem ok_th {f fM fX fS fT : Addr} {fd fdM fdX fdS fdT : FuncData} (F : Fun K "_law_threaded" "_law_threaded" sThreaded f fd) (T : TxtC mg) (CN : Ct P w K mg base "_law_named" 3 ["bag", "many"] spNamed fM fdM) (CX : Ct P w K mg base "_law_mixed" 2 ["bag", "things"] spMixed fX fdX)
    (C : Ct P w K mg base "_law_some" 2 ["bag", "things"] spSome2 fS fdS) (CT : Ct P w K mg base "_law_take" 1 ["bag", "upto"] spTake fT fdT) : FnOk P w K mg base CX0 6 f fd ["bag", "kinds"] spTh := by
  refine F.ok scTh (fun vs H Q E h => ?_) (fun cdv A outer s H vs Q E hr h => ?_)
  · obtain ⟨bg, n, rfl, _⟩ := h
    rfl
  · obtain ⟨bg, n, rfl, hB, n1, n5, k⟩ := h
    have hr3 : Room 3 (A.deeper (envOfC "_law_threaded" (defScope sThreaded) s.heap.objs.size f cdv)) := hr.mono (by decide)
    have hr2 : Room 2 (A.deeper (envOfC "_law_threaded" (defScope sThreaded) s.heap.objs.size f cdv)) := hr.mono (by decide)
    have hr1 : Room 1 (A.deeper (envOfC "_law_threaded" (defScope sThreaded) s.heap.objs.size f cdv)) := hr.mono (by decide)
    have hu : (A.deeper (envOfC "_law_threaded" (defScope sThreaded) s.heap.objs.size f cdv)).units + 64 < cLine := by have := hr.3; omega
    have u1 : (A.deeper (envOfC "_law_threaded" (defScope sThreaded) s.heap.objs.size f cdv)).units + 1 < cLine := by have := hr.3; omega
    refine ⟨_, (pss_cons (ps_asg (pe_tup (pa_cons (pe_call CN.G hr3 (by rfl) CN.m CN.kp CN.b .nil pass0 (pa_cons (pv 0) (pa_cons (pe_op op_add pe_int (pe_call CT.G hr1 (by rfl) CT.m CT.kp CT.b .nil pass0 (pa_cons (pv 0) (pa_cons (pv 1) pa_nil)))) pa_nil)))
          (pa_cons (pe_call CN.G hr3 (by rfl) CN.m CN.kp CN.b .nil pass0 (pa_cons (pv 0) (pa_cons pe_int pa_nil))) pa_nil)))
          (pg_tup (by rfl) (pgs_cons (pg_name (i := 2) scTh.nd rfl (Or.inl rfl)) (pgs_cons (pg_name (i := 3) scTh.nd rfl (Or.inr rfl)) pgs_nil))))
      (pss_cons (ps_par (i := 5) (j := 6) rfl scTh.nd rfl rfl (by decide) rfl rfl (pa_cons (pe_callTy (call_dictP rfl) (by rfl) T.dct (by decide +kernel) (pa_cons (pe_lc (own := [("name", 4)]) (g := gName 4) (by rfl) scTh.nd (pi_tup (pv 2))
          (blkOk_by (own := [("name", 4)]) (N := nmTh) (sc := defScope sThreaded) (by decide +kernel)) (fun _ _ _ _ _ => pg_name (i := 4) scTh.nd rfl (Or.inl rfl)) (fun _ _ _ _ _ => pts_nil)
          (fun _ _ _ _ _ => pe_tup (pa_cons (pv 4) (pa_cons (pe_op (r := rI0 fun i j => V.int (i + j)) op_add pe_int (pe_call CT.G hr1 (by rfl) CT.m CT.kp CT.b .nil pass0 (pa_cons (pv 0) (pa_cons pe_int pa_nil)))) pa_nil)))) pa_nil)) (pa_cons (pe_lst pa_nil) pa_nil)) (by rfl))
      (pss_cons (ps_for PassesOwn.never rfl (pi_range1 rfl T.b.range (pa_cons (pe_callB call_len_seq (by rfl) T.b.len PySem.boot_len (pa_cons (pv 2) pa_nil)) pa_nil)) (pg_name (i := 7) scTh.nd rfl (Or.inl rfl))
        (pss_cons (ps_par (i := 4) (j := 8) rfl scTh.nd rfl rfl (by decide) rfl rfl (pa_cons (pe_ix ix_tup (pv 2) (pv 7) (fun _ _ => rfl)) (pa_cons (pe_lst pa_nil) pa_nil)) (by rfl))
        (pss_cons (ps_for PassesOwn.never rfl (pi_list (pe_slice sl_list (pe_call CX.G hr2 (by rfl) CX.m CX.kp CX.b .nil pass0 (pa_cons (pv 0) (pa_cons (pv 2) pa_nil))) po_none (po_some (pe_call C.G hr2 (by rfl) C.m C.kp C.b .nil pass0 (pa_cons (pv 0) (pa_cons (pe_lst (pa_cons pe_int (pa_cons pe_int (pa_cons pe_int (pa_cons pe_int (pa_cons pe_int pa_nil)))))) pa_nil)))))) (pg_name (i := 9) scTh.nd rfl (Or.inl rfl))
          (pss_cons (ps_set (i := 10) scTh.nd rfl (Or.inl rfl) (pe_op op_add (pe_dget u1 (pv 5) (pv 4) (fun _ _ => rfl)) (pe_op op_mul (pe_call C.G hr2 (by rfl) C.m C.kp C.b .nil pass0 (pa_cons (pv 0) (pa_cons (pe_lst (pa_cons pe_int (pa_cons pe_int (pa_cons pe_int pa_nil)))) pa_nil)))
            (pe_callTy call_int1 (by rfl) T.b.int (by decide +kernel) (pa_cons (pe_cmpR op_lt (pe_dget u1 (pv 5) (pv 4) (fun _ _ => rfl)) pe_int (nomark _)) pa_nil)))))
          (pss_one (ps_expr (pe_bm PySem.F.plainAttrs_list PySem.F.slot_list_append PySem.F.type_list_append mt_append (pv 8) (pa_cons (pe_tup (pa_cons (pe_tup (pa_cons pe_str (pa_cons (pv 9) (pa_cons (pe_op op_add pe_int (pe_call CT.G hr1 (by rfl) CT.m CT.kp CT.b .nil pass0 (pa_cons (pv 0) (pa_cons (pe_dget u1 (pv 5) (pv 9) (fun _ _ => rfl)) pa_nil)))) (pa_cons (pv 10) (pa_cons pe_int pa_nil)))))) pa_nil)) pa_nil))))))
        (pss_cons (ps_if (PW.pt (pw_or (pt_cmpR op_eq (pv 7) pe_int (nomark _)) (pw_or1 (pt_cmpR op_eq (pe_call CT.G hr1 (by rfl) CT.m CT.kp CT.b .nil pass0 (pa_cons (pv 0) (pa_cons pe_int pa_nil))) pe_int (nomark _)))))
          (pss_one (ps_expr (pe_bm PySem.F.plainAttrs_list PySem.F.slot_list_append PySem.F.type_list_append mt_append (pv 8) (pa_cons (pe_tup (pa_cons (pe_tup (pa_cons pe_str (pa_cons (pe_ix ix_tup (pv 3) pe_int (fun _ _ => rfl)) (pa_cons (pe_call CT.G hr1 (by rfl) CT.m CT.kp CT.b .nil pass0 (pa_cons (pv 0) (pa_cons pe_int pa_nil))) (pa_cons pe_int pa_nil))))) pa_nil)) pa_nil)))) pss_nil)
        (pss_cons (ps_if (pt_cmpR op_eq (pe_call CT.G hr1 (by rfl) CT.m CT.kp CT.b .nil pass0 (pa_cons (pv 0) (pa_cons pe_int pa_nil))) pe_int (nomark _))
          (pss_one (ps_setLc (i := 8) (own := [("ground", 11)]) (g := gName 11) (by rfl) scTh.nd rfl rfl (sw_true rfl rfl rfl (by decide +kernel)) (pi_list (pv 8))
            (blkOk_by (own := [("ground", 11)]) (N := nmTh) (sc := defScope sThreaded) (by decide +kernel)) (fun _ _ _ _ _ => pg_name (i := 11) scTh.nd rfl (Or.inl rfl)) (fun _ _ _ _ _ => pts_nil)
            (fun _ _ _ _ _ => pe_callTy (T := "tuple") (r := rTupOf K) call_tupOf (by rfl) T.tup (by decide +kernel) (pa_cons (pe_callB (id := "sorted") (r := rSortN K w) (cr_sortN rfl hu) (by rfl) T.sor (by decide +kernel) (pa_cons (pe_callTy (T := "set") (r := rSetN K w) (cr_setN rfl hu) (by rfl) T.set (by decide +kernel)
              (pa_cons (pe_op (r := rCatT K) op_catT (pv 11) (pe_tup (pa_cons (pe_tup (pa_cons pe_str (pa_cons (pe_ix (r := rIxT K) ix_tup (pv 3) pe_int (fun _ _ => rfl)) (pa_cons pe_int (pa_cons pe_int pa_nil))))) pa_nil))) pa_nil)) pa_nil)) pa_nil)))) pss_nil)
        (pss_one (ps_expr (pe_bm PySem.F.plainAttrs_list PySem.F.slot_list_append PySem.F.type_list_append mt_append (pv 6) (pa_cons (pe_tup (pa_cons (pv 4) (pa_cons (pe_op op_add pe_int (pe_call CT.G hr1 (by rfl) CT.m CT.kp CT.b .nil pass0 (pa_cons (pv 0) (pa_cons pe_int pa_nil))))
            (pa_cons (pe_call C.G hr2 (by rfl) C.m C.kp C.b .nil pass0 (pa_cons (pv 0) (pa_cons (pe_lst (pa_cons pe_int (pa_cons pe_int (pa_cons pe_int (pa_cons pe_int (pa_cons pe_int (pa_cons pe_int pa_nil))))))) pa_nil)))
            (pa_cons (pe_callTy call_tupOf (by rfl) T.tup (by decide +kernel) (pa_cons (pe_callB (cr_sortN rfl hu) (by rfl) T.sor (by decide +kernel) (pa_cons (pe_callTy (cr_setN rfl hu) (by rfl) T.set (by decide +kernel) (pa_cons (pv 8) pa_nil)) pa_nil)) pa_nil)) pa_nil))))) pa_nil)))))))))
      (pss_one (ps_ret (pe_tup (pa_cons (pv 3) (pa_cons (pe_callTy call_tuple_of (by rfl) T.tup (by decide +kernel) (pa_cons (pv 6) pa_nil)) pa_nil)))))))), ?_⟩
    have sz : ∀ {m : Nat}, m ≤ 900 → m ≤ sizeLine := fun h => Nat.le_of_lt (small1000 (by omega))
    refine ⟨_, rfl, _, rfl, _, rfl, bg, _, rfl, hB, by omega, by omega, fun z1 H1 E1 a0 a1 => ?_⟩
    refine ⟨_, _, rfl, rfl, bg, _, rfl, E1.bag, by omega, by omega, fun nt ns H2 E2 nnt ent hns lns => ?_⟩
    have E12 := E1.trans E2
    refine ⟨_, rfl, bg, 2, rfl, E12.bag, by decide, by decide, fun rt rs H4 E4 nrt ert hrs lrs => ?_⟩
    have E14 := E12.trans E4
    have ntb : nt ≠ bg := fun z => E1.bag.there (z ▸ nnt)
    have rtb : rt ≠ bg := fun z => E12.bag.there (z ▸ nrt)
    have ent4 := E4.keep nt _ ntb ent
    have nl : ns.length = (1 + z1).toNat := lns
    have rl : rs.length = 2 := lrs
    refine ⟨sz (by show 2 ≤ 900; decide), fun t nt' => ?_⟩
    refine ⟨t, _, rfl, SqT.of upd_same, by rfl, _, _, rfl, _, _, rfl, rfl, ?_⟩
    have E15 := E14.new (o := .tup [.ref nt, .ref rt]) nt'
    have e1 := same_upd (o := .tup [.ref nt, .ref rt]) nt' _ _ ent4
    have e2 := same_upd (o := .tup [.ref nt, .ref rt]) nt' _ _ ert
    generalize upd H4 t (.tup [.ref nt, .ref rt]) = H5 at E15 e1 e2 ⊢
    refine ⟨_, rfl, nt, rfl, ⟨_, SqT.of e1⟩, fun D hD => lc_tup (K := K) (a := nt) (xs := ns.map V.str) (fun i G => Ext bg H5 G ∧ ∃ (qs : List Addr) (kvs : List (Key × V)), G D = some (.lst (qs.map V.ref)) ∧ Paired (fun q (kv : Key × V) => G q = some (.tup [kV kv.1, kv.2])) qs kvs ∧ kvs.map (·.1) = (ns.take i).map Sum.inr ∧ ∀ kv ∈ kvs, ∃ v : Int, kv.2 = .int v ∧ 1 ≤ v ∧ v ≤ 3) ?_ ?_ ?_ ?_⟩
    · exact ⟨(Ext.of_same E15.bag Same.refl').new hD, [], [], upd_same, .nil, rfl, fun _ z => (by cases z)⟩
    · rintro i G _ ⟨E6, _⟩
      exact SqT.of (E6.keep nt _ ntb e1)
    · rintro i x G hx ⟨E6, qs, kvs, gD, pq, ek, hv⟩
      rw [List.getElem?_map] at hx
      obtain ⟨nm, hnm, rfl⟩ := Option.map_eq_some_iff.mp hx
      have hi := (List.getElem?_eq_some_iff.mp hnm).1
      have Db : D ≠ bg := fun z => E15.bag.there (z ▸ hD)
      refine ⟨rfl, ?_⟩
      unfold tYes
      dsimp only
      refine iteT ⟨_, rfl, _, rfl, bg, 3, rfl, E6.bag, by decide, by decide, fun y G2 E7 c0 c1 => ?_⟩
      refine ⟨_, _, rfl, rfl, sz (by show 2 ≤ 900; decide), fun q nq => ?_⟩
      have gD2 := E7.keep D _ Db gD
      have S1 := same_upd (o := .tup [.str nm, .int (1 + y)]) nq
      have E8 := E7.trans (Ext.of_same E7.bag S1)
      have lq : qs.length ≤ 5 := by
        have h1 := paired_len pq
        have h2 := congrArg List.length ek
        rw [List.length_map, List.length_map, List.length_take] at h2
        omega
      have tsl := ts_lst (ys := qs.map V.ref ++ [V.ref q]) (S1 _ _ gD2)
      refine ⟨_, S1 _ _ gD2, small1000 (by rw [List.length_map]; omega), Ext.write E15.bag (E6.trans E8) hD, qs ++ [q], kvs ++ [(Sum.inr nm, .int (1 + y))], by rw [upd_same, List.map_append]; rfl, ?_, ?_, ?_⟩
      · refine paired_snoc (x := q) (y := ((Sum.inr nm : Key), V.int (1 + y))) ?_ (Paired.mono' (fun a kv h => tsl _ _ (TSame.ext E6.bag E8 _ _ h)) pq)
        exact tsl _ _ upd_same
      · rw [List.map_append, ek, List.take_add_one, hnm, Option.toList_some, List.map_append]; rfl
      · intro kv m
        rcases List.mem_append.mp m with c | c
        · exact hv kv c
        · rw [List.mem_singleton.mp c]; exact ⟨1 + y, rfl, by omega, by omega⟩
    · rintro G ⟨E6, qs, kvs, gD, pq, ek, hv⟩
      rw [List.length_map, List.take_length] at ek
      have nk : ((([] : List (Key × V)) ++ kvs).map (·.1)).Nodup := by
        rw [List.nil_append, ek]
        exact List.pairwise_map.mpr (hns.nd.imp fun h z => h (Sum.inr.inj z))
      refine ⟨D, qs, kvs, rfl, SqL.of gD, Paired.mono' (fun a kv h => SqT.of h) pq, fun ld nld => ?_⟩
      rw [merge_new _ _ nk, List.nil_append]
      have hld := ld_ok hns.nd ek hv
      have E7 := (E15.trans E6).new (o := .dK kvs) nld
      have f1 := same_upd (o := .dK kvs) nld _ _ (E6.keep nt _ ntb e1)
      have f2 := same_upd (o := .dK kvs) nld _ _ (E6.keep rt _ rtb e2)
      have fl : (upd G ld (.dK kvs)) ld = some (.dK kvs) := upd_same
      have ldb : ld ≠ bg := fun z => E6.bag.there (z ▸ nld)
      generalize upd G ld (.dK kvs) = G7 at E7 f1 f2 fl ⊢
      refine ⟨Nat.zero_le _, fun p np => ?_⟩
      have pH : H p = none := newAt E7 np
      have pb : p ≠ bg := fun z => hB.there (z ▸ pH)
      refine ⟨_, _, rfl, ?_⟩
      refine ⟨_, rfl, nt, _, rfl, .inr (SqT.of (same_upd np _ _ f1)), _, rfl, by omega, by rw [List.length_map]; omega, for_range (fun i σ' J => (∃ x4 x7 x8 x9 x10 x11 : Option V, σ' = [some (.ref bg), some (.int n), some (.ref nt), some (.ref rt), x4, some (.ref ld), some (.ref p), x7, x8, x9, x10, x11]) ∧
        Ext bg H J ∧ J nt = some (.tup (ns.map V.str)) ∧ J rt = some (.tup (rs.map V.str)) ∧ J ld = some (.dK kvs) ∧ ∃ (kas : List Addr) (ks : List Kd), J p = some (.lst (kas.map V.ref)) ∧ KsAt J rs ns kas ks ∧ ks.map Kd.name = ns.take i) ?_ ?_ ?_⟩
      · exact ⟨⟨_, _, _, _, _, _, rfl⟩, E7.new np, same_upd np _ _ f1, same_upd np _ _ f2, same_upd np _ _ fl, [], [], upd_same, ⟨.nil, fun _ z => nomatch z⟩, rfl⟩
      · rintro i σ' J hi ⟨⟨x4, x7, x8, x9, x10, x11, rfl⟩, E8, g1, g2, gl, kas, ks, gp, hk, en⟩
        rw [Int.toNat_natCast, List.length_map] at hi
        have hni : ns[i]? = some ns[i] := List.getElem?_eq_getElem hi
        obtain ⟨v, ev, v1, v3⟩ := hld ns[i] (List.getElem_mem hi)
        refine ⟨_, rfl, _, rfl, nt, _, _, .str ns[i], rfl, rfl, SqT.of g1, by rw [Int.zero_add]; exact atI_nat (by rw [List.getElem?_map, hni]; rfl), Nat.zero_le _, fun gr ngr => ⟨_, _, rfl, ?_⟩⟩
        have E9 : Ext bg J (upd J gr (.lst [])) := (Ext.of_same E8.bag Same.refl').new ngr
        have grb : gr ≠ bg := fun z => E8.bag.there (z ▸ ngr)
        have grp : gr ≠ p := fun z => by rw [z, gp] at ngr; cases ngr
        have gr0 : (upd J gr (.lst [])) gr = some (.lst []) := upd_same
        generalize upd J gr (.lst []) = J0 at E9 gr0 ⊢
        refine ⟨_, rfl, _, rfl, bg, nt, ns.map V.str, rfl, E9.bag, ntb, .inr (E9.keep nt _ ntb g1), by rw [List.length_map]; omega, fun m ys J1 E10 nm em pm => ?_⟩
        obtain ⟨zs, pz, rfl⟩ := perm_of_map pm ns rfl
        have mb : m ≠ bg := fun z => E9.bag.there (z ▸ nm)
        refine ⟨_, rfl, sz (by show 5 ≤ 900; decide), fun q nq => ?_⟩
        have E11 := E10.new (o := .lst [.int 1, .int 1, .int 2, .int 2, .int 3]) nq
        have qb : q ≠ bg := fun z => E10.bag.there (z ▸ nq)
        refine ⟨bg, q, _, rfl, E11.bag, qb, .inl upd_same, by decide, by decide, fun u J2 mu E12 => ?_⟩
        obtain ⟨z, rfl, z1', z3'⟩ := ints_in (ns := [1, 1, 2, 2, 3]) (lo := 1) (hi := 3) (by decide) mu
        have hm := E12.keep m _ mb (same_upd (o := .lst [.int 1, .int 1, .int 2, .int 2, .int 3]) nq _ _ em)
        refine ⟨z, rfl, _, _, rfl, SqL.of hm, fun r nr => ?_⟩
        rw [cut_to _ z (by omega), ← List.map_take]
        have lz : (zs.take z.toNat).length ≤ 3 := by rw [List.length_take]; omega
        have inz : ∀ x ∈ zs.take z.toNat, x ∈ ns := fun x hx => pz.mem_iff.mp (List.mem_of_mem_take hx)
        generalize zs.take z.toNat = zz at lz inz ⊢
        have E13 := ((E9.trans E11).trans E12).new (o := .lst (zz.map V.str)) nr
        have rb : r ≠ bg := fun z => E12.bag.there (z ▸ nr)
        have E9to := (E11.trans E12).new (o := .lst (zz.map V.str)) nr
        have gr1 := E9to.keep gr _ grb gr0
        have hr0 : (upd J2 r (.lst (zz.map V.str))) r = some (.lst (zz.map V.str)) := upd_same
        have rgr : r ≠ gr := fun z => by
          have := (E11.trans E12).keep gr _ grb gr0
          rw [← z, nr] at this; cases this
        have grH : J gr = none := ngr
        have rJ : J r = none := newAt ((E9.trans E11).trans E12) nr
        generalize upd J2 r (.lst (zz.map V.str)) = J3 at E13 gr1 hr0 ⊢
        refine ⟨r, rfl, ⟨_, SqL.of hr0⟩, for_list (K := K) (a := r) (xs := zz.map V.str) (fun j σ' M => (∃ x9 x10 x11 : Option V, σ' = [some (.ref bg), some (.int n), some (.ref nt), some (.ref rt), some (.str ns[i]), some (.ref ld), some (.ref p), some (.int (0 + (i : Int))), some (.ref gr), x9, x10, x11]) ∧
          Ext bg J M ∧ M r = some (.lst (zz.map V.str)) ∧ ∃ (as : List Addr) (gs : List (List (List V))), M gr = some (.lst (as.map V.ref)) ∧ GsAt M rs ns as gs ∧ as.length = j ∧ ∀ g ∈ gs, g.length = 1) ?_ ?_ ?_ ?_⟩
        · exact ⟨⟨_, _, _, rfl⟩, E13, hr0, [], [], gr1, GsAt.nil, rfl, fun _ z => (by cases z)⟩
        · rintro j σ' M _ ⟨_, _, hr, _⟩
          exact SqL.of hr
        · rintro j x σ' M hx ⟨⟨x9, x10, x11, rfl⟩, E14, hr, as, gs, mg', hg, la, one⟩
          rw [List.getElem?_map] at hx
          obtain ⟨gv, hgv, rfl⟩ := Option.map_eq_some_iff.mp hx
          have hj := (List.getElem?_eq_some_iff.mp hgv).1
          have gin := inz gv (List.mem_of_getElem? hgv)
          obtain ⟨v', ev', v1', v3''⟩ := hld gv gin
          have hl := E14.keep ld _ ldb gl
          refine ⟨_, rfl, _, rfl, ld, .int v, rfl, by rw [← ev]; exact DGet.k (k := Sum.inr ns[i]) hl, ?_⟩
          refine ⟨_, rfl, sz (by show 3 ≤ 900; decide), fun q nq => ?_⟩
          have E15 := (Ext.of_same E14.bag Same.refl' : Ext bg M M).new (o := .lst [.int 0, .int 0, .int 1]) nq
          have qb : q ≠ bg := fun z => E14.bag.there (z ▸ nq)
          refine ⟨bg, q, _, rfl, E15.bag, qb, .inl upd_same, by decide, by decide, fun u2 M2 mu2 E16 => ?_⟩
          obtain ⟨u, rfl, u0, u1'⟩ := ints_in (ns := [0, 0, 1]) (lo := 0) (hi := 1) (by decide) mu2
          have E17 := E15.trans E16
          have hl2 := E17.keep ld _ ldb hl
          refine ⟨_, rfl, _, rfl, ld, .int v, rfl, by rw [← ev]; exact DGet.k (k := Sum.inr ns[i]) hl2, _, _, rfl, rfl, .inr ⟨_, rfl, _, _, rfl, rfl, .inl ⟨by omega, by omega⟩, _, _, rfl, rfl, ?_⟩⟩
          have hte : 0 ≤ v + u * (if decide (v < 4) = true then 1 else 0) ∧ v + u * (if decide (v < 4) = true then 1 else 0) ≤ 4 := by
            split <;> omega
          dsimp only [gName]
          generalize v + u * (if decide (v < 4) = true then (1 : Int) else 0) = te at hte ⊢
          have mg2 := E17.keep gr _ grb mg'
          refine ⟨_, rfl, .inl ⟨rfl, _, SqL.of mg2⟩, _, rfl, _, rfl, _, rfl, _, rfl, ld, .int v', rfl, by rw [← ev']; exact DGet.k (k := Sum.inr gv) hl2, bg, v', rfl, E17.bag, by omega, by omega, fun y M3 E18 c0 c1 => ?_⟩
          refine ⟨_, _, rfl, rfl, _, rfl, sz (by show 5 ≤ 900; decide), fun na nna => ⟨sz (by show 1 ≤ 900; decide), fun ga nga => ?_⟩⟩
          have E19 := E17.trans E18
          have S1 := same_upd (o := .tup [.str "kind", .str gv, .int (1 + y), .int te, .int 9]) nna
          have S2 := same_upd (o := .tup [.ref na]) nga
          have S12 := KaG.Same.tr S1 S2
          have mg3 := S12 _ _ (E18.keep gr _ grb mg2)
          have E20 := E19.trans (Ext.of_same E19.bag S12)
          have E21 := E14.trans E20
          refine ⟨gr, _, _, rfl, rfl, mg3, small1000 (by rw [List.length_map]; omega), ?_⟩
          have tsl := ts_lst (ys := as.map V.ref ++ [V.ref ga]) mg3
          refine ⟨⟨_, _, _, rfl⟩, Ext.write E8.bag E21 ngr, by rw [upd_ne rgr]; exact E20.keep r _ rb hr, as ++ [ga], gs ++ [[[.str "kind", .str gv, .int (1 + y), .int te, .int 9]]], by rw [upd_same, List.map_append]; rfl, ?_, by rw [List.length_append, la]; rfl, fun g m => ?_⟩
          · refine (GsAt.snoc (hg.ts (TSame.ext E14.bag E20)) (grd_one upd_same (S2 _ _ upd_same)) ⟨by show 0 < 1; decide, by show 1 ≤ 3; decide, fun n2 m2 => ?_⟩).ts tsl
            rw [List.mem_singleton.mp m2]
            exact .kind gv (1 + y) te 9 gin (by omega) (by omega) hte.1 hte.2 (by decide) (by decide)
          · rcases List.mem_append.mp m with c | c
            · exact one g c
            · rw [List.mem_singleton.mp c]; rfl
        · rintro σ' M ⟨⟨x9, x10, x11, rfl⟩, E14, hr, as, gs, mg', hg, la, one⟩
          rw [List.length_map] at la
          dsimp only
          refine seqGo (fun b' D' => ∀ (as : List Addr) (gs : List (List (List V))) (M' : Hp), Ext bg J M' → M' gr = some (.lst (as.map V.ref)) → GsAt M' rs ns as gs → (∀ g ∈ gs, g.length = 1) → gs.length ≤ 4 →
            b' D' [some (.ref bg), some (.int n), some (.ref nt), some (.ref rt), some (.str ns[i]), some (.ref ld), some (.ref p), some (.int (0 + (i : Int))), some (.ref gr), x9, x10, x11] M') (fun as gs M E14 mg' hg one le4 => ?_) (fun rest => ?_)
          · refine seqGo (fun b' D' => ∀ (ga : Addr) (as : List Addr) (gs : List (List (List V))) (M' : Hp), Ext bg J M' → M' ga = some (.lst (as.map V.ref)) → ga ≠ bg → GsAt M' rs ns as gs → gs.length ≤ 4 →
              b' D' [some (.ref bg), some (.int n), some (.ref nt), some (.ref rt), some (.str ns[i]), some (.ref ld), some (.ref p), some (.int (0 + (i : Int))), some (.ref ga), x9, x10, x11] M') (fun ga bs hs M4 E11 gg gab hgs lb => ?_) (fun rest => ?_)
            · have gp4 := E11.keep p _ pb gp
              have lenb := paired_len hgs.pr
              refine ⟨_, rfl, .inl ⟨rfl, _, SqL.of gp4⟩, _, rfl, _, rfl, bg, 3, rfl, E11.bag, by decide, by decide, fun y1 G5 E12 c0 c1 => ?_⟩
              refine ⟨_, _, rfl, rfl, _, rfl, sz (by show 6 ≤ 900; decide), fun q2 nq2 => ?_⟩
              have E13 := E12.new (o := .lst [.int 0, .int 0, .int 1, .int 2, .int 3, .int 8]) nq2
              have q2b : q2 ≠ bg := fun z => E12.bag.there (z ▸ nq2)
              refine ⟨bg, q2, _, rfl, E13.bag, q2b, .inl upd_same, by decide, by decide, fun v2 G6 mv2 E14 => ?_⟩
              obtain ⟨bar, rfl, bar0, bar12⟩ := ints_in (ns := [0, 0, 1, 2, 3, 8]) (lo := 0) (hi := 8) (by decide) mv2
              have E15 := E13.trans E14
              have hgs6 := hgs.ts (TSame.ext E11.bag E15)
              refine ⟨_, rfl, ?_⟩
              dsimp only [tCB, tCons, tNil]
              refine order_grounds (K := K) (w := w) (rows := rs) (names := ns) (.inl (SqL.of (E15.keep ga _ gab gg))) hgs6.pr (fun g m => ⟨(hgs6.ok g m).1, (hgs6.ok g m).2.2⟩) (by omega) fun a2 bs2 gs2 G7 S na2 ea2 pr2 sub le => ?_
              have gp7 := S _ _ (E15.keep p _ pb gp4)
              refine ⟨sz (by show 4 ≤ 900; decide), fun ka nka => ?_⟩
              have S8 := same_upd (o := .tup [.str ns[i], .int (6 + y1), .int bar, .ref a2]) nka
              have hli := paired_len hk.pr
              have hik : ks.length = i := by
                have := congrArg List.length en
                rw [List.length_map, List.length_take] at this
                omega
              refine ⟨p, _, _, rfl, rfl, S8 _ _ gp7, small1000 (by rw [List.length_map]; omega), ?_⟩
              have E17 : Ext bg J (upd G7 ka (.tup [.str ns[i], .int (6 + y1), .int bar, .ref a2])) := ((E11.trans E15).trans (Ext.of_same E15.bag S)).new nka
              have T7 : TSame J (upd G7 ka (.tup [.str ns[i], .int (6 + y1), .int bar, .ref a2])) := TSame.ext E8.bag E17
              have tw := ts_lst (ys := kas.map V.ref ++ [.ref ka]) (S8 _ _ gp7)
              have ldp : ld ≠ p := fun z => by rw [z, gp] at gl; cases gl
              refine ⟨⟨_, _, _, _, _, _, rfl⟩, Ext.write hB (E8.trans E17) pH, tw _ _ (T7 _ _ g1), tw _ _ (T7 _ _ g2), by rw [upd_ne ldp]; exact E17.keep ld _ ldb gl, kas ++ [ka], ks ++ [⟨ns[i], 6 + y1, bar, gs2⟩], by rw [upd_same, List.map_append]; rfl, ?_, ?_⟩
              · refine (((hk.ts T7).snoc ?_ ?_).ts tw)
                · exact ⟨a2, bs2, upd_same, S8 _ _ ea2, Paired.mono' (fun a b q => Grd.ts q (TSame.of S8)) pr2⟩
                · exact ⟨⟨by show 1 ≤ 6 + y1; omega, by show 6 + y1 ≤ 8; omega, bar0, by show bar ≤ 12; omega, by show gs2.length ≤ 4; omega⟩, fun g m => hgs.ok g (sub g m)⟩
              · rw [List.map_append, en, List.take_add_one, hni]; rfl
            · refine ⟨_, rfl, bg, 4, rfl, E14.bag, by decide, by decide, fun y M1 E15 c0 c1 => ⟨rfl, _, rfl, ite2 (fun hc => ?_) fun hc => rest gr as gs M1 (E14.trans E15) (E15.keep gr _ grb mg') grb (hg.ts (TSame.ext E14.bag E15)) le4⟩⟩
              have E16 := E14.trans E15
              have mg1 := E15.keep gr _ grb mg'
              have hg1 := hg.ts (TSame.ext E14.bag E15)
              have lenas := paired_len hg1.pr
              refine ⟨_, rfl, gr, rfl, ⟨_, SqL.of mg1⟩, fun D hD => lc_list (K := K) (a := gr) (xs := as.map V.ref) (fun j M => Ext bg M1 M ∧ ∃ (bs : List Addr) (hs : List (List (List V))), M D = some (.lst (bs.map V.ref)) ∧ GsAt M rs ns bs hs ∧ bs.length = j) ?_ ?_ ?_ ?_⟩
              · exact ⟨(Ext.of_same E16.bag Same.refl').new hD, [], [], upd_same, GsAt.nil, rfl⟩
              · rintro j M _ ⟨E18, _⟩
                exact SqL.of (E18.keep gr _ grb mg1)
              · rintro j v M hv ⟨E18, bs, hs, mD, hh, lb⟩
                rw [List.getElem?_map] at hv
                obtain ⟨a2, ha2, rfl⟩ := Option.map_eq_some_iff.mp hv
                obtain ⟨g, hgg, nsA, w1, w2⟩ := paired_at hg1.pr ha2
                have og := hg1.ok g (List.mem_of_getElem? hgg)
                have one' := one g (List.mem_of_getElem? hgg)
                have hj : j < as.length := (List.getElem?_eq_some_iff.mp ha2).1
                have ts7 := TSame.ext E16.bag E18
                have Db : D ≠ bg := fun z => E16.bag.there (z ▸ hD)
                have pz := paired_len w2
                obtain ⟨z, hz, ez⟩ := at_str (ns := rs) (z := 1) (by decide) (by omega)
                refine ⟨rfl, ?_⟩
                unfold tYes
                dsimp only
                refine iteT ⟨_, rfl, _, rfl, rt, _, 1, .str z, rfl, rfl, SqT.of (ts7 _ _ (E16.keep rt _ rtb g2)), ez, sz (by show 4 ≤ 900; decide), fun na nna => ⟨sz (by show 1 ≤ 900; decide), fun ta nta => ?_⟩⟩
                have S1 := same_upd (o := .tup [.str "row", .str z, .int 1, .int 3]) nna
                have S2 := same_upd (o := .tup [.ref na]) nta
                have S12 := KaG.Same.tr S1 S2
                have y1 : (upd (upd M na (.tup [.str "row", .str z, .int 1, .int 3])) ta (.tup [.ref na])) na = some (.tup [.str "row", .str z, .int 1, .int 3]) := S2 _ _ upd_same
                have y2 : (upd (upd M na (.tup [.str "row", .str z, .int 1, .int 3])) ta (.tup [.ref na])) ta = some (.tup [.ref na]) := upd_same
                generalize upd (upd M na (.tup [.str "row", .str z, .int 1, .int 3])) ta (.tup [.ref na]) = M2 at S12 y1 y2 ⊢
                have mD2 := S12 _ _ mD
                have E21 : Ext bg M1 M2 := E18.trans (Ext.of_same E18.bag S12)
                have ts8 : TSame M1 M2 := TSame.ext E16.bag E21
                refine ⟨a2, ta, _, _, rfl, rfl, SqT.of (ts8 _ _ w1), SqT.of y2, ?_, sz (by rw [List.length_map]; show _ + 1 ≤ 900; omega), (fun e => by cases e), fun _ r nr => ?_⟩
                · intro e
                  have := congrArg List.length e
                  rw [List.length_map, List.length_nil] at this
                  omega
                have S4 := same_upd (o := .tup (nsA.map V.ref ++ [V.ref na])) nr
                dsimp only [tCB, tCons, tNil]
                have mem : ∀ n2 ∈ g ++ [[.str "row", .str z, .int 1, .int 3]], NeedV rs ns n2 := fun n2 m => (List.mem_append.mp m).elim (og.2.2 n2) fun m => by rw [List.mem_singleton.mp m]; exact .row z 1 3 hz (by decide) (by decide) (by decide) (by decide)
                refine order_needs (K := K) (w := w) (rows := rs) (names := ns) (as := nsA ++ [na]) (g := g ++ [[.str "row", .str z, .int 1, .int 3]]) (by rw [List.map_append]; exact .inr (SqT.of upd_same))
                  (paired_snoc (R := fun n2 it => (upd M2 r (.tup (nsA.map V.ref ++ [V.ref na]))) n2 = some (.tup it)) (S4 _ _ y1) (Paired.mono' (fun _ _ q => S4 _ _ (ts8 _ _ q)) w2)) mem (by rw [List.length_append]; show _ + 1 ≤ 4; omega) fun a3 g3 M3 S5 na3 ha3 sub3 pos3 le3 => ?_
                have S45 := KaG.Same.tr S4 S5
                have mD3 := S45 _ _ mD2
                rw [List.length_append] at pos3 le3
                have le3' : g3.length ≤ g.length + 1 := le3
                refine ⟨_, mD3, small1000 (by rw [List.length_map]; omega), Ext.write E16.bag (E21.trans (Ext.of_same E21.bag S45)) hD, bs ++ [a3], hs ++ [g3], by rw [upd_same, List.map_append]; rfl, ?_, by rw [List.length_append, lb]; rfl⟩
                have ts9 : TSame M M3 := TSame.of (KaG.Same.tr S12 S45)
                exact ((hh.ts ts9).snoc ha3 ⟨pos3 (by show 0 < _ + 1; omega), by omega, fun n2 m => mem n2 (sub3 n2 m)⟩).ts (ts_lst mD3)
              · rintro M ⟨E18, bs, hs, mD, hh, lb⟩
                rw [List.length_map] at lb
                have Db : D ≠ bg := fun z => E16.bag.there (z ▸ hD)
                have lh := paired_len hh.pr
                exact rest D bs hs M (E16.trans E18) mD Db hh (by omega)
          · refine ifGo (fun M' => Ext bg M M') (fun M' EM => ?_) (fun M' EM => ?_) (fun Q' q => ?_)
            · have g2M := (E14.trans EM).keep rt _ rtb g2
              have ygM := EM.keep gr _ grb mg'
              obtain ⟨z, hz, ez⟩ := at_str (ns := rs) (z := 0) (by decide) (by omega)
              have lg := paired_len hg.pr
              refine ⟨_, rfl, .inl ⟨rfl, _, SqL.of ygM⟩, _, rfl, rt, _, 0, .str z, rfl, rfl, SqT.of g2M, ez, _, rfl, bg, 5, rfl, EM.bag, by decide, by decide, fun y2 M1 E17 d0 d1 => ?_⟩
              refine ⟨sz (by show 4 ≤ 900; decide), fun nb nnb => ⟨sz (by show 1 ≤ 900; decide), fun gb ngb => ?_⟩⟩
              have yg1 := E17.keep gr _ grb ygM
              have T1 := same_upd (o := .tup [.str "row", .str z, .int y2, .int 9]) nnb
              have T2 := same_upd (o := .tup [.ref nb]) ngb
              have T12 := KaG.Same.tr T1 T2
              have yg2 := T12 _ _ yg1
              refine ⟨gr, _, _, rfl, rfl, yg2, small1000 (by rw [List.length_map]; omega), ?_⟩
              have tsl := ts_lst (ys := as.map V.ref ++ [V.ref gb]) yg2
              have E18 := E17.trans (Ext.of_same E17.bag T12)
              have E19 := EM.trans E18
              refine rest (as ++ [gb]) (gs ++ [[[.str "row", .str z, .int y2, .int 9]]]) _ (Ext.write E8.bag (E14.trans E19) ngr) (by rw [upd_same, List.map_append]; rfl) ?_ (fun g m => ?_) (by rw [List.length_append]; show _ + 1 ≤ 4; omega)
              · refine ((hg.ts (TSame.ext E14.bag E19)).snoc (grd_one upd_same (T2 _ _ upd_same)) ⟨by show 0 < 1; decide, by show 1 ≤ 3; decide, fun n2 m2 => ?_⟩).ts tsl
                rw [List.mem_singleton.mp m2]
                exact .row z y2 9 hz d0 (by omega) (by decide) (by decide)
              · rcases List.mem_append.mp m with c | c
                · exact one g c
                · rw [List.mem_singleton.mp c]; rfl
            · have lg := paired_len hg.pr
              exact rest as gs M' (E14.trans EM) (EM.keep gr _ grb mg') (hg.ts (TSame.ext E14.bag EM)) one (by omega)
            · have r0' : Ext bg M M := Ext.of_same E14.bag Same.refl'
              refine ⟨_, rfl, rfl, _, rfl, ite2 (fun h1 => q _ _ r0') fun h1 => ?_⟩
              exact ⟨_, rfl, bg, 4, rfl, E14.bag, by decide, by decide, fun y M E c0 c1 => ⟨rfl, _, rfl, q _ _ E⟩⟩
      · rintro σ' J ⟨⟨x4, x7, x8, x9, x10, x11, rfl⟩, E8, g1, g2, gl, kas, ks, gp, hk, en⟩
        rw [Int.toNat_natCast, List.length_map, List.take_length] at en
        refine ⟨_, rfl, _, rfl, p, _, rfl, .inl ⟨SqL.of gp, fun q nq => ?_⟩⟩
        refine ⟨sz (by show 2 ≤ 900; decide), fun b nb => ?_⟩
        have S1 := same_upd (o := .tup (kas.map V.ref)) nq
        have S2 := KaG.Same.tr S1 (same_upd (o := .tup [.ref rt, .ref q]) nb)
        refine k b rs ks _ (E8.trans (Ext.of_same E8.bag S2)) (newAt (E8.trans (Ext.of_same E8.bag S1)) nb) (by omega) ⟨rt, q, kas, upd_same, S2 _ _ g2, same_upd nb _ _ upd_same, (hk.ts (TSame.of S2)).pr⟩ ?_
        exact book_ok hrs hns (by omega) (by omega) (by omega) en hk.ok
end
end KaG


set_option maxRecDepth 100000
set_option maxHeartbeats 4000000
namespace KaG
open PySem PySem.Spec PyProof.Rows L2 KaN
theorem tup_ne {H : Hp} {bg r : Addr} {xs : List V} (hb : Bag H bg) (e : H r = some (.tup xs)) : r ≠ bg := fun z => by
  obtain ⟨c, st, i, b, ns, e1, _⟩ := hb
  rw [← z, e] at e1
  cases e1
section
variable {P : Program} {w : World} {K : PySem.W.Frag} {mg : Str → Option Value} {base : Heap}
theorem scRb : FnScope ["bag", "kinds", "way", "found"] ["bag", "kinds"] (defScope sRulebook) := ⟨rfl, rfl, rfl, by decide +kernel, rfl, by decide +kernel, by decide +kernel⟩
def spRb : Sp := fun vs H Q _ => ∃ (bg : Addr) (n : Int), vs = [.ref bg, .int n] ∧ Bag H bg ∧ 1 ≤ n ∧ n ≤ 5 ∧ ∀ (t p : Addr) (x : V) (rs : List Str) (ks : List Kd) (H' : Hp), Ext bg H H' → H' t = some (.tup [.ref p, x]) → rs.length ≤ 5 → BookAt H' p rs ks → BookOk rs ks → Q (.ref t) H'
theorem ok_rb {f fX fS fT fA fP fH : Addr} {fd fdX fdS fdT fdA fdP fdH : FuncData} (F : Fun K "_law_rulebook" "_law_rulebook" sRulebook f fd) (T : TxtC mg) (CX : Ct P w K mg base "_law_mixed" 2 ["bag", "things"] spMixed fX fdX)
    (C : Ct P w K mg base "_law_some" 2 ["bag", "things"] spSome2 fS fdS) (CT : Ct P w K mg base "_law_take" 1 ["bag", "upto"] spTake fT fdT) (CA : Ct P w K mg base "_law_any_rulebook" 6 ["bag", "kinds", "rows"] spAny fA fdA)
    (CP : Ct P w K mg base "_law_planted" 6 ["bag", "sort", "kinds"] spPl fP fdP) (CH : Ct P w K mg base "_law_threaded" 6 ["bag", "kinds"] spTh fH fdH) : FnOk P w K mg base CX0 7 f fd ["bag", "kinds"] spRb := by
  refine F.ok scRb (fun vs H Q E h => ?_) (fun cdv A outer s H vs Q E hr h => ?_)
  · obtain ⟨bg, n, rfl, _⟩ := h
    rfl
  · obtain ⟨bg, n, rfl, hB, n1, n5, k⟩ := h
    have hr6 : Room 6 (A.deeper (envOfC "_law_rulebook" (defScope sRulebook) s.heap.objs.size f cdv)) := hr.mono (by decide)
    have hr2 : Room 2 (A.deeper (envOfC "_law_rulebook" (defScope sRulebook) s.heap.objs.size f cdv)) := hr.mono (by decide)
    have hr1 : Room 1 (A.deeper (envOfC "_law_rulebook" (defScope sRulebook) s.heap.objs.size f cdv)) := hr.mono (by decide)
    refine ⟨_, (pss_cons (ps_set (i := 2) scRb.nd rfl (Or.inl rfl) (pe_call CT.G hr1 (by rfl) CT.m CT.kp CT.b .nil pass0 (pa_cons (pv 0) (pa_cons pe_int pa_nil))))
      (pss_cons (ps_if (pt_cmpR op_lt (pv 2) pe_int (nomark _))
        (pss_cons (ps_set (i := 3) scRb.nd rfl (Or.inl rfl) (pe_call CA.G hr6 (by rfl) CA.m CA.kp CA.b .nil pass0 (pa_cons (pv 0) (pa_cons (pv 1) (pa_cons pe_int pa_nil)))))
        (pss_one (ps_ret (pe_tup (pa_cons (pv 3) (pa_cons (pe_callTy call_tuple_of (by rfl) T.tup (by decide +kernel) (pa_cons (pe_callB cr_sortedS (by rfl) T.sor (by decide +kernel)
          (pa_cons (pe_slice sl_list (pe_call CX.G hr2 (by rfl) CX.m CX.kp CX.b .nil pass0 (pa_cons (pv 0) (pa_cons (pe_ix ix_tup (pv 3) pe_int (fun _ _ => rfl)) pa_nil))) po_none
            (po_some (pe_call C.G hr2 (by rfl) C.m C.kp C.b .nil pass0 (pa_cons (pv 0) (pa_cons (pe_lst (pa_cons pe_int (pa_cons pe_int (pa_cons pe_int pa_nil)))) pa_nil))))) pa_nil)) pa_nil)) pa_nil)))))) pss_nil)
      (pss_cons (ps_if (pt_cmpR op_eq (pv 2) pe_int (nomark _))
        (pss_one (ps_set (i := 3) scRb.nd rfl (Or.inl rfl) (pe_call CH.G hr6 (by rfl) CH.m CH.kp CH.b .nil pass0 (pa_cons (pv 0) (pa_cons (pv 1) pa_nil)))))
        (pss_one (ps_set (i := 3) scRb.nd rfl (Or.inl rfl) (pe_call CP.G hr6 (by rfl) CP.m CP.kp CP.b .nil pass0 (pa_cons (pv 0) (pa_cons (pe_ix ix_list (pe_lst (pa_cons pe_str (pa_cons pe_str (pa_cons pe_str (pa_cons pe_str pa_nil))))) (pe_op op_sub (pv 2) pe_int) (fun _ _ => rfl)) (pa_cons (pv 1) pa_nil)))))))
      (pss_one (ps_ret (pe_tup (pa_cons (pv 3) (pa_cons (pe_slice sl_tupA (pe_ix ix_tup (pv 3) pe_int (fun _ _ => rfl)) po_none (po_some pe_int)) pa_nil)))))))), ?_⟩
    have sz : ∀ {m : Nat}, m ≤ 900 → m ≤ sizeLine := fun h => Nat.le_of_lt (small1000 (by omega))
    refine ⟨_, rfl, bg, 9, rfl, hB, by decide, by decide, fun z H1 E1 a0 a1 => ?_⟩
    refine ⟨_, rfl, _, _, rfl, rfl, _, rfl, ite2 (fun hc => ?_) fun hc => ?_⟩
    · refine ⟨_, rfl, _, rfl, bg, n, 3, rfl, E1.bag, n1, n5, by decide, by decide, fun p rs ks H2 E2 np lrs hA hO => ?_⟩
      obtain ⟨r, kt, kas, e1, e2, e3, pk⟩ := hA
      have rb : r ≠ bg := tup_ne E2.bag e2
      refine ⟨_, rfl, _, rfl, _, rfl, p, _, 0, .ref r, rfl, rfl, SqT.of e1, rfl, bg, r, rs.map V.str, rfl, E2.bag, rb, .inr e2, by rw [List.length_map]; omega, fun m ys H3 E3 nm em pm => ?_⟩
      obtain ⟨zs, pz, rfl⟩ := perm_of_map pm rs rfl
      have mb : m ≠ bg := fun z => E2.bag.there (z ▸ nm)
      refine ⟨_, rfl, sz (by show 3 ≤ 900; decide), fun q nq => ?_⟩
      have E4 := E3.new (o := .lst [.int 1, .int 1, .int 2]) nq
      have qb : q ≠ bg := fun z => E3.bag.there (z ▸ nq)
      refine ⟨bg, q, _, rfl, E4.bag, qb, .inl upd_same, by decide, by decide, fun u H4 mu E5 => ?_⟩
      obtain ⟨y, rfl, y1, y2⟩ := ints_in (ns := [1, 1, 2]) (lo := 1) (hi := 2) (by decide) mu
      have hm := E5.keep m _ mb (same_upd (o := .lst [.int 1, .int 1, .int 2]) nq _ _ em)
      refine ⟨y, rfl, _, _, rfl, SqL.of hm, fun l nl => ?_⟩
      rw [cut_to _ y (by omega), ← List.map_take]
      refine ⟨l, zs.take y.toNat, rfl, SqL.of upd_same, by rw [List.length_take]; omega, fun us t pu su nt => ?_⟩
      refine ⟨t, _, rfl, .inl ⟨SqL.of upd_same, fun l2 nl2 => ⟨sz (by show 2 ≤ 900; decide), fun b nb => ?_⟩⟩⟩
      have E6 := (((((E1.trans E2).trans (E4.trans E5)).new nl).new nt).new nl2).new (o := .tup [.ref p, .ref l2]) nb
      have Eb := ((((E4.trans E5).new nl).new nt).new nl2).new (o := .tup [.ref p, .ref l2]) nb
      exact k b p (.ref l2) rs ks _ E6 upd_same lrs (BookAt.ts ⟨r, kt, kas, e1, e2, e3, pk⟩ (TSame.ext E2.bag Eb)) hO
    · dsimp only [tNext]
      refine seqGo (fun b D => ∀ (p : Addr) (rs : List Str) (ks : List Kd) (H2 : Hp), Ext bg H H2 → rs.length ≤ 5 → BookAt H2 p rs ks → BookOk rs ks → b D [some (.ref bg), some (.int n), some (.int z), some (.ref p)] H2) (fun p rs ks H2 E2 lrs hA hO => ?_) (fun rest => ?_)
      · obtain ⟨r, kt, kas, e1, e2, e3, pk⟩ := hA
        refine ⟨_, rfl, _, rfl, p, _, 0, .ref r, rfl, rfl, SqT.of e1, rfl, ?_⟩
        refine ⟨_, rfl, r, _, rfl, SqT.of e2, fun hw => ?_, fun hw q nq => ?_⟩
        · refine ⟨sz (by show 2 ≤ 900; decide), fun b nb => ?_⟩
          exact k b p (.ref r) rs ks _ (E2.new nb) upd_same lrs (BookAt.ts ⟨r, kt, kas, e1, e2, e3, pk⟩ (same_ts_new nb)) hO
        · refine ⟨sz (by show 2 ≤ 900; decide), fun b nb => ?_⟩
          exact k b p (.ref q) rs ks _ ((E2.new nq).new nb) upd_same lrs (BookAt.ts ⟨r, kt, kas, e1, e2, e3, pk⟩ ((same_ts_new nq).tr (same_ts_new nb))) hO
      · refine ⟨_, rfl, rfl, _, rfl, ite2 (fun h8 => ?_) fun h8 => ?_⟩
        · refine ⟨_, rfl, _, rfl, bg, n, rfl, E1.bag, n1, n5, fun p rs ks H2 E2 np lrs hA hO => ?_⟩
          exact rest p rs ks H2 (E1.trans E2) lrs hA hO
        · refine ⟨_, rfl, sz (by show 4 ≤ 900; decide), fun l nl => ?_⟩
          have z4 : 4 ≤ z := by simpa using hc
          have z8 : z ≠ 8 := by simpa using h8
          have E2 := E1.new (o := .lst [.str "ever", .str "longer", .str "gone", .str "none"]) nl
          obtain ⟨so, eso, hso⟩ : ∃ so : Str, atI [V.str "ever", V.str "longer", V.str "gone", V.str "none"] (z - 4) = some (.str so) ∧ (so = "ever" ∨ so = "longer" ∨ so = "gone" ∨ so = "none") := by
            have : z = 4 ∨ z = 5 ∨ z = 6 ∨ z = 7 := by omega
            rcases this with rfl | rfl | rfl | rfl
            · exact ⟨_, rfl, .inl rfl⟩
            · exact ⟨_, rfl, .inr (.inl rfl)⟩
            · exact ⟨_, rfl, .inr (.inr (.inl rfl))⟩
            · exact ⟨_, rfl, .inr (.inr (.inr rfl))⟩
          refine ⟨_, rfl, _, _, rfl, rfl, l, _, _, .str so, rfl, rfl, SqL.of upd_same, eso, _, rfl, bg, so, n, rfl, E2.bag, hso, n1, n5, fun p rs ks H2 E3 np lrs hA hO => ?_⟩
          exact rest p rs ks H2 (E2.trans E3) lrs hA hO
end
end KaG


set_option maxRecDepth 100000
set_option maxHeartbeats 4000000
namespace KaG
open PySem PySem.Spec PyProof.Rows L2 KaC
section
variable {CW0 : Addr} {NW0 : Str} {bg : Addr} {H H' : Hp}
/-- one of the things that are asked for in the place of a name -/
def Ov (CW0 : Addr) (NW0 : Str) (bg : Addr) (H : Hp) (v : V) : Prop := ∃ (as : List Addr) (d : Nat) (t : Str), Sh H CW0 NW0 as d v t ∧ d ≤ 4 ∧ t.length ≤ 200 ∧ bg ∉ as ∧ ∀ b ∈ as, H b ≠ none
theorem Ov.ext {v : V} (h : Ov CW0 NW0 bg H v) (E : Ext bg H H') : Ov CW0 NW0 bg H' v := by
  obtain ⟨as, d, t, s, hd, ht, hb, n⟩ := h
  exact ⟨as, d, t, s.ext hb E n, hd, ht, hb, fun b m => E.stay (n b m)⟩
theorem Ov.str {x : Str} (h : (reprText x).length ≤ 200) : Ov CW0 NW0 bg H (.str x) := ⟨[], 0, _, .str x, by decide, h, (fun z => nomatch z), fun _ z => nomatch z⟩
theorem Ov.non : Ov CW0 NW0 bg H .non := ⟨[], 0, _, .non, by decide, by decide, (fun z => nomatch z), fun _ z => nomatch z⟩
theorem Ov.nil {a : Addr} (e : H a = some (.lst [])) (n : a ≠ bg) : Ov CW0 NW0 bg H (.ref a) := ⟨[a], 1, _, .lst (as := []) e (List.mem_cons_self ..) (fun _ z => nomatch z) (fun z => nomatch z) .nil, by decide, by rw [listText_nil]; decide, fun z => n (List.mem_singleton.mp z).symm, fun b z => by rw [List.mem_singleton.mp z, e]; exact fun z => nomatch z⟩
theorem nm_rep : ∀ x ∈ nmAll, (reprText x).length ≤ 20 := by decide +kernel
theorem Ov.nm {x : Str} (h : x ∈ nmAll) : Ov CW0 NW0 bg H (.str x) := .str (Nat.le_trans (nm_rep x h) (by decide))
theorem Ov.one {a : Addr} {x : Str} (e : H a = some (.tup [.str x])) (n : a ≠ bg) (h : x ∈ nmAll) : Ov CW0 NW0 bg H (.ref a) := by
  refine ⟨[a], 1, _, .tup (as := []) e (List.mem_cons_self ..) (fun _ z => nomatch z) (fun z => nomatch z) (.cons (.str x) .nil), by decide, ?_, fun z => n (List.mem_singleton.mp z).symm, fun b z => by rw [List.mem_singleton.mp z, e]; exact fun z => nomatch z⟩
  have h1 := tupleText_le [reprText x]
  have h2 := nm_rep x h
  rw [piled_cons, piled_nil] at h1
  omega
def isS : V → Bool
  | .str _ => true
  | _ => false
theorem isi_pln {K : PySem.W.Frag} {v : V} {Q : VK} (h : Pln H v) (q : Q (.bl (isS v)) H) : rIsi K [v, .ty "str"] H Q := by
  cases h with
  | non => exact ⟨_, _, _, _, false, rfl, .ty _, .base .non, kit_ty (by decide +kernel), q⟩
  | bl b => exact ⟨_, _, _, _, false, rfl, .ty _, .base (.bl b), kit_ty (by decide +kernel), q⟩
  | int i => exact ⟨_, _, _, _, false, rfl, .ty _, .base (.int i), kit_ty (by decide +kernel), q⟩
  | str x => exact ⟨_, _, _, _, true, rfl, .ty _, .base (.str x), kit_ty (by decide +kernel), q⟩
  | lst e => exact ⟨_, _, _, _, false, rfl, .ty _, .base (.lst e), kit_ty (by decide +kernel), q⟩
  | tup e => exact ⟨_, _, _, _, false, rfl, .ty _, .base (.tup e), kit_ty (by decide +kernel), q⟩
  | dct e => exact ⟨_, _, _, _, false, rfl, .ty _, .base (.dK e), kit_ty (by decide +kernel), q⟩
theorem kd_at {b : Addr} {rows : List Str} {ks : List Kd} {kas : List Addr} {i : Nat} {k : Kd} {ka : Addr} (hA : BookAt H b rows ks) (hK : KasOf H b kas) (hi : ks[i]? = some k) (hka : kas[i]? = some ka) : KdAt H ka k := by
  obtain ⟨r, kt, kas', e1, e2, e3, pk⟩ := hA
  obtain ⟨r', kt', g1, g2⟩ := hK
  rw [e1] at g1
  cases g1
  rw [e3] at g2
  obtain rfl : kas' = kas := refs_inj (HO.tup.inj (Option.some.inj g2))
  obtain ⟨k', hk', q⟩ := paired_at pk hka
  rw [hi] at hk'
  cases hk'
  exact q
theorem kas_len {b : Addr} {rows : List Str} {ks : List Kd} {kas : List Addr} (hA : BookAt H b rows ks) (hK : KasOf H b kas) : kas.length = ks.length := by
  obtain ⟨r, kt, kas', e1, e2, e3, pk⟩ := hA
  obtain ⟨r', kt', g1, g2⟩ := hK
  rw [e1] at g1
  cases g1
  rw [e3] at g2
  obtain rfl : kas' = kas := refs_inj (HO.tup.inj (Option.some.inj g2))
  exact paired_len pk
theorem kvs_none {ks : List Kd} {kas : List Addr} {n : Str} (h : ∀ k ∈ ks, k.name ≠ n) : valV (kvsOf ks kas) (Sum.inr n) = none := by
  unfold valV
  have : (kvsOf ks kas).find? (fun p => decide (p.1 = Sum.inr n)) = none := by
    rw [List.find?_eq_none]
    intro p m z
    unfold kvsOf at m
    obtain ⟨q, mq, rfl⟩ := List.mem_map.mp m
    exact h q.1 (List.of_mem_zip mq).1 (Sum.inr.inj (of_decide_eq_true z))
  rw [this]
  rfl
theorem kvs_list {ks : List Kd} {kas : List Addr} (h : ks.length ≤ kas.length) : (kvsOf ks kas).map (fun kv => kV kv.1) = (ks.map Kd.name).map V.str := by
  have e := congrArg (List.map kV) (kvs_keys h)
  rw [List.map_map, List.map_map] at e
  exact e
end
end KaG


set_option maxRecDepth 100000
set_option maxHeartbeats 8000000
namespace KaG
open PySem PySem.Spec PyProof.Rows L2 KaC
/-- all that `_law_is_book_told` calls -/
structure ToldT (P : Program) (w : World) (K : PySem.W.Frag) (mg : Str → Option Value) (base : Heap) (CW CW0 : Addr) (NW NW0 : Str) : Prop where
  T : TxtC mg
  str : mg "str" = none
  N0 : 200 < NW0.length
  W : WrK K CW NW
  kn : ∃ f fd, Ct P w K mg base "kind_names" 1 ["rulebook"] spKindNames f fd
  po : ∃ f fd, Ct P w K mg base "places_of" 1 ["rulebook"] spPlaces f fd
  dg : ∃ f fd, Ct P w K mg base "dead_grounds" 3 ["rulebook"] spDeadG f fd
  ks : ∃ f fd, Ct P w K mg base "_law_kinds" 1 ["rulebook"] spKinds f fd
  pl : ∃ f fd, Ct P w K mg base "_law_places" 1 ["rulebook"] spPlaces f fd
  dd : ∃ f fd, Ct P w K mg base "_law_dead" 2 ["rulebook"] spDeadG f fd
  na : ∃ f fd, Ct P w K mg base "need_at" 2 ["rulebook", "place"] spNeedAt f fd
  mx : ∃ f fd, Ct P w K mg base "_law_mixed" 2 ["bag", "things"] spMixed f fd
  dl : ∃ f fd, Ct P w K mg base "_law_dials" 2 ["rulebook"] spDials f fd
  tk : ∃ f fd, Ct P w K mg base "_law_take" 1 ["bag", "upto"] spTake f fd
  ns : ∃ f fd, Ct P w K mg base "numbers_at" 4 ["rulebook", "dials"] spNumsAt f fd
  nb : ∃ f fd, Ct P w K mg base "_law_number_at" 2 ["rulebook", "dial"] spNumberAt f fd
  od : ∃ f fd, Ct P w K mg base "_law_odd" 3 ["bag"] (spOdd CW0 NW0) f fd
  hd : ∃ f fd, Ct P w K mg base "_law_heard_kind" 4 ["rulebook", "name"] spHeard f fd
  al : ∃ f fd, FnG false P w K mg base CX0 1 f fd ["found", "due"] (spAlikeD K) ∧ FnG false P w K mg base CX0 1 f fd ["found", "due"] (spAlikeP CW NW) ∧ mg "_law_alike" = some (.ref f) ∧ PySem.W.keepIn K (.ref f) = true ∧ Binds K fd ["found", "due"] []
abbrev nmTd : List Str := ["bag", "rulebook", "kinds", "places", "kept", "needs", "again", "found", "told", "dials", "odd", "name", "good", "g", "n", "place", "dial"]
theorem scTd : FnScope nmTd ["bag", "rulebook"] (defScope sTold) := ⟨rfl, rfl, rfl, by decide +kernel, rfl, by decide +kernel, by decide +kernel⟩
def spTold : Sp := fun vs H Q _ => ∃ (bg b : Addr) (rows : List Str) (ks : List Kd), vs = [.ref bg, .ref b] ∧ Bag H bg ∧ BookAt H b rows ks ∧ BookOk rows ks ∧ ∀ H', Ext bg H H' → Q (.bl true) H'
section
variable {P : Program} {w : World} {K : PySem.W.Frag} {mg : Str → Option Value} {base : Heap} {CW CW0 : Addr} {NW NW0 : Str}
theorem ok_told {f : Addr} {fd : FuncData} (F : Fun K "_law_is_book_told" "_law_is_book_told" sTold f fd) (Z : ToldT P w K mg base CW CW0 NW NW0) : FnG true P w K mg base CX0 5 f fd ["bag", "rulebook"] spTold := by
  obtain ⟨T, hstr, hN0, W, ⟨f1, d1, Ckn⟩, ⟨f2, d2, Cpo⟩, ⟨f3, d3, Cdg⟩, ⟨f4, d4, Cks⟩, ⟨f5, d5, Cpl⟩, ⟨f6, d6, Cdd⟩, ⟨f7, d7, Cna⟩, ⟨f8, d8, Cmx⟩, ⟨f9, d9, Cdl⟩, ⟨f10, d10, Ctk⟩, ⟨f11, d11, Cns⟩, ⟨f12, d12, Cnb⟩, ⟨f13, d13, Cod⟩, ⟨f14, d14, Chd⟩, ⟨fA, dA, GD, GP, mA, kA, bA⟩⟩ := Z
  refine fnG_of F scTd (fun vs H Q E h => ?_) (fun cdv A outer s H vs Q E hr hc h => ?_)
  · obtain ⟨bg, b, rows, ks, rfl, _⟩ := h
    rfl
  · obtain ⟨bg, b, rows, ks, rfl, hB, hA, hO, k⟩ := h
    have hR : Room 4 (A.deeper (envOfC "_law_is_book_told" (defScope sTold) s.heap.objs.size f cdv)) := hr.room (hc rfl)
    have hR1 := hR.mono (show 1 ≤ 4 by decide)
    have hR2 := hR.mono (show 2 ≤ 4 by decide)
    have hR3 := hR.mono (show 3 ≤ 4 by decide)
    have gr1 : GR 1 (A.deeper (envOfC "_law_is_book_told" (defScope sTold) s.heap.objs.size f cdv)) := hr.low (by decide)
    have u64 : (A.deeper (envOfC "_law_is_book_told" (defScope sTold) s.heap.objs.size f cdv)).units + 64 < cLine := by have := hr.un; omega
    have u60 : (A.deeper (envOfC "_law_is_book_told" (defScope sTold) s.heap.objs.size f cdv)).units + 60 < cLine := by have := hr.un; omega
    have u1 : (A.deeper (envOfC "_law_is_book_told" (defScope sTold) s.heap.objs.size f cdv)).units + 1 < cLine := by have := hr.un; omega
    refine ⟨_, L2.PSs.nox (pss_cons (ps_asg (pe_tup (pa_cons (pe_call Cks.G hR1 (by rfl) Cks.m Cks.kp Cks.b .nil pass0 (pa_cons (pv 1) pa_nil)) (pa_cons (pe_call Cpl.G hR1 (by rfl) Cpl.m Cpl.kp Cpl.b .nil pass0 (pa_cons (pv 1) pa_nil)) (pa_cons (pe_callB (call_reprS (CW := CW) (NW := NW) (by exact W) hr.gd u60) (by rfl) T.b.repr (by decide +kernel) (pa_cons (pv 1) pa_nil)) pa_nil))))
        (pg_tup (by rfl) (pgs_cons (pg_name (i := 2) scTd.nd rfl (Or.inr rfl)) (pgs_cons (pg_name (i := 3) scTd.nd rfl (Or.inl rfl)) (pgs_cons (pg_name (i := 4) scTd.nd rfl (Or.inl rfl)) pgs_nil)))))
      (pss_cons (ps_setLc (i := 5) (own := [("name", 11), ("g", 13), ("n", 14)]) (g := gTup K 3 (gCons (gName 11) (gCons (gName 13) (gCons (gName 14) gNil)))) (by rfl) scTd.nd rfl rfl (sw_true rfl rfl rfl (by decide +kernel)) (pi_list (pv 3))
          (blkOk_by (own := [("name", 11), ("g", 13), ("n", 14)]) (N := nmTd) (sc := defScope sTold) (by decide +kernel)) (fun _ _ _ _ _ => pg_tup (t := gCons (gName 11) (gCons (gName 13) (gCons (gName 14) gNil))) rfl (pgs_cons (pg_name (i := 11) scTd.nd rfl (Or.inl rfl)) (pgs_cons (pg_name (i := 13) scTd.nd rfl (Or.inl rfl)) (pgs_cons (pg_name (i := 14) scTd.nd rfl (Or.inl rfl)) pgs_nil)))) (fun _ _ _ _ _ => pts_nil)
          (fun _ _ _ _ _ => pe_ix (r := rIxT K) ix_tup (pe_ix (r := rIxT K) ix_tup (pe_ix (r := rIxT K) ix_tup (pe_dget u1 (pv 2) (pv 11) (fun _ _ => rfl)) pe_int (fun _ _ => rfl)) (pv 13) (fun _ _ => rfl)) (pv 14) (fun _ _ => rfl)))
      (pss_cons (ps_for PassesOwn.never rfl (pi_range1 rfl T.b.range (pa_cons pe_int pa_nil)) (pg_name (i := 6) scTd.nd rfl (Or.inl rfl))
        (pss_cons (ps_set (i := 7) scTd.nd rfl (Or.inl rfl) (pe_lst (pa_cons (pe_call Ckn.G hR1 (by rfl) Ckn.m Ckn.kp Ckn.b .nil pass0 (pa_cons (pv 1) pa_nil)) (pa_cons (pe_call Cpo.G hR1 (by rfl) Cpo.m Cpo.kp Cpo.b .nil pass0 (pa_cons (pv 1) pa_nil)) (pa_cons (pe_call Cdg.G hR3 (by rfl) Cdg.m Cdg.kp Cdg.b .nil pass0 (pa_cons (pv 1) pa_nil)) pa_nil)))))
        (pss_cons (ps_if (pt_not (pt_val (pe_callG GD gr1 (by intro z; cases z) (by rfl) mA kA bA (pa_cons (pv 7) (pa_cons (pe_lst (pa_cons (pe_callB (call_sortedD (by rfl)) (by rfl) T.sor (by decide +kernel) (pa_cons (pv 2) pa_nil)) (pa_cons (pv 3) (pa_cons (pe_call Cdd.G hR2 (by rfl) Cdd.m Cdd.kp Cdd.b .nil pass0 (pa_cons (pv 1) pa_nil)) pa_nil)))) pa_nil))))) (pss_one (ps_ret pe_bl)) pss_nil)
        (pss_one (ps_for PassesOwn.never rfl (pi_list (pv 7)) (pg_name (i := 8) scTd.nd rfl (Or.inl rfl))
          (pss_cons (ps_expr (pe_bm PySem.F.plainAttrs_list PySem.F.slot_list_append PySem.F.type_list_append mt_append (pv 8) (pa_cons pe_non pa_nil)))
          (pss_one (ps_expr (pe_bm0 PySem.F.plainAttrs_list PySem.F.slot_list_reverse PySem.F.type_list_reverse mt_reverse (pv 8))))))))))
      (pss_cons (ps_if (pt_not (pt_val (pe_callG GD gr1 (by intro z; cases z) (by rfl) mA kA bA (pa_cons (pe_lc (own := [("place", 15)]) (g := gName 15) (by rfl) scTd.nd (pi_list (pv 3)) (blkOk_by (own := [("place", 15)]) (N := nmTd) (sc := defScope sTold) (by decide +kernel)) (fun _ _ _ _ _ => pg_name (i := 15) scTd.nd rfl (Or.inl rfl)) (fun _ _ _ _ _ => pts_nil)
          (fun _ _ _ _ _ => pe_call Cna.G hR2 (by rfl) Cna.m Cna.kp Cna.b .nil pass0 (pa_cons (pv 1) (pa_cons (pv 15) pa_nil)))) (pa_cons (pv 5) pa_nil))))) (pss_one (ps_ret pe_bl)) pss_nil)
      (pss_cons (ps_set (i := 9) scTd.nd rfl (Or.inl rfl) (pe_callTy call_tuple_of (by rfl) T.tup (by decide +kernel) (pa_cons (pe_slice (r := rSlL K) sl_list (pe_call Cmx.G hR2 (by rfl) Cmx.m Cmx.kp Cmx.b .nil pass0 (pa_cons (pv 0) (pa_cons (pe_call Cdl.G hR2 (by rfl) Cdl.m Cdl.kp Cdl.b .nil pass0 (pa_cons (pv 1) pa_nil)) pa_nil))) po_none (po_some (pe_call Ctk.G hR1 (by rfl) Ctk.m Ctk.kp Ctk.b .nil pass0 (pa_cons (pv 0) (pa_cons pe_int pa_nil))))) pa_nil)))
      (pss_cons (ps_set (i := 9) scTd.nd rfl (Or.inl rfl) (pe_op op_catA (pv 9) (pe_slice (r := rSlA K) sl_tupA (pv 9) po_none (po_some (pe_call Ctk.G hR1 (by rfl) Ctk.m Ctk.kp Ctk.b .nil pass0 (pa_cons (pv 0) (pa_cons pe_int pa_nil)))))))
      (pss_cons (ps_if (pt_not (pt_val (pe_callG GD gr1 (by intro z; cases z) (by rfl) mA kA bA (pa_cons (pe_call Cns.G hR (by rfl) Cns.m Cns.kp Cns.b .nil pass0 (pa_cons (pv 1) (pa_cons (pv 9) pa_nil)))
          (pa_cons (pe_callTy call_tuple_of (by rfl) T.tup (by decide +kernel) (pa_cons (pe_lc (own := [("dial", 16)]) (g := gName 16) (by rfl) scTd.nd (pi_tup (pv 9)) (blkOk_by (own := [("dial", 16)]) (N := nmTd) (sc := defScope sTold) (by decide +kernel)) (fun _ _ _ _ _ => pg_name (i := 16) scTd.nd rfl (Or.inl rfl)) (fun _ _ _ _ _ => pts_nil)
          (fun _ _ _ _ _ => pe_call Cnb.G hR2 (by rfl) Cnb.m Cnb.kp Cnb.b .nil pass0 (pa_cons (pv 1) (pa_cons (pv 16) pa_nil)))) pa_nil)) pa_nil))))) (pss_one (ps_ret pe_bl)) pss_nil)
      (pss_cons (ps_set (i := 10) scTd.nd rfl (Or.inl rfl) (pe_lst (pa_cons (pe_call Cod.G hR3 (by rfl) Cod.m Cod.kp Cod.b .nil pass0 (pa_cons (pv 0) pa_nil)) (pa_cons (pe_call Cod.G hR3 (by rfl) Cod.m Cod.kp Cod.b .nil pass0 (pa_cons (pv 0) pa_nil))
          (pa_cons (pe_ix ix_tup (pe_ix ix_tup (pv 1) pe_int (fun _ _ => rfl)) pe_int (fun _ _ => rfl)) (pa_cons pe_str (pa_cons pe_non (pa_cons (pe_lst pa_nil) (pa_cons (pe_tup (pa_cons (pe_ix ix_tup (pe_ix ix_tup (pe_ix ix_tup (pv 1) pe_int (fun _ _ => rfl)) pe_int (fun _ _ => rfl)) pe_int (fun _ _ => rfl)) pa_nil)) pa_nil)))))))))
      (pss_cons (ps_for PassesOwn.never rfl (pi_list (pe_op op_cat (pe_callTy (call_listD (by rfl)) (by rfl) T.b.list (by decide +kernel) (pa_cons (pv 2) pa_nil)) (pv 10))) (pg_name (i := 11) scTd.nd rfl (Or.inl rfl))
          (pss_cons (ps_set (i := 12) scTd.nd rfl (Or.inl rfl) (pe_and (pe_callB call_isi (by rfl) T.b.isin (by decide +kernel) (pa_cons (pv 11) (pa_cons (pe_bltn (v := .ty "str") (by rfl) hstr (by decide +kernel) rfl) pa_nil))) (pe_one (pe_cmp (pc_din u1 (pv 11) (pv 2))))))
          (pss_one (ps_if (pt_not (pt_val (pe_callG GP gr1 (by intro z; cases z) (by rfl) mA kA bA (pa_cons (pe_call Chd.G hR (by rfl) Chd.m Chd.kp Chd.b .nil pass0 (pa_cons (pv 1) (pa_cons (pv 11) pa_nil)))
            (pa_cons (pe_ifExp (pt_val (pv 12)) (pe_tup (pa_cons pe_str (pa_cons (pe_dget u1 (pv 2) (pv 11) (fun _ _ => rfl)) pa_nil))) (pe_tup (pa_cons pe_str (pa_cons (pv 11) pa_nil)))) pa_nil))))) (pss_one (ps_ret pe_bl)) pss_nil))))
      (pss_one (ps_ret (pe_cmpR op_eq (pe_callB (call_reprS (CW := CW) (NW := NW) (by exact W) hr.gd u60) (by rfl) T.b.repr (by decide +kernel) (pa_cons (pv 1) pa_nil)) (pv 4) (nomark _))))))))))))), ?_⟩
    have sz : ∀ {m : Nat}, m ≤ 900 → m ≤ sizeLine := fun h => Nat.le_of_lt (small1000 (by omega))
    have hk5 := hO.k5
    have nd : (ks.map Kd.name).Nodup := hO.nm.nd
    obtain ⟨r, kt, kas, e1, e2, e3, pk⟩ := id hA
    have hlen' : kas.length = ks.length := paired_len pk
    refine ⟨_, rfl, b, rows, ks, kas, rfl, hA, ⟨r, kt, e1, e3⟩, by omega, nd, fun kd H1 s1 nkd ekd => ?_⟩
    refine ⟨_, rfl, b, rows, ks, rfl, hA.ts (TSame.of s1), hO, fun pl ps H2 s2 npl epl pps lps => ?_⟩
    have s12 := KaG.Same.tr s1 s2
    have gb := Gd.book (hA.ts (TSame.of s12)) hO
    obtain ⟨as, hS, _⟩ := Rep.sh (CW := CW) (NW := NW) gb.rep
    refine ⟨_, rfl, _, as, _, _, rfl, hS, Nat.le_trans gb.dep (by decide), Nat.le_trans gb.len (by rw [sizeLine_eq]; decide), sz (by show 3 ≤ 900; decide), fun t0 nt0 => ?_⟩
    refine ⟨t0, _, rfl, SqT.of upd_same, by rfl, _, _, rfl, _, _, rfl, _, _, rfl, rfl, ?_⟩
    have s3 := same_upd (o := .tup [.ref kd, .ref pl, .str (txt (bkD rows ks))]) nt0
    have S3 := KaG.Same.tr s12 s3
    have ekd3 := s3 _ _ (s2 _ _ ekd)
    have epl3 := s3 _ _ epl
    have pps3 := pps.ts (TSame.of s3)
    have npl0 := same_back s1 npl
    generalize upd H2 t0 (.tup [.ref kd, .ref pl, .str (txt (bkD rows ks))]) = G0 at S3 ekd3 epl3 pps3 ⊢
    clear gb hS s3 nt0
    refine ⟨_, rfl, pl, rfl, ⟨_, SqL.of epl3⟩, fun D hD => lc_list (K := K) (a := pl) (xs := ps.map V.ref) (fun i J => Same G0 J ∧ ∃ qs : List Addr, J D = some (.lst (qs.map V.ref)) ∧ Paired (fun q p => needAt ks p (itsOf ks p) ∧ J q = some (.tup (itsOf ks p))) qs ((placesOf ks).take i)) ?_ ?_ ?_ ?_⟩
    · exact ⟨same_upd hD, [], upd_same, .nil⟩
    · rintro i J _ ⟨S4, _⟩
      exact SqL.of (S4 _ _ epl3)
    · rintro i x J hx ⟨S4, qs, jD, pq⟩
      rw [List.getElem?_map] at hx
      obtain ⟨a, ha, rfl⟩ := Option.map_eq_some_iff.mp hx
      have hi : i < ps.length := (List.getElem?_eq_some_iff.mp ha).1
      obtain ⟨p, hp, ea⟩ := paired_at pps3 ha
      obtain ⟨its, hneed⟩ := place_need (List.mem_of_getElem? hp)
      have hit := itsOf_eq nd hneed
      have SJ := KaG.Same.tr S3 S4
      have hBJ := hA.ts (TSame.of SJ)
      obtain ⟨ka, gt, gas, ga, nas, na, kk, ev, y1, y2, y3, y4, y5, y6⟩ := need_reach hBJ ⟨r, kt, SJ _ _ e1, SJ _ _ e3⟩ nd hneed
      refine ⟨a, _, rfl, SqT.of (S4 _ _ ea), rfl, _, _, rfl, _, _, rfl, _, _, rfl, rfl, ?_⟩
      unfold tYes
      dsimp only
      refine ⟨rfl, iteT ⟨_, rfl, _, rfl, kd, .ref ka, rfl, by rw [← ev]; exact DGet.k (k := Sum.inr p.1) (S4 _ _ ekd3), ka, _, 3, .ref gt, rfl, rfl, SqT.of y1, rfl, _, rfl, gt, _, _, .ref ga, rfl, rfl, SqT.of y2, atI_nat (by rw [List.getElem?_map, y3]; rfl), _, rfl, ga, _, _, .ref na, rfl, rfl, SqT.of y4, atI_nat (by rw [List.getElem?_map, y5]; rfl), ?_⟩⟩
      have lq : qs.length ≤ 60 := by
        have := paired_len pq
        rw [List.length_take] at this
        omega
      refine ⟨_, jD, small1000 (by rw [List.length_map]; omega), fun b u e => by rw [upd_ne (ne_of_none e hD)]; exact S4 b u e, qs ++ [na], by rw [upd_same, List.map_append]; rfl, ?_⟩
      have tsl := ts_lst (ys := qs.map V.ref ++ [V.ref na]) jD
      rw [List.take_add_one, hp]
      exact paired_snoc (R := fun q p => needAt ks p (itsOf ks p) ∧ (upd J D (.lst (qs.map V.ref ++ [V.ref na]))) q = some (.tup (itsOf ks p))) ⟨by rw [hit]; exact hneed, by rw [hit]; exact tsl _ _ y6⟩ (Paired.mono' (fun q p z => ⟨z.1, tsl _ _ z.2⟩) pq)
    · rintro J ⟨S4, ns, jD, pq⟩
      rw [List.length_map, paired_len pps3, List.take_length] at pq
      have SJ := KaG.Same.tr S3 S4
      have tw : Tw K H J bg b rows ks kas kd pl D ps ns := ⟨Ext.of_same hB SJ, hA.ts (TSame.of SJ), ⟨r, kt, SJ _ _ e1, SJ _ _ e3⟩, S4 _ _ ekd3, nkd, S4 _ _ epl3, npl0, pps3.ts (TSame.of S4), lps, jD, same_back S3 hD, pq⟩
      clear SJ S4 jD pq hD S3 ekd3 epl3 pps3 s12 s1 s2 ekd epl pps npl pk e1 e2 e3
      generalize hkept : txt (bkD rows ks) = kept
      refine ⟨2, rfl, by decide, by decide, for_range (n := 2) (fun i σ' G => (∃ x6 x7 x8 x9 x10 x11 x12 x13 x14 x15 x16 : Option V, σ' = [some (.ref bg), some (.ref b), some (.ref kd), some (.ref pl), some (.str kept), some (.ref D), x6, x7, x8, x9, x10, x11, x12, x13, x14, x15, x16]) ∧ Tw K H G bg b rows ks kas kd pl D ps ns) ?_ ?_ ?_⟩
      · exact ⟨⟨_, _, _, _, _, _, _, _, _, _, _, rfl⟩, tw⟩
      · rintro i σ' G hi ⟨⟨x6, x7, x8, x9, x10, x11, x12, x13, x14, x15, x16, rfl⟩, tw⟩
        have hka : KasOf G b kas := tw.ka
        refine ⟨_, rfl, b, rows, ks, rfl, tw.bk, by omega, fun a1 G1 s1 n1 y1 => ⟨_, rfl, b, rows, ks, rfl, tw.bk.ts (TSame.of s1), hO, fun a2 as2 G2 s2 n2 y2 p2 l2 => ?_⟩⟩
        have s12 := KaG.Same.tr s1 s2
        refine ⟨_, rfl, b, rows, ks, rfl, tw.bk.ts (TSame.of s12), hO, fun a3 as3 G3 s3 n3 y3 p3 l3 => ⟨sz (by show 3 ≤ 900; decide), fun fl nf => ?_⟩⟩
        have s4 := same_upd (o := .lst [.ref a1, .ref a2, .ref a3]) nf
        have y4 : upd G3 fl (.lst [.ref a1, .ref a2, .ref a3]) fl = some (.lst [.ref a1, .ref a2, .ref a3]) := upd_same
        have z1 := s4 _ _ (s3 _ _ (s2 _ _ y1))
        have z2 := s4 _ _ (s3 _ _ y2)
        have z3 := s4 _ _ y3
        have q2 := p2.ts (TSame.of (KaG.Same.tr s3 s4))
        have q3 := p3.ts (TSame.of s4)
        have S4 := KaG.Same.tr (KaG.Same.tr s12 s3) s4
        have m1 : G a1 = none := n1
        have m2 : G a2 = none := same_back s1 n2
        have m3 : G a3 = none := same_back s12 n3
        have mf : G fl = none := same_back (KaG.Same.tr s12 s3) nf
        have f1 : a1 ≠ fl := fun z => by rw [z] at y1; rw [s3 _ _ (s2 _ _ y1)] at nf; cases nf
        have f2 : a2 ≠ fl := fun z => by rw [z] at y2; rw [s3 _ _ y2] at nf; cases nf
        have f3 : a3 ≠ fl := fun z => by rw [z] at y3; rw [y3] at nf; cases nf
        have E4 : Ext bg G (upd G3 fl (.lst [.ref a1, .ref a2, .ref a3])) := Ext.of_same tw.ext.bag S4
        generalize upd G3 fl (.lst [.ref a1, .ref a2, .ref a3]) = G4 at s4 y4 z1 z2 z3 q2 q3 S4 E4 ⊢
        have tw4 := tw.go hB E4
        clear s1 s2 s3 s4 n1 n2 n3 nf y1 y2 y3 p2 p3 s12
        have hkk : (kvsOf ks kas).map (·.1) = (ks.map Kd.name).map Sum.inr := kvs_keys (by rw [hlen']; exact Nat.le_refl _)
        refine ⟨_, rfl, _, rfl, kd, kvsOf ks kas, ks.map Kd.name, rfl, .inl tw4.ekd, hkk, by rw [List.length_map]; omega, fun ys c1 pm srt nc1 => ?_⟩
        obtain rfl : ys = ks.map Kd.name := sorted_one hO.nm.of hO.nm.up srt pm
        have s5 := same_upd (o := .lst ((ks.map Kd.name).map V.str)) nc1
        have w1 : upd G4 c1 (.lst ((ks.map Kd.name).map V.str)) c1 = some (.lst ((ks.map Kd.name).map V.str)) := upd_same
        generalize upd G4 c1 (.lst ((ks.map Kd.name).map V.str)) = G5 at s5 w1 ⊢
        have tw5 := tw4.go hB (Ext.of_same tw4.ext.bag s5)
        refine ⟨_, rfl, _, rfl, b, rows, ks, rfl, tw5.bk, hO, fun c3 bs3 G6 s6 nc3 w3 pc3 lc3 => ⟨sz (by show 3 ≤ 900; decide), fun c4 nc4 => ?_⟩⟩
        have s7 := same_upd (o := .lst [.ref c1, .ref pl, .ref c3]) nc4
        have S57 := KaG.Same.tr s5 (KaG.Same.tr s6 s7)
        have v1 := s7 _ _ (s6 _ _ w1)
        have v3 := s7 _ _ w3
        have v4 : upd G6 c4 (.lst [.ref c1, .ref pl, .ref c3]) c4 = some (.lst [.ref c1, .ref pl, .ref c3]) := upd_same
        have pv3 := pc3.ts (TSame.of s7)
        generalize upd G6 c4 (.lst [.ref c1, .ref pl, .ref c3]) = G7 at s7 S57 v1 v3 v4 pv3 ⊢
        have tw7 := tw4.go hB (Ext.of_same tw4.ext.bag S57)
        have hn5 : (ks.map Kd.name).length ≤ 5 := by rw [List.length_map]; exact hk5
        have g1 := Gd.three (S57 _ _ y4) (Gd.names (S57 _ _ z1) hO.nm.of hn5) (Gd.places hO (S57 _ _ z2) (q2.ts (TSame.of S57)) l2) (Gd.deads hO (S57 _ _ z3) (q3.ts (TSame.of S57)) l3)
        have g2 := Gd.three v4 (Gd.names v1 hO.nm.of hn5) (Gd.places hO tw7.epl tw7.pa lps) (Gd.deads hO v3 pv3 lc3)
        refine ⟨.ref fl, .ref c4, _, rfl, g1.rep, g2.rep, g1.lay, Nat.le_trans g1.dep (by decide), Nat.le_trans g1.len (by rw [sizeLine_eq]; decide), ?_⟩
        refine ⟨true, rfl, ifF rfl ?_⟩
        have E07 : Ext bg G G7 := E4.trans (Ext.of_same tw4.ext.bag S57)
        have ln1 : ((ks.map Kd.name).map V.str).length ≤ 60 := by rw [List.length_map]; omega
        refine ⟨_, rfl, fl, rfl, ⟨_, SqL.of (S57 _ _ y4)⟩, for_list (K := K) (a := fl) (xs := [.ref a1, .ref a2, .ref a3]) (fun j σ' J => (∃ x6 x7 x8 x9 x10 x11 x12 x13 x14 x15 x16 : Option V, σ' = [some (.ref bg), some (.ref b), some (.ref kd), some (.ref pl), some (.str kept), some (.ref D), x6, x7, x8, x9, x10, x11, x12, x13, x14, x15, x16]) ∧ Ext bg G J ∧ J fl = some (.lst [.ref a1, .ref a2, .ref a3]) ∧ ∀ a, (a = a1 ∨ a = a2 ∨ a = a3) → ∃ zs, J a = some (.lst zs) ∧ zs.length ≤ 60 + j) ?_ ?_ ?_ ?_⟩
        · refine ⟨⟨_, _, _, _, _, _, _, _, _, _, _, rfl⟩, E07, S57 _ _ y4, fun a h => ?_⟩
          rcases h with rfl | rfl | rfl
          · exact ⟨_, S57 _ _ z1, ln1⟩
          · exact ⟨_, S57 _ _ z2, by rw [List.length_map]; exact l2⟩
          · exact ⟨_, S57 _ _ z3, by rw [List.length_map]; omega⟩
        · rintro j σ' J _ ⟨_, _, e, _⟩
          exact SqL.of e
        · rintro j x σ' J hx ⟨⟨x6, x7, x8, x9, x10, x11, x12, x13, x14, x15, x16, rfl⟩, EJ, jf, ja⟩
          have hj : j < 3 := (List.getElem?_eq_some_iff.mp hx).1
          obtain ⟨a, rfl, ha⟩ : ∃ a, x = .ref a ∧ (a = a1 ∨ a = a2 ∨ a = a3) := by
            have m := List.mem_of_getElem? hx
            simp only [List.mem_cons, List.mem_nil_iff, or_false] at m
            rcases m with rfl | rfl | rfl
            · exact ⟨_, rfl, .inl rfl⟩
            · exact ⟨_, rfl, .inr (.inl rfl)⟩
            · exact ⟨_, rfl, .inr (.inr rfl)⟩
          have na : G a = none := by rcases ha with rfl | rfl | rfl <;> assumption
          have fa : fl ≠ a := by
            rcases ha with rfl | rfl | rfl
            · exact f1.symm
            · exact f2.symm
            · exact f3.symm
          obtain ⟨zs, ez, lz⟩ := ja a ha
          refine ⟨_, rfl, .inl ⟨rfl, _, SqL.of ez⟩, a, zs, .non, rfl, rfl, ez, small1000 (by omega), ?_⟩
          refine ⟨_, rfl, .inl ⟨rfl, _, SqL.of upd_same⟩, a, _, rfl, rfl, upd_same, ?_⟩
          refine ⟨⟨_, _, _, _, _, _, _, _, _, _, _, rfl⟩, Ext.write tw.ext.bag (Ext.write tw.ext.bag EJ na) na, by rw [upd_ne fa, upd_ne fa]; exact jf, fun a' h' => ?_⟩
          by_cases e : a' = a
          · subst e
            exact ⟨_, upd_same, by rw [List.length_reverse, List.length_append]; show zs.length + 1 ≤ _; omega⟩
          · obtain ⟨zs', e', l'⟩ := ja a' h'
            exact ⟨zs', by rw [upd_ne e, upd_ne e]; exact e', by omega⟩
        · rintro σ' J ⟨⟨x6, x7, x8, x9, x10, x11, x12, x13, x14, x15, x16, rfl⟩, EJ, _⟩
          exact ⟨⟨_, _, _, _, _, _, _, _, _, _, _, rfl⟩, tw.go hB EJ⟩
      · rintro σ' G ⟨⟨x6, x7, x8, x9, x10, x11, x12, x13, x14, x15, x16, rfl⟩, tw⟩
        dsimp only
        refine ⟨_, rfl, pl, rfl, ⟨_, SqL.of tw.epl⟩, fun L hL => lc_list (K := K) (a := pl) (xs := ps.map V.ref) (fun i J => Same G J ∧ ∃ qs : List Addr, J L = some (.lst (qs.map V.ref)) ∧ Paired (fun q p => needAt ks p (itsOf ks p) ∧ J q = some (.tup (itsOf ks p))) qs ((placesOf ks).take i)) ?_ ?_ ?_ ?_⟩
        · exact ⟨same_upd hL, [], upd_same, .nil⟩
        · rintro i J _ ⟨S4, _⟩
          exact SqL.of (S4 _ _ tw.epl)
        · rintro i x J hx ⟨S4, qs, jD, pq⟩
          rw [List.getElem?_map] at hx
          obtain ⟨a, ha, rfl⟩ := Option.map_eq_some_iff.mp hx
          have hi : i < ps.length := (List.getElem?_eq_some_iff.mp ha).1
          obtain ⟨p, hp, ea⟩ := paired_at tw.pa ha
          obtain ⟨its, hneed⟩ := place_need (List.mem_of_getElem? hp)
          have hit := itsOf_eq nd hneed
          refine ⟨rfl, ?_⟩
          unfold tYes
          dsimp only
          refine iteT ⟨_, rfl, _, rfl, b, a, rows, ks, p, its, rfl, tw.bk.ts (TSame.of S4), nd, S4 _ _ ea, hneed, fun na y6 => ?_⟩
          have lq : qs.length ≤ 60 := by
            have := paired_len pq
            rw [List.length_take] at this
            omega
          refine ⟨_, jD, small1000 (by rw [List.length_map]; omega), fun b u e => by rw [upd_ne (ne_of_none e hL)]; exact S4 b u e, qs ++ [na], by rw [upd_same, List.map_append]; rfl, ?_⟩
          have tsl := ts_lst (ys := qs.map V.ref ++ [V.ref na]) jD
          rw [List.take_add_one, hp]
          exact paired_snoc (R := fun q p => needAt ks p (itsOf ks p) ∧ (upd J L (.lst (qs.map V.ref ++ [V.ref na]))) q = some (.tup (itsOf ks p))) ⟨by rw [hit]; exact hneed, by rw [hit]; exact tsl _ _ y6⟩ (Paired.mono' (fun q p z => ⟨z.1, tsl _ _ z.2⟩) pq)
        · rintro J ⟨S4, qs, jL, pq⟩
          rw [List.length_map, paired_len tw.pa, List.take_length] at pq
          have twJ := tw.go hB (Ext.of_same tw.ext.bag S4)
          have lq : qs.length ≤ 60 := by rw [paired_len pq, ← paired_len tw.pa]; exact lps
          have ln : ns.length ≤ 60 := by rw [paired_len tw.na, ← paired_len tw.pa]; exact lps
          have g1 := Gd.needs hO jL pq lq
          have g2 := Gd.needs hO twJ.enl twJ.na ln
          refine ⟨_, rfl, .ref L, .ref D, _, rfl, g1.rep, g2.rep, g1.lay, Nat.le_trans g1.dep (by decide), Nat.le_trans g1.len (by rw [sizeLine_eq]; decide), true, rfl, ifF rfl ?_⟩
          clear g1 g2 jL pq tw S4 lq ln
          generalize hG : J = G6 at twJ ⊢
          clear hG
          dsimp only [tNext]
          have dbg : ∀ {a : Addr} {G : Hp}, Ext bg H G → H a = none → a ≠ bg := fun E n z => hB.there (z ▸ n)
          refine seqGo (fun b' D' => ∀ (G : Hp) (t : Addr) (as : List Addr), Tw K H G bg b rows ks kas kd pl D ps ns → G t = some (.tup (as.map V.ref)) → DlsAt G ks as → as.length ≤ 30 → H t = none → b' D' [some (.ref bg), some (.ref b), some (.ref kd), some (.ref pl), some (.str kept), some (.ref D), x6, x7, x8, some (.ref t), x10, x11, x12, x13, x14, x15, x16] G) (fun G t as tw et hd ha nt => ?_) (fun rest => ?_)
          · clear twJ
            refine seqGo (fun b' D' => ∀ (G : Hp) (t : Addr) (as : List Addr), Tw K H G bg b rows ks kas kd pl D ps ns → G t = some (.tup (as.map V.ref)) → DlsAt G ks as → as.length ≤ 60 → H t = none → b' D' [some (.ref bg), some (.ref b), some (.ref kd), some (.ref pl), some (.str kept), some (.ref D), x6, x7, x8, some (.ref t), x10, x11, x12, x13, x14, x15, x16] G) (fun G t as tw et hd ha nt => ?_) (fun rest => ?_)
            · refine ⟨_, rfl, _, rfl, b, t, rows, ks, as, rfl, tw.bk, hO, et, hd, by omega, fun p zs G1 s1 n1 e1 pz => ?_⟩
              have tw1 := tw.go hB (Ext.of_same tw.ext.bag s1)
              refine ⟨_, rfl, t, rfl, ⟨_, SqT.of (s1 _ _ et)⟩, fun L hL => lc_tup (K := K) (a := t) (xs := as.map V.ref) (fun i J => Same G1 J ∧ ∃ ws : List Int, ws.length = i ∧ J L = some (.lst (ws.map V.int)) ∧ Paired (fun a z => ∃ d, DlAt G a d ∧ numOf ks d z) (as.take i) ws) ?_ ?_ ?_ ?_⟩
              · exact ⟨same_upd hL, [], rfl, upd_same, .nil⟩
              · rintro i J _ ⟨S, _⟩
                exact SqT.of (S _ _ (s1 _ _ et))
              · rintro i x J hx ⟨S, ws, lw, jL, pw⟩
                rw [List.getElem?_map] at hx
                obtain ⟨a, hai, rfl⟩ := Option.map_eq_some_iff.mp hx
                have hi : i < as.length := (List.getElem?_eq_some_iff.mp hai).1
                obtain ⟨d, d1, d2⟩ := hd a (List.mem_of_getElem? hai)
                refine ⟨rfl, ?_⟩
                unfold tYes
                dsimp only
                refine iteT ⟨_, rfl, _, rfl, b, a, rows, ks, d, rfl, tw1.bk.ts (TSame.of S), hO, d1.ts (TSame.of (KaG.Same.tr s1 S)), d2, fun z J2 S2 hz => ?_⟩
                refine ⟨_, S2 _ _ jL, small1000 (by rw [List.length_map]; omega), fun b u e => by rw [upd_ne (ne_of_none e hL)]; exact S2 _ _ (S b u e), ws ++ [z], by rw [List.length_append, lw]; rfl, by rw [upd_same, List.map_append]; rfl, ?_⟩
                rw [List.take_add_one, hai]
                exact paired_snoc (R := fun a z => ∃ d, DlAt G a d ∧ numOf ks d z) ⟨d, d1, hz⟩ pw
              · rintro J ⟨S, ws, lw, jL, pw⟩
                rw [List.length_map, List.take_length] at pw
                have ez : zs = ws := paired_one (R := fun a z => ∃ d, DlAt G a d ∧ numOf ks d z) (fun a x y ⟨d, p, q⟩ ⟨d', p', q'⟩ => by
                  have := DlAt.one p p'
                  subst this
                  exact numOf_one nd q q') pz pw
                subst ez
                have lz : zs.length ≤ 60 := by rw [← paired_len pz]; exact ha
                have hz := paired_snd (R := fun a z => ∃ d, DlAt G a d ∧ numOf ks d z) (p := fun z => 0 ≤ z ∧ z ≤ 60) (fun a x ⟨d, _, q⟩ => numOf_small hO q) pz
                refine ⟨L, _, rfl, .inl ⟨SqL.of jL, fun l nl => ?_⟩⟩
                have s2 := KaG.Same.tr S (same_upd (o := .tup (zs.map V.int)) nl)
                have g1 := Gd.tup (s2 _ _ e1) (GdA.ints hz) (c := 60) (by rw [List.length_map]; exact lz)
                have g2 := Gd.tup (H := upd J l (.tup (zs.map V.int))) (a := l) upd_same (GdA.ints hz) (c := 60) (by rw [List.length_map]; exact lz)
                have tw2 := tw1.go hB (Ext.of_same tw1.ext.bag s2)
                refine ⟨.ref p, .ref l, _, rfl, g1.rep, g2.rep, g1.lay, Nat.le_trans g1.dep (by decide), Nat.le_trans g1.len (by rw [sizeLine_eq]; decide), true, rfl, ifF rfl ?_⟩
                clear g1 g2 jL pw S nl
                generalize upd J l (.tup (zs.map V.int)) = G2 at tw2 s2 ⊢
                clear tw tw1 s1 s2 pz hz lw et hd n1 e1 hL
                dsimp only [tNext]
                refine seqGo (fun b' D' => ∀ (G : Hp) (ol : Addr) (ov : List V), Tw K H G bg b rows ks kas kd pl D ps ns → G ol = some (.lst ov) → ov.length = 7 → (∀ v ∈ ov, Ov CW0 NW0 bg G v) → H ol = none → b' D' [some (.ref bg), some (.ref b), some (.ref kd), some (.ref pl), some (.str kept), some (.ref D), x6, x7, x8, some (.ref t), some (.ref ol), x11, x12, x13, x14, x15, x16] G) (fun G ol ov tw eo lo ho no => ?_) (fun rest => ?_)
                · have hll : ks.length ≤ kas.length := by rw [hlen']; exact Nat.le_refl _
                  have olb : ol ≠ bg := fun z => hB.there (z ▸ no)
                  refine ⟨_, rfl, kd, kvsOf ks kas, rfl, .inl tw.ekd, fun c1 nc1 => ?_⟩
                  rw [kvs_list hll]
                  have s1 := same_upd (o := .lst ((ks.map Kd.name).map V.str)) nc1
                  have y1 : upd G c1 (.lst ((ks.map Kd.name).map V.str)) c1 = some (.lst ((ks.map Kd.name).map V.str)) := upd_same
                  generalize upd G c1 (.lst ((ks.map Kd.name).map V.str)) = G1 at s1 y1 ⊢
                  have tw1 := tw.go hB (Ext.of_same tw.ext.bag s1)
                  refine ⟨_, rfl, c1, ol, _, _, rfl, rfl, y1, s1 _ _ eo, sz (by rw [List.length_map, List.length_map, lo]; omega), fun al nal => ?_⟩
                  have s2 := same_upd (o := .lst ((ks.map Kd.name).map V.str ++ ov)) nal
                  have y2 : upd G1 al (.lst ((ks.map Kd.name).map V.str ++ ov)) al = some (.lst ((ks.map Kd.name).map V.str ++ ov)) := upd_same
                  have nal0 : H al = none := newAt tw1.ext nal
                  have alb : al ≠ bg := fun z => hB.there (z ▸ nal0)
                  generalize upd G1 al (.lst ((ks.map Kd.name).map V.str ++ ov)) = G2 at s2 y2 ⊢
                  have S2 := KaG.Same.tr s1 s2
                  have tw2 := tw.go hB (Ext.of_same tw.ext.bag S2)
                  have hv : ∀ v ∈ (ks.map Kd.name).map V.str ++ ov, Ov CW0 NW0 bg G2 v := fun v m => by
                    rcases List.mem_append.mp m with z | z
                    · obtain ⟨n, hn, rfl⟩ := List.mem_map.mp z
                      exact .nm (hO.nm.of n hn)
                    · exact (ho v z).ext (Ext.of_same tw.ext.bag S2)
                  clear s1 y1 nc1 tw1 s2 nal S2 ho eo lo tw
                  generalize (ks.map Kd.name).map V.str ++ ov = xs at y2 hv ⊢
                  refine ⟨al, rfl, ⟨_, SqL.of y2⟩, for_list (K := K) (a := al) (xs := xs) (fun j σ' J => (∃ x6 x7 x8 x11 x12 x13 x14 x15 x16 : Option V, σ' = [some (.ref bg), some (.ref b), some (.ref kd), some (.ref pl), some (.str kept), some (.ref D), x6, x7, x8, some (.ref t), some (.ref ol), x11, x12, x13, x14, x15, x16]) ∧ Tw K H J bg b rows ks kas kd pl D ps ns ∧ J al = some (.lst xs) ∧ ∀ v ∈ xs, Ov CW0 NW0 bg J v) ?_ ?_ ?_ ?_⟩
                  · exact ⟨⟨_, _, _, _, _, _, _, _, _, rfl⟩, tw2, y2, hv⟩
                  · rintro j σ' J _ ⟨_, _, e, _⟩
                    exact SqL.of e
                  · clear tw2 y2 hv
                    rintro j v σ' J hx ⟨⟨x6, x7, x8, x11, x12, x13, x14, x15, x16, rfl⟩, tw, ea, hv⟩
                    have mv := List.mem_of_getElem? hx
                    obtain ⟨as0, d0, t0, hS, hd0, ht0, hb0, hn0⟩ := id (hv v mv)
                    have pv := hS.pln hN0 ht0
                    have hSr : Sh J CW NW as0 d0 v t0 := hS.safe hN0 ht0
                    refine seqGo (fun b' D' => ∀ g : Bool, (g = true → ∃ (i : Nat) (k : Kd) (ka : Addr), ks[i]? = some k ∧ kas[i]? = some ka ∧ v = .str k.name) → (g = false → ∀ k ∈ ks, v ≠ .str k.name) → b' D' [some (.ref bg), some (.ref b), some (.ref kd), some (.ref pl), some (.str kept), some (.ref D), x6, x7, x8, some (.ref t), some (.ref ol), some v, some (.bl g), x13, x14, x15, x16] J) (fun g hg1 hg2 => ?_) (fun rest => ?_)
                    · have done : ∀ J2 : Hp, Same J J2 → Tw K H J2 bg b rows ks kas kd pl D ps ns ∧ J2 al = some (.lst xs) ∧ ∀ v ∈ xs, Ov CW0 NW0 bg J2 v := fun J2 s => ⟨tw.go hB (Ext.of_same tw.ext.bag s), s _ _ ea, fun v m => (hv v m).ext (Ext.of_same tw.ext.bag s)⟩
                      refine ⟨_, rfl, _, rfl, b, rows, ks, kas, v, rfl, tw.bk, tw.ka, nd, pv, fun i k ka hi hka e p J1 s1 np ep => ?_, fun no p J1 s1 np ep => ?_⟩
                      · have mk := List.mem_of_getElem? hi
                        have gt : g = true := by
                          cases g with
                          | true => rfl
                          | false => exact absurd e (hg2 rfl k mk)
                        subst gt
                        subst e
                        refine ⟨_, rfl, true, rfl, ifT rfl ⟨_, rfl, _, rfl, kd, .ref ka, rfl, by rw [← kvs_at nd hll hi hka]; exact DGet.k (k := Sum.inr k.name) (s1 _ _ tw.ekd), sz (by show 2 ≤ 900; decide), fun q nq => ?_⟩⟩
                        have gk := Gd.kind hO mk (kd_at tw.bk tw.ka hi hka)
                        obtain ⟨as, hs, hin⟩ := Rep.sh (CW := CW) (NW := NW) gk.rep
                        have hpr : ∀ b ∈ as, J b ≠ none := fun b m => (hin b m).elim fun d z => z.1.there
                        have s2 := same_upd (o := .tup [.str "told", .ref ka]) nq
                        have s12 := KaG.Same.tr s1 s2
                        have tl := tupleText_le [reprText "told", txt (kdD k)]
                        rw [piled_cons, piled_cons, piled_nil] at tl
                        have tt : (reprText "told").length ≤ 20 := by decide +kernel
                        have l2 := gk.len
                        refine ⟨p, q, "told", .ref ka, as, _, _, rfl, s2 _ _ ep, upd_same, hs.same s12 hpr, fun m => hpr p m np, fun m => hpr q m (same_back s1 nq), Nat.le_trans gk.dep (by decide), Nat.le_trans tl (by rw [sizeLine_eq]; omega), true, rfl, ifF rfl ?_⟩
                        exact ⟨⟨_, _, _, _, _, _, _, _, _, rfl⟩, done _ s12⟩
                      · have gf : g = false := by
                          cases g with
                          | false => rfl
                          | true =>
                            obtain ⟨i, k, ka, hi, hka, e⟩ := hg1 rfl
                            exact absurd e (no k (List.mem_of_getElem? hi))
                        subst gf
                        refine ⟨_, rfl, false, rfl, ifF rfl ⟨_, rfl, sz (by show 2 ≤ 900; decide), fun q nq => ?_⟩⟩
                        have s2 := same_upd (o := .tup [.str "no kind", v]) nq
                        have s12 := KaG.Same.tr s1 s2
                        have tl := tupleText_le [reprText "no kind", t0]
                        rw [piled_cons, piled_cons, piled_nil] at tl
                        have tt : (reprText "no kind").length ≤ 20 := by decide +kernel
                        refine ⟨p, q, "no kind", v, as0, d0, t0, rfl, s2 _ _ ep, upd_same, hSr.same s12 hn0, fun m => hn0 p m np, fun m => hn0 q m (same_back s1 nq), by omega, Nat.le_trans tl (by rw [sizeLine_eq]; omega), true, rfl, ifF rfl ?_⟩
                        exact ⟨⟨_, _, _, _, _, _, _, _, _, rfl⟩, done _ s12⟩
                    · refine ⟨_, rfl, ?_⟩
                      dsimp only [tCons, tNil, tC]
                      refine isi_pln pv ⟨_, rfl, ?_⟩
                      by_cases hs : ∃ n, v = .str n
                      · obtain ⟨n, rfl⟩ := hs
                        refine ifT rfl ⟨_, rfl, _, rfl, kd, valV (kvsOf ks kas) (Sum.inr n), rfl, DGet.k (k := Sum.inr n) tw.ekd, ?_⟩
                        refine rest _ (fun e => ?_) (fun e k mk z => ?_)
                        · apply Classical.byContradiction
                          intro no
                          have : valV (kvsOf ks kas) (Sum.inr n) = none := kvs_none fun k mk z => no (by
                            obtain ⟨i, hi⟩ := List.getElem?_of_mem mk
                            have h1 := (List.getElem?_eq_some_iff.mp hi).1
                            exact ⟨i, k, _, hi, List.getElem?_eq_getElem (show i < kas.length by omega), by rw [z]⟩)
                          rw [this] at e
                          cases e
                        · obtain ⟨i, hi⟩ := List.getElem?_of_mem mk
                          have h1 := (List.getElem?_eq_some_iff.mp hi).1
                          have h2 := kvs_at nd hll hi (List.getElem?_eq_getElem (show i < kas.length by omega))
                          rw [← V.str.inj z] at h2
                          rw [h2] at e
                          cases e
                      · have e : isS v = false := by
                          cases v with
                          | str n => exact absurd ⟨n, rfl⟩ hs
                          | _ => rfl
                        refine ifF e (rest false (fun z => nomatch z) (fun _ k mk z => hs ⟨_, z⟩))
                  · clear tw2 y2 hv
                    rintro σ' J ⟨⟨x6, x7, x8, x11, x12, x13, x14, x15, x16, rfl⟩, tw, ea, hv⟩
                    have gb := Gd.book tw.bk hO
                    obtain ⟨as', hS', _⟩ := Rep.sh (CW := CW) (NW := NW) gb.rep
                    refine ⟨_, rfl, _, as', _, _, rfl, hS', Nat.le_trans gb.dep (by decide), Nat.le_trans gb.len (by rw [sizeLine_eq]; decide), _, rfl, rfl, ?_⟩
                    rw [hkept, decide_eq_true rfl]
                    exact k _ tw.ext
                · have bnew : ∀ {G : Hp} {a : Addr}, Ext bg H G → G a = none → a ≠ bg := fun E n z => hB.there (z ▸ newAt E n)
                  refine ⟨_, rfl, bg, rfl, tw2.ext.bag, fun v1 G3 as1 t1 E1 S1 l1 n1 => ?_⟩
                  have tw3 := tw2.go hB E1
                  have o1 : Ov CW0 NW0 bg G3 v1 := ⟨as1, 3, t1, S1, by decide, l1, n1.out tw2.ext.bag.there, fun b m => (n1 b m).2⟩
                  refine ⟨_, rfl, bg, rfl, tw3.ext.bag, fun v2 G4 as2 t2 E2 S2 l2 n2 => ?_⟩
                  have tw4 := tw3.go hB E2
                  have o2 : Ov CW0 NW0 bg G4 v2 := ⟨as2, 3, t2, S2, by decide, l2, n2.out tw3.ext.bag.there, fun b m => (n2 b m).2⟩
                  obtain ⟨r', kt', kas', u1', u2', u3', pk'⟩ := tw4.bk
                  obtain ⟨rn, hrn, ern⟩ := at_str (ns := rows) (z := 0) (by decide) (by have := hO.r0; omega)
                  refine ⟨_, rfl, b, _, 0, .ref r', rfl, rfl, SqT.of u1', rfl, r', _, 0, .str rn, rfl, rfl, SqT.of u2', ern, Nat.zero_le _, fun l0 nl0 => ?_⟩
                  have s5 := same_upd (o := .lst []) nl0
                  have y5 : upd G4 l0 (.lst []) l0 = some (.lst []) := upd_same
                  have lb := bnew tw4.ext nl0
                  generalize upd G4 l0 (.lst []) = G5 at s5 y5 ⊢
                  have tw5 := tw4.go hB (Ext.of_same tw4.ext.bag s5)
                  have hk0 := hO.k0
                  obtain ⟨k0, hk00⟩ : ∃ k0, ks[0]? = some k0 := ⟨_, List.getElem?_eq_getElem hk0⟩
                  obtain ⟨ka0, hka0, gt0, gas0, w1, w2, w3⟩ := paired_at2 pk' hk00
                  refine ⟨_, rfl, b, _, 1, .ref kt', rfl, rfl, SqT.of (s5 _ _ u1'), rfl, kt', _, 0, .ref ka0, rfl, rfl, SqT.of (s5 _ _ u3'), atI_nat (j := 0) (by rw [List.getElem?_map, hka0]; rfl), ka0, _, 0, .str k0.name, rfl, rfl, SqT.of (s5 _ _ w1), rfl, sz (by show 1 ≤ 900; decide), fun q nq => ⟨sz (by show 7 ≤ 900; decide), fun ol nol => ?_⟩⟩
                  have s6 := same_upd (o := .tup [.str k0.name]) nq
                  have y6 : upd G5 q (.tup [.str k0.name]) q = some (.tup [.str k0.name]) := upd_same
                  have qb := bnew tw5.ext nq
                  generalize upd G5 q (.tup [.str k0.name]) = G6 at s6 y6 nol ⊢
                  have s7 := same_upd (o := .lst [v1, v2, .str rn, .str "nokind", .non, .ref l0, .ref q]) nol
                  have S47 := KaG.Same.tr s5 (KaG.Same.tr s6 s7)
                  have E47 := Ext.of_same tw4.ext.bag S47
                  have tw6 := tw5.go hB (Ext.of_same tw5.ext.bag s6)
                  refine rest _ ol _ (tw4.go hB E47) upd_same rfl (fun v m => ?_) (newAt tw6.ext nol)
                  simp only [List.mem_cons, List.mem_nil_iff, or_false] at m
                  rcases m with rfl | rfl | rfl | rfl | rfl | rfl | rfl
                  · exact (o1.ext E2).ext E47
                  · exact o2.ext E47
                  · exact .nm (hO.rw.of _ hrn)
                  · exact .str (by decide +kernel)
                  · exact .non
                  · exact .nil (s7 _ _ (s6 _ _ y5)) lb
                  · exact .one (s7 _ _ y6) qb (hO.nm.of _ (List.mem_map_of_mem (List.mem_of_getElem? hk00)))
            · have tb : t ≠ bg := fun z => hB.there (z ▸ nt)
              refine ⟨_, rfl, _, rfl, _, rfl, bg, 2, rfl, tw.ext.bag, by decide, by decide, fun z G1 E1 z0 z1 => ?_⟩
              have tw1 := tw.go hB E1
              have et1 := E1.keep t _ tb et
              have hd1 : DlsAt G1 ks as := hd.ts (TSame.ext tw.ext.bag E1)
              -- the sum, whichever tuple the slice gives
              have sum : ∀ (G2 : Hp) (q : Addr) (bs : List Addr), Ext bg G1 G2 → G2 q = some (.tup (bs.map V.ref)) → (∀ a ∈ bs, a ∈ as) → bs.length ≤ as.length → H q = none → rCatA K (.ref t) (.ref q) G2 (fun v G' => ∃ t', v = .ref t' ∧ ∃ cs, Tw K H G' bg b rows ks kas kd pl D ps ns ∧ G' t' = some (.tup (cs.map V.ref)) ∧ DlsAt G' ks cs ∧ cs.length ≤ 60 ∧ H t' = none) := by
                intro G2 q bs E2 eq hbs lb nq
                have tw2 := tw1.go hB E2
                have et2 := E2.keep t _ tb et1
                have hd2 : DlsAt G2 ks as := hd1.ts (TSame.ext tw1.ext.bag E2)
                have hdb : DlsAt G2 ks bs := fun a m => hd2 a (hbs a m)
                refine ⟨t, q, _, _, rfl, rfl, SqT.of et2, SqT.of eq, sz (by rw [List.length_map, List.length_map]; omega), fun _ => ⟨q, rfl, bs, tw2, eq, hdb, by omega, nq⟩, fun _ _ => ⟨t, rfl, as, tw2, et2, hd2, by omega, nt⟩, fun _ _ p np => ?_⟩
                have E3 : Ext bg G2 (upd G2 p (.tup (as.map V.ref ++ bs.map V.ref))) := (Ext.of_same tw2.ext.bag Same.refl').new np
                have ts := TSame.ext tw2.ext.bag E3
                exact ⟨p, rfl, as ++ bs, tw2.go hB E3, by rw [upd_same, List.map_append], (hd2.ts ts).app (hdb.ts ts), by rw [List.length_append]; omega, newAt tw2.ext np⟩
              have fin : ∀ {y : V} {G2 : Hp}, rCatA K (.ref t) y G2 (fun v G' => ∃ t', v = .ref t' ∧ ∃ cs, Tw K H G' bg b rows ks kas kd pl D ps ns ∧ G' t' = some (.tup (cs.map V.ref)) ∧ DlsAt G' ks cs ∧ cs.length ≤ 60 ∧ H t' = none) → ∀ {Q' : VK}, (∀ v G', (∃ t', v = .ref t' ∧ ∃ cs, Tw K H G' bg b rows ks kas kd pl D ps ns ∧ G' t' = some (.tup (cs.map V.ref)) ∧ DlsAt G' ks cs ∧ cs.length ≤ 60 ∧ H t' = none) → Q' v G') → rCatA K (.ref t) y G2 Q' := by
                rintro y G2 ⟨a, q, xs, ys, h1, h2, h3, h4, h5, h6, h7, h8⟩ Q' m
                exact ⟨a, q, xs, ys, h1, h2, h3, h4, h5, fun c => m _ _ (h6 c), fun c d => m _ _ (h7 c d), fun c d p np => m _ _ (h8 c d p np)⟩
              refine ⟨_, rfl, t, _, rfl, SqT.of et1, fun _ => fin (sum G1 t as (Ext.of_same tw1.ext.bag Same.refl') et1 (fun _ m => m) (Nat.le_refl _) nt) (fun v G' h => ?_), fun _ p np => fin (sum _ p (as.take z.toNat) ((Ext.of_same tw1.ext.bag Same.refl').new np) (by rw [upd_same, cut_to _ z z0, ← List.map_take]) (fun _ m => List.mem_of_mem_take m) (by rw [List.length_take]; omega) (newAt tw1.ext np)) (fun v G' h => ?_)⟩
              · obtain ⟨t', rfl, cs, h1, h2, h3, h4, h5⟩ := h
                exact rest G' t' cs h1 h2 h3 h4 h5
              · obtain ⟨t', rfl, cs, h1, h2, h3, h4, h5⟩ := h
                exact rest G' t' cs h1 h2 h3 h4 h5
          · refine ⟨_, rfl, _, rfl, b, rows, ks, kas, rfl, twJ.bk, twJ.ka, hO, fun dl ds G1 s1 n1 e1 pd ld => ?_⟩
            have tw1 := twJ.go hB (Ext.of_same twJ.ext.bag s1)
            have n10 : H dl = none := newAt twJ.ext n1
            have dlb : dl ≠ bg := fun z => hB.there (z ▸ n10)
            refine ⟨bg, dl, ds.map V.ref, rfl, tw1.ext.bag, dlb, .inl e1, by rw [List.length_map]; omega, fun mx ys G2 E2 n2 e2 pm => ?_⟩
            have tw2 := tw1.go hB E2
            obtain ⟨zs, pz, rfl⟩ := perm_of_map pm ds rfl
            have mxb : mx ≠ bg := fun z => hB.there (z ▸ newAt tw1.ext n2)
            refine ⟨_, rfl, bg, 30, rfl, tw2.ext.bag, by decide, by decide, fun z G3 E3 z0 z1 => ?_⟩
            have tw3 := tw2.go hB E3
            refine ⟨_, rfl, _, _, rfl, SqL.of (E3.keep mx _ mxb e2), fun r nr => ?_⟩
            rw [cut_to _ z z0, ← List.map_take]
            refine ⟨r, _, rfl, .inl ⟨SqL.of upd_same, fun l nl => ?_⟩⟩
            have E4 : Ext bg G3 (upd (upd G3 r (.lst ((zs.take z.toNat).map V.ref))) l (.tup ((zs.take z.toNat).map V.ref))) := ((Ext.of_same tw3.ext.bag Same.refl').new nr).new nl
            refine rest _ l (zs.take z.toNat) (tw3.go hB E4) upd_same (fun a m => ?_) (by rw [List.length_take]; omega) (newAt (tw3.ext.new nr) nl)
            have ts : TSame G1 _ := TSame.ext tw1.ext.bag ((E2.trans E3).trans E4)
            exact (pd.ts ts) a (pz.mem_iff.mp (List.mem_of_mem_take m))
end
end KaG


set_option maxRecDepth 100000
set_option maxHeartbeats 4000000
namespace KaG
open PySem PySem.Spec PyProof.Rows L2 KaC
section
variable {P : Program} {w : World} {K : PySem.W.Frag} {mg : Str → Option Value} {base : Heap}
abbrev nmLaw : List Str := ["script", "bag", "books", "rulebook", "k"]
theorem scLaw2 : FnScope nmLaw ["script"] (defScope sLaw) := ⟨rfl, rfl, rfl, by decide +kernel, rfl, by decide +kernel, by decide +kernel⟩
def spLaw (K : PySem.W.Frag) : Sp := fun vs H Q _ => ∃ (a : Addr) (ns : List Int), vs = [.ref a] ∧ SqL K H a (ns.map V.int) ∧ ns.length ≤ 63 ∧ ∀ H', Q (.bl true) H'
structure GnG (c : Bool) (P : Program) (w : World) (K : PySem.W.Frag) (mg : Str → Option Value) (base : Heap) (x : Str) (k : Nat) (ps : List Str) (sp : Sp) (f : Addr) (fd : FuncData) : Prop where
  G : FnG c P w K mg base CX0 k f fd ps sp
  m : mg x = some (.ref f)
  kp : PySem.W.keepIn K (.ref f) = true
  b : Binds K fd ps []
theorem ok_law {f fB fR fT : Addr} {fd fdB fdR fdT : FuncData} (F : Fun K "law" "law" sLaw f fd) (T : TxtC mg) (CB : Ct P w K mg base "_law_bag" 1 ["script"] (spBag K) fB fdB) (CR : Ct P w K mg base "_law_rulebook" 7 ["bag", "kinds"] spRb fR fdR)
    (CT : GnG true P w K mg base "_law_is_book_told" 5 ["bag", "rulebook"] spTold fT fdT) : FnG true P w K mg base CX0 8 f fd ["script"] (spLaw K) := by
  refine fnG_of F scLaw2 (fun vs H Q E h => ?_) (fun cdv A outer s H vs Q E hr hc h => ?_)
  · obtain ⟨a, ns, rfl, _⟩ := h
    rfl
  · obtain ⟨a, ns, rfl, hS, hn, k⟩ := h
    have hA : A.handled = none := hc rfl
    have hR : Room 7 (A.deeper (envOfC "law" (defScope sLaw) s.heap.objs.size f cdv)) := hr.room (hc rfl)
    have hR1 := hR.mono (show 1 ≤ 7 by decide)
    have gr5 := hr.low (show 5 ≤ 7 by decide)
    refine ⟨_, L2.PSs.nox (pss_cons (ps_set (i := 1) scLaw2.nd rfl (Or.inr rfl) (pe_call CB.G hR1 (by rfl) CB.m CB.kp CB.b .nil pass0 (pa_cons (pv 0) pa_nil)))
      (pss_cons (ps_setLc (i := 2) (own := [("k", 4)]) (g := gName 4) (by rfl) scLaw2.nd rfl rfl (sw_true rfl rfl rfl (by decide +kernel)) (pi_range1 rfl T.b.range (pa_cons pe_int pa_nil))
          (blkOk_by (own := [("k", 4)]) (N := nmLaw) (sc := defScope sLaw) (by decide +kernel)) (fun _ _ _ _ _ => pg_name (i := 4) scLaw2.nd rfl (Or.inl rfl)) (fun _ _ _ _ _ => pts_nil)
          (fun _ _ _ _ _ => pe_ix (r := rIxT K) ix_tup (pe_call CR.G hR (by rfl) CR.m CR.kp CR.b .nil pass0 (pa_cons (pv 1) (pa_cons pe_int pa_nil))) pe_int (fun _ _ => rfl)))
      (pss_cons (ps_for PassesOwn.never rfl (pi_list (pe_op op_cat (pv 2) (pe_slice (r := rSlL K) sl_list (pv 2) po_none (po_some pe_int)))) (pg_name (i := 3) scLaw2.nd rfl (Or.inl rfl))
        (pss_one (ps_if (pt_not (pt_val (pe_callG CT.G gr5 (fun _ => hA) (by rfl) CT.m CT.kp CT.b (pa_cons (pv 1) (pa_cons (pv 3) pa_nil))))) (pss_one (ps_ret pe_bl)) pss_nil)))
      (pss_one (ps_ret pe_bl))))), ?_⟩
    have sz : ∀ {m : Nat}, m ≤ 900 → m ≤ sizeLine := fun h => Nat.le_of_lt (small1000 (by omega))
    refine ⟨_, rfl, a, ns, rfl, hS, hn, fun bg H1 s1 nb hB => ?_⟩
    refine ⟨4, rfl, by decide, by decide, fun D hD => lc_range (fun i J => Ext bg H1 J ∧ ∃ ps : List Addr, ps.length = i ∧ J D = some (.lst (ps.map V.ref)) ∧ ∀ p ∈ ps, ∃ rs ks, BookAt J p rs ks ∧ BookOk rs ks) ?_ ?_ ?_⟩
    · exact ⟨(Ext.of_same hB Same.refl').new hD, [], rfl, upd_same, fun _ z => nomatch z⟩
    · rintro i J hi ⟨EJ, ps, lp, jD, hp⟩
      have db : D ≠ bg := fun z => hB.there (z ▸ hD)
      refine ⟨rfl, ?_⟩
      unfold tYes
      dsimp only
      refine iteT ⟨_, rfl, bg, 5, rfl, EJ.bag, by decide, by decide, fun t p x rs ks J2 E2 et _ hA hO => ?_⟩
      refine ⟨t, _, 0, .ref p, rfl, rfl, SqT.of et, rfl, ?_⟩
      have e2 := E2.keep D _ db jD
      have hi4 : i < 4 := hi
      refine ⟨_, e2, small1000 (by rw [List.length_map]; omega), Ext.write hB (EJ.trans E2) hD, ps ++ [p], by rw [List.length_append, lp]; rfl, by rw [upd_same, List.map_append]; rfl, fun q m => ?_⟩
      have tsl := ts_lst (ys := ps.map V.ref ++ [V.ref p]) e2
      rcases List.mem_append.mp m with z | z
      · obtain ⟨rs', ks', b1, b2⟩ := hp q z
        exact ⟨rs', ks', (b1.ts (TSame.ext EJ.bag E2)).ts tsl, b2⟩
      · rw [List.mem_singleton.mp z]
        exact ⟨rs, ks, hA.ts tsl, hO⟩
    · rintro J ⟨EJ, ps, lp, jD, hp⟩
      have lp4 : ps.length = 4 := lp
      refine ⟨_, rfl, _, rfl, _, rfl, _, _, rfl, SqL.of jD, fun q nq => ?_⟩
      rw [cut_to _ 2 (by decide), ← List.map_take]
      have s2 := same_upd (o := .lst ((ps.take (2 : Int).toNat).map V.ref)) nq
      refine ⟨D, q, _, _, rfl, rfl, s2 _ _ jD, upd_same, sz (by rw [List.length_map, List.length_map, List.length_take]; omega), fun l nl => ?_⟩
      have s3 := same_upd (o := .lst (ps.map V.ref ++ (ps.take (2 : Int).toNat).map V.ref)) nl
      have S23 := KaG.Same.tr s2 s3
      have lb : l ≠ bg := fun z => hB.there (z ▸ newAt (EJ.new nq) nl)
      have nl1 : H1 l = none := newAt (EJ.new nq) nl
      have E4 := EJ.trans (Ext.of_same EJ.bag S23)
      have hp4 : ∀ p ∈ ps ++ ps.take (2 : Int).toNat, ∃ rs ks, BookAt _ p rs ks ∧ BookOk rs ks := fun p m => by
        have m' : p ∈ ps := (List.mem_append.mp m).elim id fun z => List.mem_of_mem_take z
        obtain ⟨rs, ks, b1, b2⟩ := hp p m'
        exact ⟨rs, ks, b1.ts (TSame.of S23), b2⟩
      have el : upd (upd J q (.lst ((ps.take (2 : Int).toNat).map V.ref))) l (.lst (ps.map V.ref ++ (ps.take (2 : Int).toNat).map V.ref)) l = some (.lst ((ps ++ ps.take (2 : Int).toNat).map V.ref)) := by rw [upd_same, List.map_append]
      generalize upd (upd J q (.lst ((ps.take (2 : Int).toNat).map V.ref))) l (.lst (ps.map V.ref ++ (ps.take (2 : Int).toNat).map V.ref)) = G at E4 hp4 el ⊢
      generalize ps ++ ps.take (2 : Int).toNat = qs at hp4 el ⊢
      refine ⟨l, rfl, ⟨_, SqL.of el⟩, for_list (K := K) (a := l) (xs := qs.map V.ref) (fun j σ' G' => (∃ x3 x4 : Option V, σ' = [some (.ref a), some (.ref bg), some (.ref D), x3, x4]) ∧ Ext bg G G') ?_ ?_ ?_ ?_⟩
      · exact ⟨⟨_, _, rfl⟩, Ext.of_same E4.bag Same.refl'⟩
      · rintro j σ' G' _ ⟨_, E5⟩
        exact SqL.of (E5.keep l _ lb el)
      · rintro j x σ' G' hx ⟨⟨x3, x4, rfl⟩, E5⟩
        rw [List.getElem?_map] at hx
        obtain ⟨p, hpj, rfl⟩ := Option.map_eq_some_iff.mp hx
        obtain ⟨rs, ks, b1, b2⟩ := hp4 p (List.mem_of_getElem? hpj)
        refine ⟨_, rfl, _, rfl, bg, p, rs, ks, rfl, E5.bag, b1.ts (TSame.ext E4.bag E5), b2, fun G2 E6 => ⟨true, rfl, ifF rfl ?_⟩⟩
        exact ⟨⟨_, _, rfl⟩, E5.trans E6⟩
      · rintro σ' G' _
        exact k G'
end
end KaG


set_option maxRecDepth 100000
set_option maxHeartbeats 4000000
namespace KaG
open PySem PySem.Spec PyProof.Rows L2 KaC
def clB (K : PySem.W.Frag) (C : Addr) : Bool :=
  decide (PySem.W.findIn K (.ref C) "__setattr__" = some (some (.builtin "object.__setattr__"))) && (decide (PySem.W.subIn K (.ref C) (.type "BaseException") = some true) && (decide (PySem.W.typeIn K (.ref C) = some (.type "type")) && (PySem.W.keepIn K (.ref C) && xfB K C)))
structure ClF (K : PySem.W.Frag) (C : Addr) : Prop where
  sa : PySem.W.findIn K (.ref C) "__setattr__" = some (some (.builtin "object.__setattr__"))
  exC : PySem.W.subIn K (.ref C) (.type "BaseException") = some true
  tyC : PySem.W.typeIn K (.ref C) = some (.type "type")
  kC : PySem.W.keepIn K (.ref C) = true
  xf : XfC K C
theorem clB_ok {K : PySem.W.Frag} {C : Addr} (h : clB K C = true) : ClF K C := by
  unfold clB at h
  simp only [Bool.and_eq_true, decide_eq_true_eq] at h
  obtain ⟨h1, h2, h3, h4, h5⟩ := h
  exact ⟨h1, h2, h3, h4, xfB_ok h5⟩
def wrB (K : PySem.W.Frag) (C : Addr) (NW : Str) : Bool := (match PySem.W.clsIn K C with | some cd => decide (Str.ofString ((cd.name.toString.cutAt '.').getLastD "") = NW) | none => false) &&
  (decide (PySem.W.findIn K (.ref C) "__repr__" = some (some (.builtin "BaseException.__repr__"))) && (decide (PySem.W.findIn K (.ref C) "__eq__" = some (some (.builtin "object.__eq__"))) && decide (PySem.W.subIn K (.ref C) (.type "object") = some true)))
theorem wrB_ok {K : PySem.W.Frag} {C : Addr} {NW : Str} (h : wrB K C NW = true) (e : PySem.W.subIn K (.ref C) (.type "BaseException") = some true) : WrK K C NW := by
  unfold wrB at h
  rw [Bool.and_eq_true] at h
  obtain ⟨h1, h2⟩ := h
  simp only [Bool.and_eq_true, decide_eq_true_eq] at h2
  obtain ⟨h3, h4, h5⟩ := h2
  split at h1
  · rename_i cd hc
    exact ⟨⟨cd, hc, of_decide_eq_true h1⟩, e, h3, h4, h5⟩
  · cases h1
theorem oexC_of {K : PySem.W.Frag} {C : Addr} {nm q : Str} {N : Addr} {bs bm : List Value} {sn : List Str} {sub : List Value} {ab : Bool} {col : Option Bool} {dd : Option Addr} {m0 m1 m2 m3 m5 : Option Value} (F : ClF K C)
    (xL : K.lookup C = some (excClassObj nm q C N bs bm true sn sub ab col dd m0 m1 m2 m3 m5 "ValueError.__new__")) (hb : PySem.HandSPX.refsVE bm = true) : OexC K C := ⟨⟨nm, q, N, bs, bm, sn, sub, ab, col, dd, m0, m1, m2, m3, m5, xL, hb⟩, F.sa, F.exC, F.tyC, F.kC⟩
def strV : Value → Option Str
  | .str x _ => some x
  | _ => none
def wordsB (its : Array Value) (ws : List Str) : Bool := decide (its.toList.map strV = ws.map some) && decide (its.size ≤ 100)
theorem words_vals : ∀ {us : List Value} {ws : List Str}, us.map strV = ws.map some → Vals (ws.map V.str) us
  | [], [], _ => .nil
  | [], _ :: _, h => nomatch h
  | _ :: _, [], h => nomatch h
  | u :: us, x :: ws, h => by
    have h1 := List.cons.inj h
    refine .cons ?_ (words_vals h1.2)
    cases u with
    | str y t =>
      have e : y = x := Option.some.inj h1.1
      exact ⟨t, by rw [e]⟩
    | _ => cases h1.1
theorem words_sq {K : PySem.W.Frag} {R : Addr} {its : Array Value} {n : Nat} {sl : Array (Option Value)} {ws : List Str} (l : K.lookup R = some ⟨.type "tuple", none, .seq its n, sl⟩) (b : wordsB its ws = true) (H : Hp) : SqT K H R (ws.map V.str) := by
  unfold wordsB at b
  rw [Bool.and_eq_true, decide_eq_true_eq, decide_eq_true_eq] at b
  exact .inr ⟨_, _, _, l, rfl, rfl, Nat.le_trans b.2 (by rw [sizeLine_eq]; decide), words_vals b.1⟩
abbrev sI0 : Stmt := inClass (top 2) 0
theorem scI0 : FnScope ["self", "name"] ["self", "name"] (defScope sI0) := ⟨rfl, rfl, rfl, by decide +kernel, rfl, by decide +kernel, by decide +kernel⟩
def NB : Str := Str.ofString "aaaaaaaaaaaaaaaaaaaaaaaaaaaaaaaaaaaaaaaaaaaaaaaaaaaaaaaaaaaaaaaaaaaaaaaaaaaaaaaaaaaaaaaaaaaaaaaaaaaaaaaaaaaaaaaaaaaaaaaaaaaaaaaaaaaaaaaaaaaaaaaaaaaaaaaaaaaaaaaaaaaaaaaaaaaaaaaaaaaaaaaaaaaaaaaaaaaaaaaaaaaaaaaaaa"
theorem NB_long : 200 < NB.length := by decide +kernel

section
variable {P : Program} {w : World} {K : PySem.W.Frag} {mg : Str → Option Value} {h : Heap}
theorem all_mk {fa C0 Ra Wa : Addr} {f0 N0 : Addr} {nm0 q0 : Str} {bs0 bm0 : List Value} {sn0 : List Str} {sub0 : List Value} {ab0 : Bool} {col0 : Option Bool} {dd0 od0 an0 : Option Addr} {u0 v0 w0 x0 y0 oc0 kV0 dc0 pm0 cd0 ct0 : _} {sl0 : Array (Option Value)} {Ri Wi : Array Value} {Rn Wn : Nat} {Rs Ws : Array (Option Value)} {g0 : Addr} {god0 gan0 : Option Addr} {gsl0 : Array (Option Value)} {goc0 gkV0 gdc0 gpm0 gcd0 gct0 : Value} {g1 : Addr} {god1 gan1 : Option Addr} {gsl1 : Array (Option Value)} {goc1 gkV1 gdc1 gpm1 gcd1 gct1 : Value} {g2 : Addr} {god2 gan2 : Option Addr} {gsl2 : Array (Option Value)} {goc2 gkV2 gdc2 gpm2 gcd2 gct2 : Value} {g3 : Addr} {god3 gan3 : Option Addr} {gsl3 : Array (Option Value)} {goc3 gkV3 gdc3 gpm3 gcd3 gct3 : Value} {g4 : Addr} {god4 gan4 : Option Addr} {gsl4 : Array (Option Value)} {goc4 gkV4 gdc4 gpm4 gcd4 gct4 : Value} {g5 : Addr} {god5 gan5 : Option Addr} {gsl5 : Array (Option Value)} {goc5 gkV5 gdc5 gpm5 gcd5 gct5 : Value} {g6 : Addr} {god6 gan6 : Option Addr} {gsl6 : Array (Option Value)} {goc6 gkV6 gdc6 gpm6 gcd6 gct6 : Value} {g7 : Addr} {god7 gan7 : Option Addr} {gsl7 : Array (Option Value)} {goc7 gkV7 gdc7 gpm7 gcd7 gct7 : Value} {g8 : Addr} {god8 gan8 : Option Addr} {gsl8 : Array (Option Value)} {goc8 gkV8 gdc8 gpm8 gcd8 gct8 : Value} {g9 : Addr} {god9 gan9 : Option Addr} {gsl9 : Array (Option Value)} {goc9 gkV9 gdc9 gpm9 gcd9 gct9 : Value} {g10 : Addr} {god10 gan10 : Option Addr} {gsl10 : Array (Option Value)} {goc10 gkV10 gdc10 gpm10 gcd10 gct10 : Value} {g11 : Addr} {god11 gan11 : Option Addr} {gsl11 : Array (Option Value)} {goc11 gkV11 gdc11 gpm11 gcd11 gct11 : Value} {g12 : Addr} {god12 gan12 : Option Addr} {gsl12 : Array (Option Value)} {goc12 gkV12 gdc12 gpm12 gcd12 gct12 : Value} {g13 : Addr} {god13 gan13 : Option Addr} {gsl13 : Array (Option Value)} {goc13 gkV13 gdc13 gpm13 gcd13 gct13 : Value} {g14 : Addr} {god14 gan14 : Option Addr} {gsl14 : Array (Option Value)} {goc14 gkV14 gdc14 gpm14 gcd14 gct14 : Value} {g15 : Addr} {god15 gan15 : Option Addr} {gsl15 : Array (Option Value)} {goc15 gkV15 gdc15 gpm15 gcd15 gct15 : Value} {g16 : Addr} {god16 gan16 : Option Addr} {gsl16 : Array (Option Value)} {goc16 gkV16 gdc16 gpm16 gcd16 gct16 : Value} {g17 : Addr} {god17 gan17 : Option Addr} {gsl17 : Array (Option Value)} {goc17 gkV17 gdc17 gpm17 gcd17 gct17 : Value} {g18 : Addr} {god18 gan18 : Option Addr} {gsl18 : Array (Option Value)} {goc18 gkV18 gdc18 gpm18 gcd18 gct18 : Value} {g19 : Addr} {god19 gan19 : Option Addr} {gsl19 : Array (Option Value)} {goc19 gkV19 gdc19 gpm19 gcd19 gct19 : Value} {g20 : Addr} {god20 gan20 : Option Addr} {gsl20 : Array (Option Value)} {goc20 gkV20 gdc20 gpm20 gcd20 gct20 : Value} {g21 : Addr} {god21 gan21 : Option Addr} {gsl21 : Array (Option Value)} {goc21 gkV21 gdc21 gpm21 gcd21 gct21 : Value} {g22 : Addr} {god22 gan22 : Option Addr} {gsl22 : Array (Option Value)} {goc22 gkV22 gdc22 gpm22 gcd22 gct22 : Value} {g23 : Addr} {god23 gan23 : Option Addr} {gsl23 : Array (Option Value)} {goc23 gkV23 gdc23 gpm23 gcd23 gct23 : Value} {g24 : Addr} {god24 gan24 : Option Addr} {gsl24 : Array (Option Value)} {goc24 gkV24 gdc24 gpm24 gcd24 gct24 : Value} {g25 : Addr} {god25 gan25 : Option Addr} {gsl25 : Array (Option Value)} {goc25 gkV25 gdc25 gpm25 gcd25 gct25 : Value} {g26 : Addr} {god26 gan26 : Option Addr} {gsl26 : Array (Option Value)} {goc26 gkV26 gdc26 gpm26 gcd26 gct26 : Value} {g27 : Addr} {god27 gan27 : Option Addr} {gsl27 : Array (Option Value)} {goc27 gkV27 gdc27 gpm27 gcd27 gct27 : Value} {g28 : Addr} {god28 gan28 : Option Addr} {gsl28 : Array (Option Value)} {goc28 gkV28 gdc28 gpm28 gcd28 gct28 : Value} {g29 : Addr} {god29 gan29 : Option Addr} {gsl29 : Array (Option Value)} {goc29 gkV29 gdc29 gpm29 gcd29 gct29 : Value} {g30 : Addr} {god30 gan30 : Option Addr} {gsl30 : Array (Option Value)} {goc30 gkV30 gdc30 gpm30 gcd30 gct30 : Value} {g31 : Addr} {god31 gan31 : Option Addr} {gsl31 : Array (Option Value)} {goc31 gkV31 gdc31 gpm31 gcd31 gct31 : Value} (X : K.In h) (Gm : h.Ns mainGlobals mg) (hfa : mg "law" = some (.ref fa))
    (babs : PySem.W.nsIn K mainGlobals "abs" = some none)
    (blen : PySem.W.nsIn K mainGlobals "len" = some none)
    (bint : PySem.W.nsIn K mainGlobals "int" = some none)
    (brepr : PySem.W.nsIn K mainGlobals "repr" = some none)
    (bisinstance : PySem.W.nsIn K mainGlobals "isinstance" = some none)
    (brange : PySem.W.nsIn K mainGlobals "range" = some none)
    (blist : PySem.W.nsIn K mainGlobals "list" = some none)
    (bValueError : PySem.W.nsIn K mainGlobals "ValueError" = some none)
    (btuple : PySem.W.nsIn K mainGlobals "tuple" = some none)
    (bsorted : PySem.W.nsIn K mainGlobals "sorted" = some none)
    (bset : PySem.W.nsIn K mainGlobals "set" = some none)
    (bdict : PySem.W.nsIn K mainGlobals "dict" = some none)
    (benumerate : PySem.W.nsIn K mainGlobals "enumerate" = some none)
    (bany : PySem.W.nsIn K mainGlobals "any" = some none)
    (bstr : PySem.W.nsIn K mainGlobals "str" = some none)
    (a0 : PySem.W.nsIn K mainGlobals "NoKind" = some (some (.ref C0)))
    (aR : PySem.W.nsIn K mainGlobals "ROW_WORDS" = some (some (.ref Ra)))
    (aW : PySem.W.nsIn K mainGlobals "KIND_WORDS" = some (some (.ref Wa)))
    (lR : K.lookup Ra = some ⟨.type "tuple", none, .seq Ri Rn, Rs⟩)
    (lW : K.lookup Wa = some ⟨.type "tuple", none, .seq Wi Wn, Ws⟩)
    (xL0 : K.lookup C0 = some (excClassObj nm0 q0 C0 N0 bs0 bm0 true sn0 sub0 ab0 col0 dd0 u0 v0 w0 x0 y0 "ValueError.__new__"))
    (i0 : PySem.W.findIn K (.ref C0) "__init__" = some (some (.ref f0)))
    (t0 : PySem.W.typeIn K (.ref f0) = some (.type "function"))
    (l0 : K.lookup f0 = some ⟨oc0, od0, .func (PySem.W.fnOf "__init__" "NoKind.__init__" (defArgs sI0) (defBody sI0) (defScope sI0) .none kV0 dc0 pm0 an0 cd0 ct0), sl0⟩)
    (c0 : PySem.W.codeIn K cd0 "NoKind.__init__" = true)
    (k0 : PySem.W.keepIn K (.ref f0) = true)
    (r0 : PySem.HandSPX.refsVE bm0 = true)
    (n0 : PySem.W.findIn K (.ref C0) "name" = some none)
    (ga0 : PySem.W.nsIn K mainGlobals "kind_of" = some (some (.ref g0)))
    (gl0 : K.lookup g0 = some ⟨goc0, god0, .func (PySem.W.fnOf "kind_of" "kind_of" (defArgs sKindOf) (defBody sKindOf) (defScope sKindOf) .none gkV0 gdc0 gpm0 gan0 gcd0 gct0), gsl0⟩)
    (gc0 : PySem.W.codeIn K gcd0 "kind_of" = true)
    (gk0 : PySem.W.keepIn K (.ref g0) = true)
    (ga1 : PySem.W.nsIn K mainGlobals "kind_names" = some (some (.ref g1)))
    (gl1 : K.lookup g1 = some ⟨goc1, god1, .func (PySem.W.fnOf "kind_names" "kind_names" (defArgs sKindNames) (defBody sKindNames) (defScope sKindNames) .none gkV1 gdc1 gpm1 gan1 gcd1 gct1), gsl1⟩)
    (gc1 : PySem.W.codeIn K gcd1 "kind_names" = true)
    (gk1 : PySem.W.keepIn K (.ref g1) = true)
    (ga2 : PySem.W.nsIn K mainGlobals "places_of" = some (some (.ref g2)))
    (gl2 : K.lookup g2 = some ⟨goc2, god2, .func (PySem.W.fnOf "places_of" "places_of" (defArgs sPlacesOf) (defBody sPlacesOf) (defScope sPlacesOf) .none gkV2 gdc2 gpm2 gan2 gcd2 gct2), gsl2⟩)
    (gc2 : PySem.W.codeIn K gcd2 "places_of" = true)
    (gk2 : PySem.W.keepIn K (.ref g2) = true)
    (ga3 : PySem.W.nsIn K mainGlobals "_is_dead" = some (some (.ref g3)))
    (gl3 : K.lookup g3 = some ⟨goc3, god3, .func (PySem.W.fnOf "_is_dead" "_is_dead" (defArgs sIsDead) (defBody sIsDead) (defScope sIsDead) .none gkV3 gdc3 gpm3 gan3 gcd3 gct3), gsl3⟩)
    (gc3 : PySem.W.codeIn K gcd3 "_is_dead" = true)
    (gk3 : PySem.W.keepIn K (.ref g3) = true)
    (ga4 : PySem.W.nsIn K mainGlobals "dead_grounds" = some (some (.ref g4)))
    (gl4 : K.lookup g4 = some ⟨goc4, god4, .func (PySem.W.fnOf "dead_grounds" "dead_grounds" (defArgs sDeadG) (defBody sDeadG) (defScope sDeadG) .none gkV4 gdc4 gpm4 gan4 gcd4 gct4), gsl4⟩)
    (gc4 : PySem.W.codeIn K gcd4 "dead_grounds" = true)
    (gk4 : PySem.W.keepIn K (.ref g4) = true)
    (ga5 : PySem.W.nsIn K mainGlobals "need_at" = some (some (.ref g5)))
    (gl5 : K.lookup g5 = some ⟨goc5, god5, .func (PySem.W.fnOf "need_at" "need_at" (defArgs sNeedAt) (defBody sNeedAt) (defScope sNeedAt) .none gkV5 gdc5 gpm5 gan5 gcd5 gct5), gsl5⟩)
    (gc5 : PySem.W.codeIn K gcd5 "need_at" = true)
    (gk5 : PySem.W.keepIn K (.ref g5) = true)
    (ga6 : PySem.W.nsIn K mainGlobals "_words_of" = some (some (.ref g6)))
    (gl6 : K.lookup g6 = some ⟨goc6, god6, .func (PySem.W.fnOf "_words_of" "_words_of" (defArgs sWordsOf) (defBody sWordsOf) (defScope sWordsOf) .none gkV6 gdc6 gpm6 gan6 gcd6 gct6), gsl6⟩)
    (gc6 : PySem.W.codeIn K gcd6 "_words_of" = true)
    (gk6 : PySem.W.keepIn K (.ref g6) = true)
    (ga7 : PySem.W.nsIn K mainGlobals "_number_at" = some (some (.ref g7)))
    (gl7 : K.lookup g7 = some ⟨goc7, god7, .func (PySem.W.fnOf "_number_at" "_number_at" (defArgs sNumAt) (defBody sNumAt) (defScope sNumAt) .none gkV7 gdc7 gpm7 gan7 gcd7 gct7), gsl7⟩)
    (gc7 : PySem.W.codeIn K gcd7 "_number_at" = true)
    (gk7 : PySem.W.keepIn K (.ref g7) = true)
    (ga8 : PySem.W.nsIn K mainGlobals "numbers_at" = some (some (.ref g8)))
    (gl8 : K.lookup g8 = some ⟨goc8, god8, .func (PySem.W.fnOf "numbers_at" "numbers_at" (defArgs sNumsAt) (defBody sNumsAt) (defScope sNumsAt) .none gkV8 gdc8 gpm8 gan8 gcd8 gct8), gsl8⟩)
    (gc8 : PySem.W.codeIn K gcd8 "numbers_at" = true)
    (gk8 : PySem.W.keepIn K (.ref g8) = true)
    (ga9 : PySem.W.nsIn K mainGlobals "_law_bag" = some (some (.ref g9)))
    (gl9 : K.lookup g9 = some ⟨goc9, god9, .func (PySem.W.fnOf "_law_bag" "_law_bag" (defArgs sBag) (defBody sBag) (defScope sBag) .none gkV9 gdc9 gpm9 gan9 gcd9 gct9), gsl9⟩)
    (gc9 : PySem.W.codeIn K gcd9 "_law_bag" = true)
    (gk9 : PySem.W.keepIn K (.ref g9) = true)
    (ga10 : PySem.W.nsIn K mainGlobals "_law_take" = some (some (.ref g10)))
    (gl10 : K.lookup g10 = some ⟨goc10, god10, .func (PySem.W.fnOf "_law_take" "_law_take" (defArgs sTake) (defBody sTake) (defScope sTake) .none gkV10 gdc10 gpm10 gan10 gcd10 gct10), gsl10⟩)
    (gc10 : PySem.W.codeIn K gcd10 "_law_take" = true)
    (gk10 : PySem.W.keepIn K (.ref g10) = true)
    (ga11 : PySem.W.nsIn K mainGlobals "_law_some" = some (some (.ref g11)))
    (gl11 : K.lookup g11 = some ⟨goc11, god11, .func (PySem.W.fnOf "_law_some" "_law_some" (defArgs sSome) (defBody sSome) (defScope sSome) .none gkV11 gdc11 gpm11 gan11 gcd11 gct11), gsl11⟩)
    (gc11 : PySem.W.codeIn K gcd11 "_law_some" = true)
    (gk11 : PySem.W.keepIn K (.ref g11) = true)
    (ga12 : PySem.W.nsIn K mainGlobals "_law_alike" = some (some (.ref g12)))
    (gl12 : K.lookup g12 = some ⟨goc12, god12, .func (PySem.W.fnOf "_law_alike" "_law_alike" (defArgs sAlike) (defBody sAlike) (defScope sAlike) .none gkV12 gdc12 gpm12 gan12 gcd12 gct12), gsl12⟩)
    (gc12 : PySem.W.codeIn K gcd12 "_law_alike" = true)
    (gk12 : PySem.W.keepIn K (.ref g12) = true)
    (ga13 : PySem.W.nsIn K mainGlobals "_law_mixed" = some (some (.ref g13)))
    (gl13 : K.lookup g13 = some ⟨goc13, god13, .func (PySem.W.fnOf "_law_mixed" "_law_mixed" (defArgs sMixed) (defBody sMixed) (defScope sMixed) .none gkV13 gdc13 gpm13 gan13 gcd13 gct13), gsl13⟩)
    (gc13 : PySem.W.codeIn K gcd13 "_law_mixed" = true)
    (gk13 : PySem.W.keepIn K (.ref g13) = true)
    (ga14 : PySem.W.nsIn K mainGlobals "_law_named" = some (some (.ref g14)))
    (gl14 : K.lookup g14 = some ⟨goc14, god14, .func (PySem.W.fnOf "_law_named" "_law_named" (defArgs sNamed) (defBody sNamed) (defScope sNamed) .none gkV14 gdc14 gpm14 gan14 gcd14 gct14), gsl14⟩)
    (gc14 : PySem.W.codeIn K gcd14 "_law_named" = true)
    (gk14 : PySem.W.keepIn K (.ref g14) = true)
    (ga15 : PySem.W.nsIn K mainGlobals "_law_numbers" = some (some (.ref g15)))
    (gl15 : K.lookup g15 = some ⟨goc15, god15, .func (PySem.W.fnOf "_law_numbers" "_law_numbers" (defArgs sNumbers) (defBody sNumbers) (defScope sNumbers) .none gkV15 gdc15 gpm15 gan15 gcd15 gct15), gsl15⟩)
    (gc15 : PySem.W.codeIn K gcd15 "_law_numbers" = true)
    (gk15 : PySem.W.keepIn K (.ref g15) = true)
    (ga16 : PySem.W.nsIn K mainGlobals "_law_need" = some (some (.ref g16)))
    (gl16 : K.lookup g16 = some ⟨goc16, god16, .func (PySem.W.fnOf "_law_need" "_law_need" (defArgs sNeed) (defBody sNeed) (defScope sNeed) .none gkV16 gdc16 gpm16 gan16 gcd16 gct16), gsl16⟩)
    (gc16 : PySem.W.codeIn K gcd16 "_law_need" = true)
    (gk16 : PySem.W.keepIn K (.ref g16) = true)
    (ga17 : PySem.W.nsIn K mainGlobals "_law_ground" = some (some (.ref g17)))
    (gl17 : K.lookup g17 = some ⟨goc17, god17, .func (PySem.W.fnOf "_law_ground" "_law_ground" (defArgs sGround) (defBody sGround) (defScope sGround) .none gkV17 gdc17 gpm17 gan17 gcd17 gct17), gsl17⟩)
    (gc17 : PySem.W.codeIn K gcd17 "_law_ground" = true)
    (gk17 : PySem.W.keepIn K (.ref g17) = true)
    (ga18 : PySem.W.nsIn K mainGlobals "_law_any_rulebook" = some (some (.ref g18)))
    (gl18 : K.lookup g18 = some ⟨goc18, god18, .func (PySem.W.fnOf "_law_any_rulebook" "_law_any_rulebook" (defArgs sAny) (defBody sAny) (defScope sAny) .none gkV18 gdc18 gpm18 gan18 gcd18 gct18), gsl18⟩)
    (gc18 : PySem.W.codeIn K gcd18 "_law_any_rulebook" = true)
    (gk18 : PySem.W.keepIn K (.ref g18) = true)
    (ga19 : PySem.W.nsIn K mainGlobals "_law_planted" = some (some (.ref g19)))
    (gl19 : K.lookup g19 = some ⟨goc19, god19, .func (PySem.W.fnOf "_law_planted" "_law_planted" (defArgs sPlanted) (defBody sPlanted) (defScope sPlanted) .none gkV19 gdc19 gpm19 gan19 gcd19 gct19), gsl19⟩)
    (gc19 : PySem.W.codeIn K gcd19 "_law_planted" = true)
    (gk19 : PySem.W.keepIn K (.ref g19) = true)
    (ga20 : PySem.W.nsIn K mainGlobals "_law_more_needs" = some (some (.ref g20)))
    (gl20 : K.lookup g20 = some ⟨goc20, god20, .func (PySem.W.fnOf "_law_more_needs" "_law_more_needs" (defArgs sMore) (defBody sMore) (defScope sMore) .none gkV20 gdc20 gpm20 gan20 gcd20 gct20), gsl20⟩)
    (gc20 : PySem.W.codeIn K gcd20 "_law_more_needs" = true)
    (gk20 : PySem.W.keepIn K (.ref g20) = true)
    (ga21 : PySem.W.nsIn K mainGlobals "_law_threaded" = some (some (.ref g21)))
    (gl21 : K.lookup g21 = some ⟨goc21, god21, .func (PySem.W.fnOf "_law_threaded" "_law_threaded" (defArgs sThreaded) (defBody sThreaded) (defScope sThreaded) .none gkV21 gdc21 gpm21 gan21 gcd21 gct21), gsl21⟩)
    (gc21 : PySem.W.codeIn K gcd21 "_law_threaded" = true)
    (gk21 : PySem.W.keepIn K (.ref g21) = true)
    (ga22 : PySem.W.nsIn K mainGlobals "_law_rulebook" = some (some (.ref g22)))
    (gl22 : K.lookup g22 = some ⟨goc22, god22, .func (PySem.W.fnOf "_law_rulebook" "_law_rulebook" (defArgs sRulebook) (defBody sRulebook) (defScope sRulebook) .none gkV22 gdc22 gpm22 gan22 gcd22 gct22), gsl22⟩)
    (gc22 : PySem.W.codeIn K gcd22 "_law_rulebook" = true)
    (gk22 : PySem.W.keepIn K (.ref g22) = true)
    (ga23 : PySem.W.nsIn K mainGlobals "_law_odd" = some (some (.ref g23)))
    (gl23 : K.lookup g23 = some ⟨goc23, god23, .func (PySem.W.fnOf "_law_odd" "_law_odd" (defArgs sOdd) (defBody sOdd) (defScope sOdd) .none gkV23 gdc23 gpm23 gan23 gcd23 gct23), gsl23⟩)
    (gc23 : PySem.W.codeIn K gcd23 "_law_odd" = true)
    (gk23 : PySem.W.keepIn K (.ref g23) = true)
    (ga24 : PySem.W.nsIn K mainGlobals "_law_kinds" = some (some (.ref g24)))
    (gl24 : K.lookup g24 = some ⟨goc24, god24, .func (PySem.W.fnOf "_law_kinds" "_law_kinds" (defArgs sKinds) (defBody sKinds) (defScope sKinds) .none gkV24 gdc24 gpm24 gan24 gcd24 gct24), gsl24⟩)
    (gc24 : PySem.W.codeIn K gcd24 "_law_kinds" = true)
    (gk24 : PySem.W.keepIn K (.ref g24) = true)
    (ga25 : PySem.W.nsIn K mainGlobals "_law_places" = some (some (.ref g25)))
    (gl25 : K.lookup g25 = some ⟨goc25, god25, .func (PySem.W.fnOf "_law_places" "_law_places" (defArgs sPlaces) (defBody sPlaces) (defScope sPlaces) .none gkV25 gdc25 gpm25 gan25 gcd25 gct25), gsl25⟩)
    (gc25 : PySem.W.codeIn K gcd25 "_law_places" = true)
    (gk25 : PySem.W.keepIn K (.ref g25) = true)
    (ga26 : PySem.W.nsIn K mainGlobals "_law_dead" = some (some (.ref g26)))
    (gl26 : K.lookup g26 = some ⟨goc26, god26, .func (PySem.W.fnOf "_law_dead" "_law_dead" (defArgs sDead) (defBody sDead) (defScope sDead) .none gkV26 gdc26 gpm26 gan26 gcd26 gct26), gsl26⟩)
    (gc26 : PySem.W.codeIn K gcd26 "_law_dead" = true)
    (gk26 : PySem.W.keepIn K (.ref g26) = true)
    (ga27 : PySem.W.nsIn K mainGlobals "_law_dials" = some (some (.ref g27)))
    (gl27 : K.lookup g27 = some ⟨goc27, god27, .func (PySem.W.fnOf "_law_dials" "_law_dials" (defArgs sDials) (defBody sDials) (defScope sDials) .none gkV27 gdc27 gpm27 gan27 gcd27 gct27), gsl27⟩)
    (gc27 : PySem.W.codeIn K gcd27 "_law_dials" = true)
    (gk27 : PySem.W.keepIn K (.ref g27) = true)
    (ga28 : PySem.W.nsIn K mainGlobals "_law_number_at" = some (some (.ref g28)))
    (gl28 : K.lookup g28 = some ⟨goc28, god28, .func (PySem.W.fnOf "_law_number_at" "_law_number_at" (defArgs sNumberAt) (defBody sNumberAt) (defScope sNumberAt) .none gkV28 gdc28 gpm28 gan28 gcd28 gct28), gsl28⟩)
    (gc28 : PySem.W.codeIn K gcd28 "_law_number_at" = true)
    (gk28 : PySem.W.keepIn K (.ref g28) = true)
    (ga29 : PySem.W.nsIn K mainGlobals "_law_heard_kind" = some (some (.ref g29)))
    (gl29 : K.lookup g29 = some ⟨goc29, god29, .func (PySem.W.fnOf "_law_heard_kind" "_law_heard_kind" (defArgs sHeard) (defBody sHeard) (defScope sHeard) .none gkV29 gdc29 gpm29 gan29 gcd29 gct29), gsl29⟩)
    (gc29 : PySem.W.codeIn K gcd29 "_law_heard_kind" = true)
    (gk29 : PySem.W.keepIn K (.ref g29) = true)
    (ga30 : PySem.W.nsIn K mainGlobals "_law_is_book_told" = some (some (.ref g30)))
    (gl30 : K.lookup g30 = some ⟨goc30, god30, .func (PySem.W.fnOf "_law_is_book_told" "_law_is_book_told" (defArgs sTold) (defBody sTold) (defScope sTold) .none gkV30 gdc30 gpm30 gan30 gcd30 gct30), gsl30⟩)
    (gc30 : PySem.W.codeIn K gcd30 "_law_is_book_told" = true)
    (gk30 : PySem.W.keepIn K (.ref g30) = true)
    (ga31 : PySem.W.nsIn K mainGlobals "law" = some (some (.ref g31)))
    (gl31 : K.lookup g31 = some ⟨goc31, god31, .func (PySem.W.fnOf "law" "law" (defArgs sLaw) (defBody sLaw) (defScope sLaw) .none gkV31 gdc31 gpm31 gan31 gcd31 gct31), gsl31⟩)
    (gc31 : PySem.W.codeIn K gcd31 "law" = true)
    (gk31 : PySem.W.keepIn K (.ref g31) = true)
    (B1 : clB K C0 = true)
    (B2 : wrB K C0 "NoKind" = true)
    (B3 : (PySem.W.exmOne K (.ref C0) (.ref C0) == some true) = true)
    (B4 : wordsB Ri ["tell", "most"] = true)
    (B5 : wordsB Wi ["after", "tell", "most"] = true) :
    ∃ fd : FuncData, (∀ (s : Shared) (u : Value), BindsTo s fd ⟨[u], []⟩ [("script", u)]) ∧ ∀ base : Heap, K.In base → base.Ns mainGlobals mg → FnG true P w K mg base CX0 8 fa fd ["script"] (spLaw K) := by
  have e := hfa.symm.trans (PySem.W.mg_of X Gm ga31)
  cases e
  have TB : TxtB mg := ⟨PySem.W.mg_none_of X Gm babs, PySem.W.mg_none_of X Gm blen, PySem.W.mg_none_of X Gm bint, PySem.W.mg_none_of X Gm brepr, PySem.W.mg_none_of X Gm bisinstance, PySem.W.mg_none_of X Gm brange, PySem.W.mg_none_of X Gm blist, PySem.W.mg_none_of X Gm bValueError⟩
  have T : TxtC mg := ⟨TB, PySem.W.mg_none_of X Gm btuple, PySem.W.mg_none_of X Gm bsorted, PySem.W.mg_none_of X Gm bset, PySem.W.mg_none_of X Gm bdict⟩
  have hen : mg "enumerate" = none := PySem.W.mg_none_of X Gm benumerate
  have hany : mg "any" = none := PySem.W.mg_none_of X Gm bany
  have hstr : mg "str" = none := PySem.W.mg_none_of X Gm bstr
  have F0 := clB_ok B1
  have U0 := fun_mk (st := sI0) l0 c0 k0
  have V0 := fun_mk (st := sKindOf) gl0 gc0 gk0
  have V1 := fun_mk (st := sKindNames) gl1 gc1 gk1
  have V2 := fun_mk (st := sPlacesOf) gl2 gc2 gk2
  have V3 := fun_mk (st := sIsDead) gl3 gc3 gk3
  have V4 := fun_mk (st := sDeadG) gl4 gc4 gk4
  have V5 := fun_mk (st := sNeedAt) gl5 gc5 gk5
  have V6 := fun_mk (st := sWordsOf) gl6 gc6 gk6
  have V7 := fun_mk (st := sNumAt) gl7 gc7 gk7
  have V8 := fun_mk (st := sNumsAt) gl8 gc8 gk8
  have V9 := fun_mk (st := sBag) gl9 gc9 gk9
  have V10 := fun_mk (st := sTake) gl10 gc10 gk10
  have V11 := fun_mk (st := sSome) gl11 gc11 gk11
  have V12 := fun_mk (st := sAlike) gl12 gc12 gk12
  have V13 := fun_mk (st := sMixed) gl13 gc13 gk13
  have V14 := fun_mk (st := sNamed) gl14 gc14 gk14
  have V15 := fun_mk (st := sNumbers) gl15 gc15 gk15
  have V16 := fun_mk (st := sNeed) gl16 gc16 gk16
  have V17 := fun_mk (st := sGround) gl17 gc17 gk17
  have V18 := fun_mk (st := sAny) gl18 gc18 gk18
  have V19 := fun_mk (st := sPlanted) gl19 gc19 gk19
  have V20 := fun_mk (st := sMore) gl20 gc20 gk20
  have V21 := fun_mk (st := sThreaded) gl21 gc21 gk21
  have V22 := fun_mk (st := sRulebook) gl22 gc22 gk22
  have V23 := fun_mk (st := sOdd) gl23 gc23 gk23
  have V24 := fun_mk (st := sKinds) gl24 gc24 gk24
  have V25 := fun_mk (st := sPlaces) gl25 gc25 gk25
  have V26 := fun_mk (st := sDead) gl26 gc26 gk26
  have V27 := fun_mk (st := sDials) gl27 gc27 gk27
  have V28 := fun_mk (st := sNumberAt) gl28 gc28 gk28
  have V29 := fun_mk (st := sHeard) gl29 gc29 gk29
  have V30 := fun_mk (st := sTold) gl30 gc30 gk30
  have V31 := fun_mk (st := sLaw) gl31 gc31 gk31
  have D0 := U0.binds (ps := ["self", "name"]) fun _ _ _ _ _ _ us hl => match us, hl with | [_, _], _ => rfl
  have W0 := V0.binds (ps := ["rulebook", "name"]) fun _ _ _ _ _ _ us hl => match us, hl with | [_, _], _ => rfl
  have W1 := V1.binds (ps := ["rulebook"]) fun _ _ _ _ _ _ us hl => match us, hl with | [_], _ => rfl
  have W2 := V2.binds (ps := ["rulebook"]) fun _ _ _ _ _ _ us hl => match us, hl with | [_], _ => rfl
  have W3 := V3.binds (ps := ["rulebook", "ground"]) fun _ _ _ _ _ _ us hl => match us, hl with | [_, _], _ => rfl
  have W4 := V4.binds (ps := ["rulebook"]) fun _ _ _ _ _ _ us hl => match us, hl with | [_], _ => rfl
  have W5 := V5.binds (ps := ["rulebook", "place"]) fun _ _ _ _ _ _ us hl => match us, hl with | [_, _], _ => rfl
  have W6 := V6.binds (ps := ["need"]) fun _ _ _ _ _ _ us hl => match us, hl with | [_], _ => rfl
  have W7 := V7.binds (ps := ["rulebook", "dial"]) fun _ _ _ _ _ _ us hl => match us, hl with | [_, _], _ => rfl
  have W8 := V8.binds (ps := ["rulebook", "dials"]) fun _ _ _ _ _ _ us hl => match us, hl with | [_, _], _ => rfl
  have W9 := V9.binds (ps := ["script"]) fun _ _ _ _ _ _ us hl => match us, hl with | [_], _ => rfl
  have W10 := V10.binds (ps := ["bag", "upto"]) fun _ _ _ _ _ _ us hl => match us, hl with | [_, _], _ => rfl
  have W11 := V11.binds (ps := ["bag", "things"]) fun _ _ _ _ _ _ us hl => match us, hl with | [_, _], _ => rfl
  have W12 := V12.binds (ps := ["found", "due"]) fun _ _ _ _ _ _ us hl => match us, hl with | [_, _], _ => rfl
  have W13 := V13.binds (ps := ["bag", "things"]) fun _ _ _ _ _ _ us hl => match us, hl with | [_, _], _ => rfl
  have W14 := V14.binds (ps := ["bag", "many"]) fun _ _ _ _ _ _ us hl => match us, hl with | [_, _], _ => rfl
  have W15 := V15.binds (ps := ["bag"]) fun _ _ _ _ _ _ us hl => match us, hl with | [_], _ => rfl
  have W16 := V16.binds (ps := ["bag", "rows", "names"]) fun _ _ _ _ _ _ us hl => match us, hl with | [_, _, _], _ => rfl
  have W17 := V17.binds (ps := ["bag", "rows", "names"]) fun _ _ _ _ _ _ us hl => match us, hl with | [_, _, _], _ => rfl
  have W18 := V18.binds (ps := ["bag", "kinds", "rows"]) fun _ _ _ _ _ _ us hl => match us, hl with | [_, _, _], _ => rfl
  have W19 := V19.binds (ps := ["bag", "sort", "kinds"]) fun _ _ _ _ _ _ us hl => match us, hl with | [_, _, _], _ => rfl
  have W20 := V20.binds (ps := ["bag", "sort", "rows"]) fun _ _ _ _ _ _ us hl => match us, hl with | [_, _, _], _ => rfl
  have W21 := V21.binds (ps := ["bag", "kinds"]) fun _ _ _ _ _ _ us hl => match us, hl with | [_, _], _ => rfl
  have W22 := V22.binds (ps := ["bag", "kinds"]) fun _ _ _ _ _ _ us hl => match us, hl with | [_, _], _ => rfl
  have W23 := V23.binds (ps := ["bag"]) fun _ _ _ _ _ _ us hl => match us, hl with | [_], _ => rfl
  have W24 := V24.binds (ps := ["rulebook"]) fun _ _ _ _ _ _ us hl => match us, hl with | [_], _ => rfl
  have W25 := V25.binds (ps := ["rulebook"]) fun _ _ _ _ _ _ us hl => match us, hl with | [_], _ => rfl
  have W26 := V26.binds (ps := ["rulebook"]) fun _ _ _ _ _ _ us hl => match us, hl with | [_], _ => rfl
  have W27 := V27.binds (ps := ["rulebook"]) fun _ _ _ _ _ _ us hl => match us, hl with | [_], _ => rfl
  have W28 := V28.binds (ps := ["rulebook", "dial"]) fun _ _ _ _ _ _ us hl => match us, hl with | [_, _], _ => rfl
  have W29 := V29.binds (ps := ["rulebook", "name"]) fun _ _ _ _ _ _ us hl => match us, hl with | [_, _], _ => rfl
  have W30 := V30.binds (ps := ["bag", "rulebook"]) fun _ _ _ _ _ _ us hl => match us, hl with | [_, _], _ => rfl
  have W31 := V31.binds (ps := ["script"]) fun _ _ _ _ _ _ us hl => match us, hl with | [_], _ => rfl
  have O0 : OexC K C0 := oexC_of F0 xL0 r0
  have wr : WrK K C0 "NoKind" := wrB_ok B2 F0.exC
  refine ⟨PySem.W.fnOf "law" "law" (defArgs sLaw) (defBody sLaw) (defScope sLaw) .none gkV31 gdc31 gpm31 gan31 gcd31 gct31, fun s u => .of_eq rfl, fun base _ _ => ?_⟩
  have NK : NkT P w K mg base C0 f0 _ := ⟨PySem.W.mg_of X Gm a0, O0, F0.xf, n0, i0, t0, ok_rz1 U0 scI0 rfl (by decide) (by decide), D0, beq_iff_eq.mp B3⟩
  have WD : WdT K mg Ra Wa := ⟨PySem.W.mg_of X Gm aR, PySem.W.mg_of X Gm aW, ⟨_, lR, rfl, rfl⟩, ⟨_, lW, rfl, rfl⟩, words_sq lR B4, words_sq lW B5⟩
  have Cko : Ct P w K mg base "kind_of" 1 ["rulebook", "name"] spKindOf0 g0 _ := ⟨ok_kindOf0 V0, PySem.W.mg_of X Gm ga0, gk0, W0⟩
  have Ckn : Ct P w K mg base "kind_names" 1 ["rulebook"] spKindNames g1 _ := ⟨ok_kindNames V1, PySem.W.mg_of X Gm ga1, gk1, W1⟩
  have Cpo : Ct P w K mg base "places_of" 1 ["rulebook"] spPlaces g2 _ := ⟨ok_placesOf V2 T hen, PySem.W.mg_of X Gm ga2, gk2, W2⟩
  have Cid : Ct P w K mg base "_is_dead" 2 ["rulebook", "ground"] spIsDead g3 _ := ⟨ok_isDead V3 hany Cko, PySem.W.mg_of X Gm ga3, gk3, W3⟩
  have Cdg : Ct P w K mg base "dead_grounds" 3 ["rulebook"] spDeadG g4 _ := ⟨ok_deadG V4 hen Cid, PySem.W.mg_of X Gm ga4, gk4, W4⟩
  have Cna : Ct P w K mg base "need_at" 2 ["rulebook", "place"] spNeedAt g5 _ := ⟨ok_needAt V5 Cko, PySem.W.mg_of X Gm ga5, gk5, W5⟩
  have Cwo : Ct P w K mg base "_words_of" 1 ["need"] (spWordsOf Ra Wa) g6 _ := ⟨ok_wordsOf V6 WD, PySem.W.mg_of X Gm ga6, gk6, W6⟩
  have Cnu : Ct P w K mg base "_number_at" 3 ["rulebook", "dial"] spNumAt g7 _ := ⟨ok_numAt V7 T hstr Cko Cna Cwo WD, PySem.W.mg_of X Gm ga7, gk7, W7⟩
  have Cns : Ct P w K mg base "numbers_at" 4 ["rulebook", "dials"] spNumsAt g8 _ := ⟨ok_numsAt V8 T Cnu, PySem.W.mg_of X Gm ga8, gk8, W8⟩
  have Cbg : Ct P w K mg base "_law_bag" 1 ["script"] (spBag K) g9 _ := ⟨ok_bag V9 TB, PySem.W.mg_of X Gm ga9, gk9, W9⟩
  have Ctk : Ct P w K mg base "_law_take" 1 ["bag", "upto"] spTake g10 _ := ⟨ok_take V10 TB, PySem.W.mg_of X Gm ga10, gk10, W10⟩
  have Cso : Ct P w K mg base "_law_some" 2 ["bag", "things"] spSome g11 _ := ⟨ok_some V11 TB Ctk, PySem.W.mg_of X Gm ga11, gk11, W11⟩
  have Cs2 : Ct P w K mg base "_law_some" 2 ["bag", "things"] spSome2 g11 _ := ⟨ok_some2 V11 TB Ctk, PySem.W.mg_of X Gm ga11, gk11, W11⟩
  have Cmx : Ct P w K mg base "_law_mixed" 2 ["bag", "things"] spMixed g13 _ := ⟨ok_mixed V13 TB Ctk, PySem.W.mg_of X Gm ga13, gk13, W13⟩
  have Cnm : Ct P w K mg base "_law_named" 3 ["bag", "many"] spNamed g14 _ := ⟨ok_named V14 T Cmx, PySem.W.mg_of X Gm ga14, gk14, W14⟩
  have Cnb : Ct P w K mg base "_law_numbers" 3 ["bag"] spNumbers g15 _ := ⟨ok_numbers V15 Cs2 Ctk, PySem.W.mg_of X Gm ga15, gk15, W15⟩
  have Cnd : Ct P w K mg base "_law_need" 4 ["bag", "rows", "names"] spNeed g16 _ := ⟨ok_need V16 Cnb Cs2 Ctk, PySem.W.mg_of X Gm ga16, gk16, W16⟩
  have Cgr : Ct P w K mg base "_law_ground" 5 ["bag", "rows", "names"] spGround g17 _ := ⟨ok_ground V17 T Cnd Cs2, PySem.W.mg_of X Gm ga17, gk17, W17⟩
  have Can : Ct P w K mg base "_law_any_rulebook" 6 ["bag", "kinds", "rows"] spAny g18 _ := ⟨ok_any V18 T Cnm Cgr Cs2 Ctk, PySem.W.mg_of X Gm ga18, gk18, W18⟩
  have Cmo : Ct P w K mg base "_law_more_needs" 3 ["bag", "sort", "rows"] spMore g20 _ := ⟨ok_more V20 Cs2 Ctk, PySem.W.mg_of X Gm ga20, gk20, W20⟩
  have Cpl : Ct P w K mg base "_law_planted" 6 ["bag", "sort", "kinds"] spPl g19 _ := ⟨ok_pl V19 T Cnm Cgr Cmo Cs2 Ctk, PySem.W.mg_of X Gm ga19, gk19, W19⟩
  have Cth : Ct P w K mg base "_law_threaded" 6 ["bag", "kinds"] spTh g21 _ := ⟨ok_th V21 T Cnm Cmx Cs2 Ctk, PySem.W.mg_of X Gm ga21, gk21, W21⟩
  have Crb : Ct P w K mg base "_law_rulebook" 7 ["bag", "kinds"] spRb g22 _ := ⟨ok_rb V22 T Cmx Cs2 Ctk Can Cpl Cth, PySem.W.mg_of X Gm ga22, gk22, W22⟩
  have Cod : Ct P w K mg base "_law_odd" 3 ["bag"] (spOdd 0 NB) g23 _ := ⟨ok_odd V23 Cso, PySem.W.mg_of X Gm ga23, gk23, W23⟩
  have Cks : Ct P w K mg base "_law_kinds" 1 ["rulebook"] spKinds g24 _ := ⟨ok_kinds V24 T, PySem.W.mg_of X Gm ga24, gk24, W24⟩
  have Cps : Ct P w K mg base "_law_places" 1 ["rulebook"] spPlaces g25 _ := ⟨ok_places V25 T, PySem.W.mg_of X Gm ga25, gk25, W25⟩
  have Cdd : Ct P w K mg base "_law_dead" 2 ["rulebook"] spDeadG g26 _ := ⟨ok_dead V26 T hen Cks, PySem.W.mg_of X Gm ga26, gk26, W26⟩
  have Cdl : Ct P w K mg base "_law_dials" 2 ["rulebook"] spDials g27 _ := ⟨ok_dials V27 T Cps Cks, PySem.W.mg_of X Gm ga27, gk27, W27⟩
  have Cna2 : Ct P w K mg base "_law_number_at" 2 ["rulebook", "dial"] spNumberAt g28 _ := ⟨ok_numberAt V28 T hstr Cks, PySem.W.mg_of X Gm ga28, gk28, W28⟩
  have GKX : FnOk P w K mg base (L2.CX P w) 3 g0 _ ["rulebook", "name"] (spKindX C0) := ok_kindX V0 NK
  have Chd : Ct P w K mg base "_law_heard_kind" 4 ["rulebook", "name"] spHeard g29 _ := ⟨ok_heard V29 NK (PySem.W.mg_of X Gm ga0) gk0 W0 GKX, PySem.W.mg_of X Gm ga29, gk29, W29⟩
  have Z : ToldT P w K mg base C0 0 "NoKind" NB := ⟨T, hstr, NB_long, wr, ⟨_, _, Ckn⟩, ⟨_, _, Cpo⟩, ⟨_, _, Cdg⟩, ⟨_, _, Cks⟩, ⟨_, _, Cps⟩, ⟨_, _, Cdd⟩, ⟨_, _, Cna⟩, ⟨_, _, Cmx⟩, ⟨_, _, Cdl⟩, ⟨_, _, Ctk⟩, ⟨_, _, Cns⟩, ⟨_, _, Cna2⟩, ⟨_, _, Cod⟩, ⟨_, _, Chd⟩,
    ⟨_, _, ok_alikeD V12 TB wr, ok_alikeP V12 TB wr, PySem.W.mg_of X Gm ga12, gk12, W12⟩⟩
  have Ctd : GnG true P w K mg base "_law_is_book_told" 5 ["bag", "rulebook"] spTold g30 _ := ⟨ok_told V30 Z, PySem.W.mg_of X Gm ga30, gk30, W30⟩
  exact ok_law V31 T Cbg Crb Ctd
end
end KaG
open PySem PySem.W PyProof.Rows
set_option maxRecDepth 100000 in
set_option maxHeartbeats 0 in
theorem PySem.Challenge.cw_goneyet_k12_rulebooks_asked_holds : PySem.Challenge.rw_goneyet_k12_rulebooks_asked.Holds := by
  w_on; o_law; k_head; (case hw => w_witness2)
  k_fill
  refine KaG.walk_G (l := PySem.Challenge.rw_goneyet_k12_rulebooks_asked) (n := 63) (k := 8) (x := "script") (sp := fun K => KaG.spLaw K) rfl (by decide) rfl ⟨rfl, by decide, by decide⟩ (fun w h Y => PySem.W.kIn_of Y) ?F ?S
  case S =>
    intro K H a ns hn hO hS
    exact ⟨a, ns, rfl, hS, hn, fun _ => rfl⟩
  case F =>
    intro w mg fa h KX G hmg
    refine' KaG.all_mk KX G hmg ?babs ?blen ?bint ?brepr ?bisinstance ?brange ?blist ?bValueError ?btuple ?bsorted ?bset ?bdict ?benumerate ?bany ?bstr ?a0 ?aR ?aW ?lR ?lW ?xL0 ?i0 ?t0 ?l0 ?c0 ?k0 ?r0 ?n0 ?ga0 ?gl0 ?gc0 ?gk0 ?ga1 ?gl1 ?gc1 ?gk1 ?ga2 ?gl2 ?gc2 ?gk2 ?ga3 ?gl3 ?gc3 ?gk3 ?ga4 ?gl4 ?gc4 ?gk4 ?ga5 ?gl5 ?gc5 ?gk5 ?ga6 ?gl6 ?gc6 ?gk6 ?ga7 ?gl7 ?gc7 ?gk7 ?ga8 ?gl8 ?gc8 ?gk8 ?ga9 ?gl9 ?gc9 ?gk9 ?ga10 ?gl10 ?gc10 ?gk10 ?ga11 ?gl11 ?gc11 ?gk11 ?ga12 ?gl12 ?gc12 ?gk12 ?ga13 ?gl13 ?gc13 ?gk13 ?ga14 ?gl14 ?gc14 ?gk14 ?ga15 ?gl15 ?gc15 ?gk15 ?ga16 ?gl16 ?gc16 ?gk16 ?ga17 ?gl17 ?gc17 ?gk17 ?ga18 ?gl18 ?gc18 ?gk18 ?ga19 ?gl19 ?gc19 ?gk19 ?ga20 ?gl20 ?gc20 ?gk20 ?ga21 ?gl21 ?gc21 ?gk21 ?ga22 ?gl22 ?gc22 ?gk22 ?ga23 ?gl23 ?gc23 ?gk23 ?ga24 ?gl24 ?gc24 ?gk24 ?ga25 ?gl25 ?gc25 ?gk25 ?ga26 ?gl26 ?gc26 ?gk26 ?ga27 ?gl27 ?gc27 ?gk27 ?ga28 ?gl28 ?gc28 ?gk28 ?ga29 ?gl29 ?gc29 ?gk29 ?ga30 ?gl30 ?gc30 ?gk30 ?ga31 ?gl31 ?gc31 ?gk31 ?B1 ?B2 ?B3 ?B4 ?B5
    (case babs => k_is)
    (case blen => k_is)
    (case bint => k_is)
    (case brepr => k_is)
    (case bisinstance => k_is)
    (case brange => k_is)
    (case blist => k_is)
    (case bValueError => k_is)
    (case btuple => k_is)
    (case bsorted => k_is)
    (case bset => k_is)
    (case bdict => k_is)
    (case benumerate => k_is)
    (case bany => k_is)
    (case bstr => k_is)
    (case a0 => k_is)
    (case aR => k_is)
    (case aW => k_is)
    (case lR => k_is)
    (case lW => k_is)
    (case xL0 => k_is)
    (case i0 => k_is)
    (case t0 => k_is)
    (case l0 => k_is)
    (case c0 => k_is)
    (case k0 => k_is)
    (case r0 => decide +kernel)
    (case n0 => k_is)
    (case ga0 => k_is)
    (case gl0 => k_is)
    (case gc0 => k_is)
    (case gk0 => k_is)
    (case ga1 => k_is)
    (case gl1 => k_is)
    (case gc1 => k_is)
    (case gk1 => k_is)
    (case ga2 => k_is)
    (case gl2 => k_is)
    (case gc2 => k_is)
    (case gk2 => k_is)
    (case ga3 => k_is)
    (case gl3 => k_is)
    (case gc3 => k_is)
    (case gk3 => k_is)
    (case ga4 => k_is)
    (case gl4 => k_is)
    (case gc4 => k_is)
    (case gk4 => k_is)
    (case ga5 => k_is)
    (case gl5 => k_is)
    (case gc5 => k_is)
    (case gk5 => k_is)
    (case ga6 => k_is)
    (case gl6 => k_is)
    (case gc6 => k_is)
    (case gk6 => k_is)
    (case ga7 => k_is)
    (case gl7 => k_is)
    (case gc7 => k_is)
    (case gk7 => k_is)
    (case ga8 => k_is)
    (case gl8 => k_is)
    (case gc8 => k_is)
    (case gk8 => k_is)
    (case ga9 => k_is)
    (case gl9 => k_is)
    (case gc9 => k_is)
    (case gk9 => k_is)
    (case ga10 => k_is)
    (case gl10 => k_is)
    (case gc10 => k_is)
    (case gk10 => k_is)
    (case ga11 => k_is)
    (case gl11 => k_is)
    (case gc11 => k_is)
    (case gk11 => k_is)
    (case ga12 => k_is)
    (case gl12 => k_is)
    (case gc12 => k_is)
    (case gk12 => k_is)
    (case ga13 => k_is)
    (case gl13 => k_is)
    (case gc13 => k_is)
    (case gk13 => k_is)
    (case ga14 => k_is)
    (case gl14 => k_is)
    (case gc14 => k_is)
    (case gk14 => k_is)
    (case ga15 => k_is)
    (case gl15 => k_is)
    (case gc15 => k_is)
    (case gk15 => k_is)
    (case ga16 => k_is)
    (case gl16 => k_is)
    (case gc16 => k_is)
    (case gk16 => k_is)
    (case ga17 => k_is)
    (case gl17 => k_is)
    (case gc17 => k_is)
    (case gk17 => k_is)
    (case ga18 => k_is)
    (case gl18 => k_is)
    (case gc18 => k_is)
    (case gk18 => k_is)
    (case ga19 => k_is)
    (case gl19 => k_is)
    (case gc19 => k_is)
    (case gk19 => k_is)
    (case ga20 => k_is)
    (case gl20 => k_is)
    (case gc20 => k_is)
    (case gk20 => k_is)
    (case ga21 => k_is)
    (case gl21 => k_is)
    (case gc21 => k_is)
    (case gk21 => k_is)
    (case ga22 => k_is)
    (case gl22 => k_is)
    (case gc22 => k_is)
    (case gk22 => k_is)
    (case ga23 => k_is)
    (case gl23 => k_is)
    (case gc23 => k_is)
    (case gk23 => k_is)
    (case ga24 => k_is)
    (case gl24 => k_is)
    (case gc24 => k_is)
    (case gk24 => k_is)
    (case ga25 => k_is)
    (case gl25 => k_is)
    (case gc25 => k_is)
    (case gk25 => k_is)
    (case ga26 => k_is)
    (case gl26 => k_is)
    (case gc26 => k_is)
    (case gk26 => k_is)
    (case ga27 => k_is)
    (case gl27 => k_is)
    (case gc27 => k_is)
    (case gk27 => k_is)
    (case ga28 => k_is)
    (case gl28 => k_is)
    (case gc28 => k_is)
    (case gk28 => k_is)
    (case ga29 => k_is)
    (case gl29 => k_is)
    (case gc29 => k_is)
    (case gk29 => k_is)
    (case ga30 => k_is)
    (case gl30 => k_is)
    (case gc30 => k_is)
    (case gk30 => k_is)
    (case ga31 => k_is)
    (case gl31 => k_is)
    (case gc31 => k_is)
    (case gk31 => k_is)
    (case B1 => first | kernel_rfl | decide +kernel)
    (case B2 => first | kernel_rfl | decide +kernel)
    (case B3 => first | kernel_rfl | decide +kernel)
    (case B4 => first | kernel_rfl | decide +kernel)
    (case B5 => first | kernel_rfl | decide +kernel)
