import PyProof.Rows.All
import Wide.All
import OpenK.AllK
import Wide.FinOn
import PyProof.ExcRepr
import PyProof.ReprReads
import KE.KExcStr
import HandS.ForExc
import HandS.ExcInit
import HandS.ForMost
import HandS.Wide
import HandS.Flow
import PyProof.InstEq
import PyProof.CallFns
import PyProof.ReprRoads
import HandS.DeepEq
import HandS.ExcField
import HandS.ExcIs
import HandS.IsInst
import HandS.ExcValue
import HandS.Style
import HandS.RaiseMore
import PySem.Challenge.RW_goneyet_k11_errors_apart
set_option Elab.async false
set_option linter.all false
set_option maxRecDepth 100000
set_option maxHeartbeats 2000000
namespace KaX
open PySem PySem.Builtin PySem.Builtin.BaseException
open PySem.W (Looks Frag findIn subIn looks_findIn looks_subIn clsIn)
section
variable {prog : Program} {w : World} {A : Around} {E : Value → Shared → Prop} {s : Shared} {K : Frag} {C e t0 : Addr}

/-- the class's own name, off the written part -/
theorem cdat {M : Model} {nm : Str} {cd : ClassData} (X : K.In s.heap) (hc : clsIn K C = some cd) (hn : cd.name = nm) {Q : String → Shared → Prop} (q : Q nm.toString s) :
    wpAny M A (typeNameWhole (.ref C)) Q E s := by
  unfold clsIn at hc
  split at hc
  · rename_i c' d' cd' sl' ho
    cases hc
    have hl := X _ _ ho
    unfold typeNameWhole classData
    refine wpAny_bind (wpAny_bind (wpAny_load hl ?_))
    subst hn
    exact wpAny_pure (wpAny_pure q)
  · cases hc

theorem tnm {M : Model} {nm : Str} {cd : ClassData} (x : ExcC K C e t0 s.heap) (hc : clsIn K C = some cd) (hn : cd.name = nm) {Q : String → Shared → Prop} (q : Q nm.toString s) :
    wpAny M A (typeNameOfWhole (.ref e)) Q E s := by
  unfold typeNameOfWhole shownTypeOf
  refine wpAny_bind (wpAny_bind (x.LT.here ?_))
  have hne : ((Value.ref C) == Value.type "builtin_function_or_method") = false := rfl
  rw [hne]
  simp only [Bool.false_eq_true, if_false]
  exact wpAny_pure (cdat x.1 hc hn q)

theorem bra {nm : Str} {cd : ClassData} {N T : Str} {u0 : Value} {d0 : Nat} {as : List Addr} {h₀ : Heap} {g : List Code} (b : Nat) (x : ExcC K C e t0 s.heap) (hc : clsIn K C = some cd) (hn : cd.name = nm) (hN : Str.ofString ((nm.toString.cutAt '.').getLastD "") = N)
    (ht : s.heap.TupAt t0 [u0]) (hu0 : ReprK prog w as h₀ d0 u0 T) (hg : A.guards = some g) (hcl : ∀ b ∈ as, Clear g b) (hu : A.units + d0 < cLine) (hk : ∀ b o, h₀.get? b = some o → s.heap.get? b = some o) {Q : Fin → Shared → Prop}
    (hq : ∀ u h' tk, (∀ b o, s.heap.get? b = some o → h'.get? b = some o) → Q (.done (.ret (.str (N ++ Str.ofString "(" ++ T ++ Str.ofString ")") u))) { s with heap := h', toks := tk })
    (hsz : b + (N ++ Str.ofString "(" ++ T ++ Str.ofString ")").length ≤ sizeLine) :
    wpAny (model prog w) A (bexcReprAt b ⟨[.ref e], []⟩) Q E s := by
  have e1 := hsz
  have hsz2 : (N ++ Str.ofString "(" ++ T ++ Str.ofString ")").length ≤ sizeLine := Nat.le_trans (Nat.le_add_left _ b) e1
  have eP : (Str.ofString "(").length = 1 := by rw [ofString_length]; rfl
  rw [strLen_append, strLen_append, strLen_append, eP] at e1
  have hpile : b + (N.length + 1) + T.length ≤ sizeLine := by omega
  unfold bexcReprAt
  refine wpAny_bind (wpAny_of_eq (a := ((Value.ref e : Value), ([] : List Value))) (by first | rfl | (simp only [slotArgs]; rfl)) ?_)
  refine wpAny_bind (tnm x hc hn ?_)
  refine wpAny_bind (bexcArgs_C x ht ?_)
  dsimp only
  rw [hN]
  refine wpAny_bind (wpAny_rule ?_)
  refine wpAny_bind (hu0 _ hpile A g E s _ hg hcl hu hk (fun h' tk' hk' => ?_))
  unfold retStr
  refine wpAny_bind (wpAny_mkStr (wpAny_pure ?_) hsz2)
  exact hq _ _ _ hk'
end
end KaX


set_option maxRecDepth 100000
set_option maxHeartbeats 2000000
namespace KaX
open PySem PySem.Builtin PySem.Builtin.BaseException
open PySem.W (Looks Frag findIn subIn looks_findIn looks_subIn clsIn)
section
variable {prog : Program} {w : World} {A : Around} {E : Value → Shared → Prop} {s : Shared} {K : Frag} {C e t0 : Addr}

theorem twinCall {nm : Str} {cd : ClassData} {N T : Str} {u0 : Value} {d0 : Nat} {as : List Addr} {h₀ : Heap} {g : List Code} (b : Nat) (x : ExcC K C e t0 s.heap) (hc : clsIn K C = some cd) (hn : cd.name = nm) (hN : Str.ofString ((nm.toString.cutAt '.').getLastD "") = N)
    (hB : subIn K (.ref C) (.type "BaseException") = some true)
    (ht : s.heap.TupAt t0 [u0]) (hu0 : ReprK prog w as h₀ d0 u0 T) (hg : A.guards = some g) (hcl : ∀ b ∈ as, Clear g b) (hu : A.units + 1 + d0 < cLine) (hk : ∀ b o, h₀.get? b = some o → s.heap.get? b = some o) {Q : Value → Shared → Prop}
    (hq : ∀ u h' tk, (∀ b o, s.heap.get? b = some o → h'.get? b = some o) → Q (.str (N ++ Str.ofString "(" ++ T ++ Str.ofString ")") u) { s with heap := h', toks := tk })
    (hsz : b + (N ++ Str.ofString "(" ++ T ++ Str.ofString ")").length ≤ sizeLine) :
    wpAny (model prog w) A (call (.builtin "BaseException.__repr__.under") [.ref e, rawInt b]) Q E s := by
  refine wpAny_call (codeAny_call_builtin F.plain_bexc_repr_under F.entry_bexc_repr_under ?_)
  rw [F.check_bexc_repr_under]
  refine wpAny_pure ?_
  unfold «BaseException.__repr__.under»
  rw [reprTwin_eq]
  refine wpAny_bind ?_
  refine PySem.W.check_slot (i := "BaseException.__repr__") (owner := "BaseException") (n := "__repr__") (by decide +kernel) (by decide +kernel) (x.LI hB) (F.args_bexc_repr _) ?_
  exact wpAny_mono (bra b x hc hn hN ht hu0 (by exact hg) hcl (show A.units + 1 + d0 < cLine by omega) hk (fun u h' tk k => hq u h' tk k) hsz) (fun _ _ z => z) fun _ _ z => z

theorem ReprK_exc {nm : Str} {cd : ClassData} {N T : Str} {u0 : Value} {d0 : Nat} {as : List Addr} {h₀ : Heap} (x : ExcC K C e t0 h₀) (hc : clsIn K C = some cd) (hn : cd.name = nm) (hN : Str.ofString ((nm.toString.cutAt '.').getLastD "") = N)
    (hB : subIn K (.ref C) (.type "BaseException") = some true) (hR : findIn K (.ref C) "__repr__" = some (some (.builtin "BaseException.__repr__")))
    (ht : h₀.TupAt t0 [u0]) (hu0 : ReprK prog w as h₀ d0 u0 T) : ReprK prog w as h₀ (d0 + 2) (.ref e) (N ++ Str.ofString "(" ++ T ++ Str.ofString ")") := by
  intro base hb A g E s Q hg hcl hu hk hQ
  have x1 : ExcC K C e t0 s.heap := by
    obtain ⟨X, o, vs, ho, hcc, hd, h0⟩ := x
    exact ⟨X.keeps hk, o, vs, hk _ _ ho, hcc, hd, h0⟩
  have t1 : s.heap.TupAt t0 [u0] := by
    obtain ⟨ot, k, hto, h1, h2⟩ := ht
    exact ⟨ot, k, hk _ _ hto, h1, h2⟩
  have hf : Looks (model prog w) s.heap (typeLookup (.ref C) "__repr__") (some (.builtin "BaseException.__repr__")) := looks_findIn x1.1 hR
  refine wpAny_pyReprUnder_ref (by omega) ?_
  unfold pyReprObjUnder pyReprObjBy
  refine wpAny_bind (wpAny_cRoomFor (by omega) ?_)
  refine wpAny_bind ?_
  unfold specialOf
  refine wpAny_bind (x1.LT.here (hf.here ?_))
  simp only [Option.isNone_some, Bool.false_eq_true, if_false]
  refine wpAny_bind ?_
  simp only [callSpecialIfBoundBy?, bindSpecialIfBound?]
  refine wpAny_holding (wpAny_bind (wpAny_bind ?_))
  unfold specialOf
  refine wpAny_bind (x1.LT.here (hf.here ?_))
  simp only [F.excStr_Exception.repr.bind]
  refine wpAny_bind (wpAny_askSetting (wpAny_ite ?_))
  have fin : wpAny (model prog w) A (call (.builtin "BaseException.__repr__.under") [.ref e, rawInt base]) (fun v s' => ∃ x u, v = .str x u ∧ Q x s') E s :=
    twinCall base x1 hc hn hN hB t1 hu0 hg hcl (by omega) hk (fun u h' tk k => ⟨_, _, rfl, hQ h' tk k⟩) hb
  have htw : reprUnder? (.builtin "BaseException.__repr__") = some (.builtin "BaseException.__repr__.under") := by kernel_rfl
  have fin2 : wpAny (model prog w) A (do
            let r ← call (.builtin "BaseException.__repr__.under") [.ref e, rawInt base]
            pure (some r)) (fun a s' => wpAny (model prog w) A (match a with
              | some r => do
                let c ← isInstance r (Value.type "str")
                if c = true then pure r
                  else do
                    let n ← typeNameOf r
                    raiseErrorMade "TypeError" (toString "__repr__ returned non-string (type " ++ toString n ++ toString ")")
              | none => unsupported "repr:special-get-raises") (fun v s' => ∃ x u, v = .str x u ∧ Q x s') E s') E s := by
    refine wpAny_bind (wpAny_mono fin (fun v s' hv => ?_) fun _ _ z => z)
    obtain ⟨y, u, rfl, hq⟩ := hv
    refine wpAny_pure ?_
    exact wpAny_bind (wpAny_isInstance (T := "str") (b := true) rfl isSubtype_str_str (wpAny_pure ⟨_, _, rfl, hq⟩))
  split
  · refine wpAny_bind (wpAny_pure (wpAny_pure ?_))
    simp only [htw]
    exact fin2
  · refine wpAny_tryCatch (wpAny_bind (wpAny_pure (wpAny_pure ?_)))
    simp only [htw]
    exact fin2
end
end KaX


set_option maxRecDepth 100000
set_option maxHeartbeats 2000000
/-! a def's promise where the guards around are known -/
namespace KaG
open PySem PySem.Spec PyProof.Rows L2

structure GR (k : Nat) (A : Around) : Prop where
  gd : A.guards = some []
  dp : A.depth + 3 * k + 5 < recursionLimit
  un : A.units + 16 * k + 200 < cLine
theorem GR.low {j k : Nat} {A : Around} (r : GR k A) (h : j ≤ k) : GR j A := ⟨r.gd, by have := r.dp; omega, by have := r.un; omega⟩
theorem GR.into {k : Nat} {A : Around} (r : GR (k + 1) A) (env : Env) (h : (A.deeper env).guards = A.guards := by rfl) : GR k (A.deeper env) :=
  ⟨by rw [h]; exact r.gd, by have := r.dp; show A.depth + 1 + 3 * k + 5 < _; omega, by have := r.un; show A.units + 3 + 16 * k + 200 < _; omega⟩
theorem GR.room {k : Nat} {A : Around} (r : GR k A) (h : A.handled = none) : Room k A := ⟨h, r.dp, r.un⟩

/-- the promise: c tells whether nothing is handled around -/
structure FnG (c : Bool) (P : Program) (w : World) (K : PySem.W.Frag) (mg : Str → Option Value) (base : Heap) (CX : CXT) (k : Nat) (f : Addr) (fd : FuncData) (ps : List Str) (sp : Sp) : Prop where
  len : ∀ vs H Q E, sp vs H Q E → vs.length = ps.length
  run : ∀ (A : Around) (outer : List Env) (s : Shared) (H : Hp) (args : Args) (us : List Value) (vs : List V) (Q : VK) (E : XK), GR k A → (c = true → A.handled = none) → Env0 P w K mg base A outer s H →
    BindsTo s fd args (ps.zip us) → Vals vs us → sp vs H Q E → codeAny (model P w) A (.call (.ref f) args) (CR CX outer P w H s Q E) s

/-- the same context under another look at what runs around -/
def recx (X : Cx) (A : Around) (c : Bool) : Cx := { X with A := A, calm := c }
theorem inv_re {X : Cx} {pins : List (Addr × Obj)} {σ : L2.St} {H : Hp} {s : Shared} (I : Inv X pins σ H s) (A : Around) (c : Bool) (hf : A.frames = some X.stack) (hc : c = true → A.handled = none) : Inv (recx X A c) pins σ H s :=
  let o := I.ok
  ⟨⟨o.mod, o.kind, o.glob, o.blt, o.above, o.inj, o.has, o.cab, hc, hf, o.stk, o.exf, o.bs, o.bsz, o.noex, o.exfs, o.funs, o.frf⟩, I.os, I.bare, I.base, I.loc, I.cell, I.free, I.freeC, I.pin, I.hok, I.len⟩

/-- the context of such a def's body -/
def cxG (c : Bool) (CX : CXT) (P : Program) (w : World) (K : PySem.W.Frag) (mg : Str → Option Value) (base : Heap) (N : List Str) (qual : Str) (scope : Scope) (f : Addr) (cd : Value) (A : Around) (outer : List Env) (s : Shared) (H : Hp) (E : XK) : Cx :=
  { cxOf CX P w K mg base N qual scope f cd A outer s H E with calm := c }

theorem fnG_of {c : Bool} {CX : CXT} {P : Program} {w : World} {K : PySem.W.Frag} {mg : Str → Option Value} {base : Heap} {k : Nat} {x qual : Str} {st : Stmt} {f : Addr} {fd : FuncData} {N ps : List Str} {sp : Sp} (F : Fun K x qual st f fd) (S : FnScope N ps (defScope st))
    (len : ∀ vs H Q E, sp vs H Q E → vs.length = ps.length)
    (hbody : ∀ (cdv : Value) (A : Around) (outer : List Env) (s : Shared) (H : Hp) (vs : List V) (Q : VK) (E : XK), GR k (A.deeper (envOfC qual (defScope st) s.heap.objs.size f cdv)) → (c = true → A.handled = none) → sp vs H Q E →
      ∃ t, PSs (cxG c CX P w K mg base N qual (defScope st) f cdv A outer s H E) (defBody st) t ∧ t { nx := fun _ H' => Q .non H', rt := Q } (start N vs) H) :
    FnG c P w K mg base CX (k + 1) f fd ps sp := by
  obtain ⟨oc, od, kV, doc, pm, an, cdv, ct, osl, rfl, lk, hcd⟩ := F.ex
  refine ⟨len, fun A outer s H args us vs Q E hr hcm e0 hb r hsp => ?_⟩
  have hl := len _ _ _ _ hsp
  have KX : K.In s.heap := e0.mod.kin.keeps fun b o e => (e0.bs b o e).1
  have lim : s.heap.NoLimit := e0.mod.nolimit.keeps fun b o e => (e0.bs b o e).1
  have hkind : ∀ y ∈ ps.zip us, (defScope st).names.lookup y.1 = some .local ∨ ((defScope st).names.lookup y.1 = some .cell ∧ ((cellsFrom (s.heap.objs.size + 1) (defScope st).names []).lookup y.1).isSome = true) := by
    rintro ⟨n, v⟩ hy
    rcases S.par n (List.of_mem_zip hy).1 with q | q
    · exact Or.inl q
    · exact Or.inr ⟨q, PySem.W.cellsFrom_some _ _ _ (.inl q)⟩
  refine codeAny_call_function (by have := hr.dp; omega) (KX _ _ lk) rfl S.co S.gen rfl (PySem.W.codeRec_of KX hcd) (hb _ _ _ _ ?_)
  refine wpAny_newFunctionEnv_cells S.kind hkind fun env he s1 y => ?_
  subst he
  refine ⟨lim.keeps y.toInCall.keep, codeAny_func ?_⟩
  obtain ⟨t, ht, hq⟩ := hbody cdv A outer s H vs Q E (hr.into _) hcm hsp
  have I0 : Inv (cxOf CX P w K mg base N qual (defScope st) f cdv ({ A with handled := none }) outer s H E) [] (start N vs) H s1 :=
    inv_start S rfl ⟨e0.frames, e0.mod, e0.bs, e0.bsz, e0.funs, e0.frf, e0.hok, e0.bare⟩ hl r y
  have I : Inv (cxG c CX P w K mg base N qual (defScope st) f cdv A outer s H E) [] (start N vs) H s1 := by
    have J := inv_re I0 (A.deeper (envOfC qual (defScope st) s.heap.objs.size f cdv)) c (Around.frames_deeper e0.frames) (fun z => hcm z)
    exact ⟨⟨J.ok.mod, J.ok.kind, J.ok.glob, J.ok.blt, J.ok.above, J.ok.inj, J.ok.has, J.ok.cab, J.ok.hd, J.ok.frames, J.ok.stk, J.ok.exf, J.ok.bs, J.ok.bsz, J.ok.noex, J.ok.exfs, J.ok.funs, J.ok.frf⟩, J.os, J.bare, J.base, J.loc, J.cell, J.free, J.freeC, J.pin, J.hok, J.len⟩
  refine wpAny_mono (ht.run [] s1 (start N vs) H _ I hq) (fun fl s' hs => ?_) fun e s' hs => hs
  have fin : ∀ {σ' : L2.St} {H' : Hp} {v : V} {u : Value}, Inv (cxG c CX P w K mg base N qual (defScope st) f cdv A outer s H E) [] σ' H' s' → RelV v u → Q v H' → CE outer P w H s Q u s' := by
    intro σ' H' v u J rv q
    exact ⟨v, H', J.os, J.bare, J.base, J.hok, rv, q⟩
  cases fl with
  | ret u => obtain ⟨v, σ', H', J, rv, q⟩ := hs; exact fin J rv q
  | next => obtain ⟨σ', H', J, q⟩ := hs; exact fin (v := V.non) (u := Value.none) J rfl q
  | brk => obtain ⟨_, _, _, q⟩ := hs; exact q.elim
  | cont => obtain ⟨_, _, _, q⟩ := hs; exact q.elim
end KaG


set_option maxRecDepth 100000
set_option maxHeartbeats 2000000
namespace KaG
open PySem PySem.Spec PyProof.Rows L2
section
variable {c : Bool} {X : Cx} {k : Nat} {f : Addr} {fd : FuncData} {ps : List Str} {sp : Sp} {x : Str} {p pos : Pos} {e : Expr} {es : List Expr} {t : TA}
/-- such a def is called -/
theorem pe_callG (F : FnG c X.prog X.w X.K X.mg X.base CX0 k f fd ps sp) (hr : GR k X.A) (hc : c = true → X.A.handled = none) (hg : Gl X x) (hm : X.mg x = some (.ref f)) (hk : PySem.W.keepIn X.K (.ref f) = true) (hb : Binds X.K fd ps [])
    (ha : PA X (e :: es) t) (hdb : (x == ("__debug__" : Str)) = false := by decide) (he : starEach (e :: es) X.env = (false, eval e X.env) :: starEach es X.env := by rfl)
    (hpl : (backTo pos (starEach es X.env)).any (·.1) = false := by rfl) : PE X (.Call (.Name x p) (e :: es) [] pos) (tCall sp [] E0 t) := by
  refine ⟨fun pins s σ H Q I h => ?_⟩
  refine wpAny_Call_Name_kw (ld_glob I hg hm ?_ hdb)
  refine PySem.W.callWith_K (h₀ := X.base) I.ok.mod.kin hk (thn (ha.run pos pins s σ H _ I h) fun us s1 z => ?_) he hpl
  obtain ⟨vs, H1, I1, r, q⟩ := z
  have q : sp (vs ++ []) H1 Q E0 := q
  rw [List.append_nil] at q
  refine ⟨I1.kIn, ?_⟩
  have hl : us.length = ps.length := r.length.symm.trans (F.len _ _ _ _ q)
  have bd := hb s1 us I1.kIn (by rw [List.append_nil]; exact hl)
  rw [List.append_nil] at bd
  show wpAny _ _ (call (.ref f) us) _ _ _
  refine wpAny_call (codeAny_mono (F.run X.A X.stack s1 H1 ⟨us, []⟩ us vs Q E0 hr hc I1.env0 bd r q) fun r' s' hq => ?_)
  rcases r' with er | fl
  · exact hq.elim
  · cases fl with
    | ret u => exact I1.after hq
    | next => exact hq.elim
    | brk => exact hq.elim
    | cont => exact hq.elim
end

/-- the law's own call -/
theorem law_G {P : Program} {w : World} {K : PySem.W.Frag} {mg mb : Str → Option Value} {k : Nat} {fa a : Addr} {fd : FuncData} {x : Str} {sp : Sp} {s₁ : Shared} {vs : List Value} {ns : List Int}
    (KX : K.In s₁.heap) (hns : s₁.heap.Ns mainGlobals mg) (hb : s₁.heap.Ns builtinsNs mb) (hbb : ∀ x : Str, x ≠ "__name__" → mb x = bootBuiltins x) (hlim : s₁.heap.NoLimit) (hg : s₁.gens = #[])
    (ha : s₁.heap.get? a = some { cls := .type "list", data := .seq vs.toArray }) (hi : IntsAre vs ns) (hl : ns.length ≤ sizeLine) (hr : GR k callerA)
    (F : ∀ base : Heap, K.In base → base.Ns mainGlobals mg → FnG true P w K mg base CX0 k fa fd [x] sp) (hbind : ∀ (s : Shared) (u : Value), BindsTo s fd ⟨[u], []⟩ [(x, u)])
    (hsp : ∀ H : Hp, Only H → SqL K H a (ns.map V.int) → sp [.ref a] H (fun v _ => v = .bl true) fun _ _ _ => False) :
    codeAny (model P w) callerA (.call (.ref fa) ⟨[.ref a], []⟩) (fun r s' => r = .ok (.ret (.bool true)) ∧ OldK s₁.heap s'.heap ∧ s'.os = s₁.os ∧ AllBare s'.gens) s₁ := by
  have rv := vals_ints hi
  have lenV := hi.length
  have core : ∀ H : Hp, Only H → SqL K H a (ns.map V.int) → HOk P w H s₁.heap → (∀ b, H b ≠ none → b = a) → (H a ≠ none → K.lookup a = none) →
      codeAny (model P w) callerA (.call (.ref fa) ⟨[.ref a], []⟩) (fun r s' => r = .ok (.ret (.bool true)) ∧ OldK s₁.heap s'.heap ∧ s'.os = s₁.os ∧ AllBare s'.gens) s₁ := by
    intro H hO hS hok hA hK
    have only_a : ∀ {b : Addr}, (∀ (q : b = a), False) → H b = none := by
      intro b nb
      cases q : H b with
      | none => rfl
      | some u => exact (nb (hA b (by rw [q]; simp))).elim
    have nsK : ∀ {b : Addr} {m : Str → Option Value}, s₁.heap.Ns b m → (hidT s₁.heap H).Ns b m := by
      rintro b m ⟨o, es, ep, e, d, r⟩
      refine ⟨o, es, ep, hidT_get e (only_a fun z => ?_), d, r⟩
      rw [z, ha] at e
      cases e
      cases d
    have hKb : K.In (hidT s₁.heap H) := by
      intro b o e
      refine hidT_get (KX b o e) ?_
      cases q : H b with
      | none => rfl
      | some u =>
        have z : b = a := hA b (by rw [q]; simp)
        rw [z] at e q
        rw [hK (by rw [q]; simp)] at e
        cases e
    have hM : Mod K mg (hidT s₁.heap H) := ⟨hKb, nsK hns, ⟨mb, nsK hb, hbb⟩, let ⟨mc, h1, h2⟩ := hlim; ⟨mc, nsK h1, h2⟩⟩
    have e0 : Env0 P w K mg (hidT s₁.heap H) callerA [] s₁ H := ⟨rfl, hM, fun b o e => of_hidT e, Nat.le_of_eq (hidT_size _ _), trivial, fun b hb => absurd (show b ∈ ([] : List Addr) from hb) (by simp), hok, .of_eq hg⟩
    have R := (F _ hKb (nsK hns)).run callerA [] s₁ H ⟨[.ref a], []⟩ [.ref a] [.ref a] _ _ hr (fun _ => rfl) e0 (hbind s₁ (.ref a)) (.cons rfl .nil) (hsp H hO hS)
    refine codeAny_mono R fun r s' h => ?_
    rcases r with er | fl
    · exact h.elim
    cases fl with
    | next => exact h.elim
    | brk => exact h.elim
    | cont => exact h.elim
    | ret u =>
      obtain ⟨v, H', os, bare, un, hok', r', q⟩ := h
      have q' : v = .bl true := q
      subst q'
      obtain rfl : u = Value.bool true := r'
      refine ⟨rfl, OldK.of_keep fun b o e => ?_, os, bare⟩
      cases q : H b with
      | none => exact un.keep b o e q (by intro z; exact absurd (show b ∈ ([] : List Addr) from z) (by simp)) (by simp)
      | some u =>
        rcases hO b with z | ⟨ob, xs, z⟩
        · rw [q] at z; cases z
        · obtain ⟨e1, _⟩ := hok b _ z
          obtain ⟨e2, _⟩ := hok' b _ (un.frzs b ob _ z)
          rw [e] at e1
          cases e1
          exact e2
  cases hk : K.lookup a with
  | some o =>
    have e := KX a o hk
    rw [ha] at e
    cases e
    refine core (fun _ => none) (fun _ => .inl rfl) (.inr ⟨_, vs.toArray, _, hk, rfl, rfl, rfl, by rw [List.size_toArray, lenV]; exact hl, by simpa using rv⟩) (fun b u z => ?_) (fun b z => absurd rfl z) fun z => absurd rfl z
    cases (show (none : Option HO) = some u from z)
  | none =>
    have at_a : ∀ {b : Addr} {y : HO}, (if b = a then some (HO.frz { cls := .type "list", data := .seq vs.toArray } (.lst (ns.map V.int))) else none) = some y → b = a ∧ y = HO.frz { cls := .type "list", data := .seq vs.toArray } (.lst (ns.map V.int)) := by
      intro b y z
      by_cases hb : b = a
      · rw [if_pos hb] at z
        exact ⟨hb, (Option.some.inj z).symm⟩
      · rw [if_neg hb] at z
        cases z
    refine core (fun b => if b = a then some (.frz { cls := .type "list", data := .seq vs.toArray } (.lst (ns.map V.int))) else none) (fun b => ?_) (.inl (.inr ⟨{ cls := .type "list", data := .seq vs.toArray }, if_pos rfl⟩)) (fun b u z => ?_) (fun b z => ?_) fun _ => hk
    · by_cases hb : b = a
      · exact .inr ⟨_, _, if_pos hb⟩
      · exact .inl (if_neg hb)
    · obtain ⟨e1, e2⟩ := at_a z
      subst e1 e2
      exact ⟨ha, by rw [List.length_map]; exact hl, vs, _, rv, ha⟩
    · cases y : (if b = a then some (HO.frz { cls := .type "list", data := .seq vs.toArray } (.lst (ns.map V.int))) else none) with
      | none => exact absurd y z
      | some u => exact (at_a y).1

theorem walk_G {l : PySem.W.OpenLaw} {n k : Nat} {q : Program} {loose : List Str} {XP : (Str → Option Value) → Heap → Prop} {YP : World → Heap → Prop} {d : DefRec} {K : Params → PySem.W.Frag} {sp : PySem.W.Frag → Sp} {x : Str}
    (hn : l.most = some n) (hn2 : n ≤ sizeLine) (hdf : d.params.defaults = []) (hr : GR k callerA) (hY : ∀ (w : World) (h : Heap), YP w h → (K w.params).In h)
    (F : ∀ (w : World) (mg : Str → Option Value) (fa : Addr) (h : Heap), (K w.params).In h → h.Ns mainGlobals mg → mg d.name = some (.ref fa) →
      ∃ fd : FuncData, (∀ (s : Shared) (u : Value), BindsTo s fd ⟨[u], []⟩ [(x, u)]) ∧ ∀ base : Heap, (K w.params).In base → base.Ns mainGlobals mg → FnG true l.prog w (K w.params) mg base CX0 k fa fd [x] (sp (K w.params)))
    (hsp : ∀ (K : PySem.W.Frag) (H : Hp) (a : Addr) (ns : List Int), ns.length ≤ n → Only H → SqL K H a (ns.map V.int) → sp K [.ref a] H (fun v _ => v = .bl true) fun _ _ _ => False) :
    PySem.W.WalkO q loose XP YP l.row.toRowW d [] (fun f vs => PySem.call f vs) := by
  refine Att.attach_call hn hdf fun w s₀ s₁ mg mb fa o pm cd doc a vs ns G Y ho hd hcd hmg hobj hints hlen hg => ?_
  have KX := hY w _ Y
  obtain ⟨fd, hb, hF⟩ := F w mg fa _ KX G.T.g hmg
  exact law_G KX G.T.g G.T.b G.T.builtins G.T.nolimit hg hobj hints (Nat.le_trans hlen hn2) hr hF hb fun H hO hS => hsp (K w.params) H a ns hlen hO hS
end KaG


set_option maxRecDepth 100000
set_option maxHeartbeats 2000000
/-! what is shown: the text of a value, by the abstract heap -/
namespace KaG
open PySem PySem.Spec PyProof.Rows L2
/-- an exception at a, of the class at C, its own dict (none as yet | at d), its arguments at t1 -/
def exw (a C : Addr) (d : Option Addr) (t1 : Addr) : HO := .ext fun h => h.get? a = some ({ cls := .ref C, dict := d, data := .fields #[.ref t1, .none, .none, .none, .bool false, .none] } : Obj)
theorem exw_at {P : Program} {w : World} {H : Hp} {h : Heap} {a C t1 : Addr} {d : Option Addr} (hok : HOk P w H h) (e : H a = some (exw a C d t1)) : h.get? a = some ({ cls := .ref C, dict := d, data := .fields #[.ref t1, .none, .none, .none, .bool false, .none] } : Obj) := by
  have x : ObjOk P w H h a (.ext fun h => h.get? a = some ({ cls := .ref C, dict := d, data := .fields #[.ref t1, .none, .none, .none, .bool false, .none] } : Obj)) := hok a _ e
  exact x.1
theorem exw_ok {P : Program} {w : World} {H : Hp} {h : Heap} {a C t1 : Addr} {d : Option Addr} (e : h.get? a = some ({ cls := .ref C, dict := d, data := .fields #[.ref t1, .none, .none, .none, .bool false, .none] } : Obj)) : ObjOk P w H h a (exw a C d t1) :=
  ⟨e, ⟨_, e⟩, fun h1 h2 z k => k _ z⟩

mutual
inductive Sh (H : Hp) (CW : Addr) (NW : Str) : List Addr → Nat → V → Str → Prop
  | non {as d} : Sh H CW NW as d .non "None"
  | bl {as d} (b : Bool) : Sh H CW NW as d (.bl b) (if b then "True" else "False")
  | int {as d} (i : Int) (h : i.natAbs.log2 < 1920) : Sh H CW NW as d (.int i) (toString i : String)
  | str {as d} (x : Str) : Sh H CW NW as d (.str x) (reprText x)
  | lst {as as' d a xs ts} (e : H a = some (.lst xs)) (ha : a ∈ as') (hs : ∀ b ∈ as, b ∈ as') (hn : a ∉ as) (hi : ShA H CW NW as d xs ts) : Sh H CW NW as' (d + 1) (.ref a) (listText ts)
  | tup {as as' d a xs ts} (e : H a = some (.tup xs)) (ha : a ∈ as') (hs : ∀ b ∈ as, b ∈ as') (hn : a ∉ as) (hi : ShA H CW NW as d xs ts) : Sh H CW NW as' (d + 1) (.ref a) (tupleText ts)
  | dct {as as' d a kvs ps} (e : H a = some (.dK kvs)) (ha : a ∈ as') (hs : ∀ b ∈ as, b ∈ as') (hn : a ∉ as) (hi : ShD H CW NW as d kvs ps) : Sh H CW NW as' (d + 1) (.ref a) (dictText ps)
  | exc {as as' d a dd t1 v t} (e : H a = some (exw a CW dd t1)) (et : H t1 = some (.tup [v])) (ha : a ∈ as') (ht : t1 ∈ as') (hd : ∀ b, dd = some b → b ∈ as' ∧ ∃ fs, H b = some (exd b fs)) (hs : ∀ b ∈ as, b ∈ as') (hi : Sh H CW NW as d v t) : Sh H CW NW as' (d + 2) (.ref a) (NW ++ Str.ofString "(" ++ t ++ Str.ofString ")")
inductive ShA (H : Hp) (CW : Addr) (NW : Str) : List Addr → Nat → List V → List Str → Prop
  | nil {as d} : ShA H CW NW as d [] []
  | cons {as d v t vs ts} (h : Sh H CW NW as d v t) (r : ShA H CW NW as d vs ts) : ShA H CW NW as d (v :: vs) (t :: ts)
inductive ShD (H : Hp) (CW : Addr) (NW : Str) : List Addr → Nat → List (Key × V) → List Str → Prop
  | nil {as d} : ShD H CW NW as d [] []
  | cons {as d x v t kvs ps} (h : Sh H CW NW as d v t) (r : ShD H CW NW as d kvs ps) : ShD H CW NW as d ((Sum.inr x, v) :: kvs) ((reprText x ++ ": " ++ t) :: ps)
end

/-- what the written part says of the class of such exceptions -/
structure WrK (K : PySem.W.Frag) (CW : Addr) (NW : Str) : Prop where
  cl : ∃ cd : ClassData, PySem.W.clsIn K CW = some cd ∧ Str.ofString ((cd.name.toString.cutAt '.').getLastD "") = NW
  ex : PySem.W.subIn K (.ref CW) (.type "BaseException") = some true
  rp : PySem.W.findIn K (.ref CW) "__repr__" = some (some (.builtin "BaseException.__repr__"))
  eq : PySem.W.findIn K (.ref CW) "__eq__" = some (some (.builtin "object.__eq__"))
  ob : PySem.W.subIn K (.ref CW) (.type "object") = some true

section
variable {P : Program} {w : World} {K : PySem.W.Frag} {H : Hp} {CW : Addr} {NW : Str} {h : Heap}
theorem ReprK.str' {as : List Addr} {d : Nat} (x : Str) (t : Tok) : ReprK P w as h d (.str x t) (reprText x) := by
  intro base hb
  exact (ReprK.of_is (ReprIs.str x t (Nat.le_trans (Nat.le_add_left _ base) hb)) as h d) base hb
mutual
theorem Sh.run (T : WrK K CW NW) (X : K.In h) (hok : HOk P w H h) : ∀ {as : List Addr} {d : Nat} {v : V} {t : Str}, Sh H CW NW as d v t → ∀ u, RelV v u → ReprK P w as h d u t
  | _, _, _, _, .non, u, r => by cases (show u = Value.none from r); exact ReprK.of_is ReprIs.none _ _ _
  | _, _, _, _, .bl b, u, r => by cases (show u = Value.bool b from r); exact ReprK.of_is (ReprIs.bool b) _ _ _
  | _, _, _, _, .int i hi, u, r => by
    obtain ⟨tk, q⟩ := (show ∃ t, u = Value.int i t from r)
    cases q
    exact ReprK.of_is (ReprIs.int tk hi) _ _ _
  | _, _, _, _, .str x, u, r => by
    obtain ⟨tk, q⟩ := (show ∃ t, u = Value.str x t from r)
    cases q
    exact ReprK.str' x tk
  | _, _, _, _, .lst (as := as0) (a := a) (xs := xs) e ha hs hn hi, u, r => by
    cases (show u = Value.ref a from r)
    obtain ⟨_, its, n, rv, ho⟩ := (show ObjOk P w H h a (.lst xs) from hok a _ e)
    have hA := ShA.run T X hok hi its rv
    refine ReprK.more (as := a :: as0) ?_ (fun b hb => ?_)
    · cases its with
      | nil =>
        cases hA
        rw [listText_nil]
        exact (ReprK.listEmpty ho rfl rfl).level_le (Nat.le_succ _)
      | cons x l => exact ReprK.list ho rfl rfl hn (by simpa using hA.length_eq) (fun i y q => hA.item i y (by simpa using q))
    · rcases List.mem_cons.mp hb with z | z
      · rw [z]; exact ha
      · exact hs b z
  | _, _, _, _, .tup (as := as0) (a := a) (xs := xs) e ha hs hn hi, u, r => by
    cases (show u = Value.ref a from r)
    obtain ⟨_, its, rv, o, ho, hc, n, hd⟩ := (show ObjOk P w H h a (.tup xs) from hok a _ e)
    have hA := ShA.run T X hok hi its rv
    refine ReprK.more (as := a :: as0) (ReprK.tuple ho hc hd hn (by simpa using hA)) (fun b hb => ?_)
    rcases List.mem_cons.mp hb with z | z
    · rw [z]; exact ha
    · exact hs b z
  | _, _, _, _, .dct (as := as0) (a := a) (kvs := kvs) e ha hs hn hi, u, r => by
    cases (show u = Value.ref a from r)
    obtain ⟨_, hsys, vs, kv, o, es, ep, ho, hx, hd, _, hp, _⟩ := (show ObjOk P w H h a (.dK kvs) from hok a _ e)
    have hE := ShD.run T X hok hi vs kv es.toList hp
    refine ReprK.more (as := a :: as0) (ReprK.dict ho hx.1 hd hsys hn hE) (fun b hb => ?_)
    rcases List.mem_cons.mp hb with z | z
    · rw [z]; exact ha
    · exact hs b z
  | _, _, _, _, .exc (a := a) (t1 := t1) (v := v) e et ha ht _ hs hi, u, r => by
    cases (show u = Value.ref a from r)
    have ho := exw_at hok e
    obtain ⟨_, its, rv, o, hto, hc, n, hd⟩ := (show ObjOk P w H h t1 (.tup [v]) from hok t1 _ et)
    cases rv with
    | cons r1 r2 =>
      cases r2
      obtain ⟨cd, hcd, hN⟩ := T.cl
      have x : ExcC K CW a t1 h := ⟨X, _, _, ho, rfl, rfl, rfl⟩
      exact KaX.ReprK_exc x hcd rfl hN T.ex T.rp ⟨o, n, hto, hc, hd⟩ ((Sh.run T X hok hi _ r1).more hs)
theorem ShA.run (T : WrK K CW NW) (X : K.In h) (hok : HOk P w H h) : ∀ {as : List Addr} {d : Nat} {vs : List V} {ts : List Str}, ShA H CW NW as d vs ts → ∀ us, Vals vs us → ReprAllK P w as h d us ts
  | _, _, _, _, .nil, us, r => by cases r; exact .nil
  | _, _, _, _, .cons h1 h2, us, r => by
    cases r with
    | cons r1 r2 => exact .cons (Sh.run T X hok h1 _ r1) (ShA.run T X hok h2 _ r2)
theorem ShD.run (T : WrK K CW NW) (X : K.In h) (hok : HOk P w H h) : ∀ {as : List Addr} {d : Nat} {kvs : List (Key × V)} {ps : List Str}, ShD H CW NW as d kvs ps → ∀ vs, KV kvs vs → ∀ es, Pairs (mixKind P w) es vs → ReprEntriesK P w as h d es ps
  | _, _, _, _, .nil, vs, r, es, hp => by
    cases r
    cases hp
    exact .nil
  | _, _, _, _, .cons (x := x) h1 h2, vs, r, es, hp => by
    cases r with
    | cons r1 r2 =>
      rename_i q1 q2
      cases hp with
      | cons hk hv hp2 =>
        obtain ⟨e1, rv⟩ := r1
        have e1' : Sum.inr x = q1.1 := e1
        rw [← e1', mixKind_is] at hk
        rcases keyIs_shape hk with ⟨i, tk, z, _⟩ | ⟨y, tk, z, ek⟩
        · cases z
        · cases z
          refine .cons ?_ (Sh.run T X hok h1 _ (by rw [hv]; exact rv)) (ShD.run T X hok h2 _ r2 _ hp2)
          rw [ek]
          exact ReprK.str' x tk
end
end
end KaG


set_option maxRecDepth 100000
set_option maxHeartbeats 2000000
namespace KaG
open PySem PySem.Spec PyProof.Rows L2
section
variable {H H' : Hp} {CW : Addr} {NW : Str}
mutual
theorem Sh.wide : ∀ {as bs : List Addr} {d e : Nat} {v : V} {t : Str}, Sh H CW NW as d v t → (∀ b ∈ as, b ∈ bs) → d ≤ e → Sh H CW NW bs e v t
  | _, _, _, _, _, _, .non, _, _ => .non
  | _, _, _, _, _, _, .bl b, _, _ => .bl b
  | _, _, _, _, _, _, .int i h, _, _ => .int i h
  | _, _, _, _, _, _, .str x, _, _ => .str x
  | _, _, _, e + 1, _, _, .lst x1 x2 x3 x4 x5, k, hd => .lst x1 (k _ x2) (fun b z => k b (x3 b z)) x4 (ShA.wide x5 (fun _ z => z) (Nat.le_of_succ_le_succ hd))
  | _, _, _, e + 1, _, _, .tup x1 x2 x3 x4 x5, k, hd => .tup x1 (k _ x2) (fun b z => k b (x3 b z)) x4 (ShA.wide x5 (fun _ z => z) (Nat.le_of_succ_le_succ hd))
  | _, _, _, e + 1, _, _, .dct x1 x2 x3 x4 x5, k, hd => .dct x1 (k _ x2) (fun b z => k b (x3 b z)) x4 (ShD.wide x5 (fun _ z => z) (Nat.le_of_succ_le_succ hd))
  | _, _, _, e + 2, _, _, .exc x1 x2 x3 x4 x7 x5 x6, k, hd => .exc x1 x2 (k _ x3) (k _ x4) (fun b z => ⟨k _ (x7 b z).1, (x7 b z).2⟩) (fun b z => k b (x5 b z)) (Sh.wide x6 (fun _ z => z) (Nat.le_of_succ_le_succ (Nat.le_of_succ_le_succ hd)))
theorem ShA.wide : ∀ {as bs : List Addr} {d e : Nat} {vs : List V} {ts : List Str}, ShA H CW NW as d vs ts → (∀ b ∈ as, b ∈ bs) → d ≤ e → ShA H CW NW bs e vs ts
  | _, _, _, _, _, _, .nil, _, _ => .nil
  | _, _, _, _, _, _, .cons h r, k, hd => .cons (Sh.wide h k hd) (ShA.wide r k hd)
theorem ShD.wide : ∀ {as bs : List Addr} {d e : Nat} {vs : List (Key × V)} {ts : List Str}, ShD H CW NW as d vs ts → (∀ b ∈ as, b ∈ bs) → d ≤ e → ShD H CW NW bs e vs ts
  | _, _, _, _, _, _, .nil, _, _ => .nil
  | _, _, _, _, _, _, .cons h r, k, hd => .cons (Sh.wide h k hd) (ShD.wide r k hd)
end
mutual
theorem Sh.fr : ∀ {as : List Addr} {d : Nat} {v : V} {t : Str}, Sh H CW NW as d v t → (∀ b ∈ as, H' b = H b) → Sh H' CW NW as d v t
  | _, _, _, _, .non, _ => .non
  | _, _, _, _, .bl b, _ => .bl b
  | _, _, _, _, .int i h, _ => .int i h
  | _, _, _, _, .str x, _ => .str x
  | _, _, _, _, .lst x1 x2 x3 x4 x5, k => .lst ((k _ x2).trans x1) x2 x3 x4 (ShA.fr x5 fun b z => k b (x3 b z))
  | _, _, _, _, .tup x1 x2 x3 x4 x5, k => .tup ((k _ x2).trans x1) x2 x3 x4 (ShA.fr x5 fun b z => k b (x3 b z))
  | _, _, _, _, .dct x1 x2 x3 x4 x5, k => .dct ((k _ x2).trans x1) x2 x3 x4 (ShD.fr x5 fun b z => k b (x3 b z))
  | _, _, _, _, .exc x1 x2 x3 x4 x7 x5 x6, k => .exc ((k _ x3).trans x1) ((k _ x4).trans x2) x3 x4 (fun b z => ⟨(x7 b z).1, let ⟨fs, q⟩ := (x7 b z).2; ⟨fs, (k _ (x7 b z).1).trans q⟩⟩) x5 (Sh.fr x6 fun b z => k b (x5 b z))
theorem ShA.fr : ∀ {as : List Addr} {d : Nat} {vs : List V} {ts : List Str}, ShA H CW NW as d vs ts → (∀ b ∈ as, H' b = H b) → ShA H' CW NW as d vs ts
  | _, _, _, _, .nil, _ => .nil
  | _, _, _, _, .cons h r, k => .cons (Sh.fr h k) (ShA.fr r k)
theorem ShD.fr : ∀ {as : List Addr} {d : Nat} {vs : List (Key × V)} {ts : List Str}, ShD H CW NW as d vs ts → (∀ b ∈ as, H' b = H b) → ShD H' CW NW as d vs ts
  | _, _, _, _, .nil, _ => .nil
  | _, _, _, _, .cons h r, k => .cons (Sh.fr h k) (ShD.fr r k)
end
theorem Sh.same {as : List Addr} {d : Nat} {v : V} {t : Str} (h : Sh H CW NW as d v t) (s : Same H H') (k : ∀ b ∈ as, H b ≠ none) : Sh H' CW NW as d v t := h.fr fun b hb => by
  cases e : H b with
  | none => exact absurd e (k b hb)
  | some o => rw [s b o e]
theorem ShA.same {as : List Addr} {d : Nat} {vs : List V} {ts : List Str} (h : ShA H CW NW as d vs ts) (s : Same H H') (k : ∀ b ∈ as, H b ≠ none) : ShA H' CW NW as d vs ts := h.fr fun b hb => by
  cases e : H b with
  | none => exact absurd e (k b hb)
  | some o => rw [s b o e]
theorem ShA.len : ∀ {as : List Addr} {d : Nat} {vs : List V} {ts : List Str}, ShA H CW NW as d vs ts → ts.length = vs.length
  | _, _, _, _, .nil => rfl
  | _, _, _, _, .cons _ r => by rw [List.length_cons, List.length_cons, r.len]
theorem ShA.get : ∀ {as : List Addr} {d : Nat} {vs : List V} {ts : List Str} {i : Nat} {v : V}, ShA H CW NW as d vs ts → vs[i]? = some v → ∃ t, t ∈ ts ∧ Sh H CW NW as d v t
  | _, _, _, _, i, _, .nil, e => by simp at e
  | _, _, _, _, 0, _, .cons (t := t) h r, e => by
    have e' := Option.some.inj e
    subst e'
    exact ⟨t, List.mem_cons_self .., h⟩
  | _, _, _, _, i + 1, _, .cons h r, e => by
    obtain ⟨t, m, q⟩ := ShA.get r (show _ = some _ from e)
    exact ⟨t, List.mem_cons_of_mem _ m, q⟩
theorem ShA.app : ∀ {as : List Addr} {d : Nat} {vs ws : List V} {ts us : List Str}, ShA H CW NW as d vs ts → ShA H CW NW as d ws us → ShA H CW NW as d (vs ++ ws) (ts ++ us)
  | _, _, _, _, _, _, .nil, q => q
  | _, _, _, _, _, _, .cons h r, q => .cons h (r.app q)
end
end KaG


set_option maxRecDepth 100000
set_option maxHeartbeats 2000000
namespace KaG
open PySem PySem.Spec PyProof.Rows L2
/-! ### lengths of texts -/
theorem piled_le {n : Nat} : ∀ {ts : List Str}, (∀ t ∈ ts, t.length ≤ n) → piled ts ≤ ts.length * (n + 2)
  | [], _ => by rw [piled_nil]; exact Nat.zero_le _
  | t :: r, h => by
    have h1 := h t (List.mem_cons_self ..)
    have h2 := piled_le (ts := r) fun u hu => h u (List.mem_cons_of_mem _ hu)
    rw [piled_cons, List.length_cons, Nat.succ_mul]
    omega
theorem listText_le (ts : List Str) : (listText ts).length ≤ piled ts + 2 := by
  cases ts with
  | nil => rw [listText_nil]; decide
  | cons t r =>
    have h := textFrom_length_pos r 1 (("[" : Str) ++ (if (0 : Nat) > 0 then ", " else "" : String) ++ t) (Nat.succ_pos 0)
    have e : ((("[" : Str) ++ (if (0 : Nat) > 0 then ", " else "" : String) ++ t)).length = 1 + t.length := by
      rw [strLen_append, strLen_append]; rfl
    have hX : (listText (t :: r)).length = (textFrom 0 "[" (t :: r)).length + 1 := by
      show (textFrom 0 "[" (t :: r) ++ "]").length = _
      rw [strLen_append]; rfl
    have hY : (textFrom 0 "[" (t :: r)).length = (textFrom 1 (("[" : Str) ++ (if (0 : Nat) > 0 then ", " else "" : String) ++ t) r).length := rfl
    rw [hX, hY, h, e, piled_cons]; omega
theorem join_le (ts : List Str) : (Str.join ", " ts).length ≤ piled ts := by
  by_cases h : ts = []
  · subst h; exact Nat.zero_le _
  · have := join_length_add ts h
    omega
theorem tupleText_le (ts : List Str) : (tupleText ts).length ≤ piled ts + 3 := by
  unfold tupleText
  rw [strLen_append, strLen_append]
  have e1 : ((("(" : String) : Str)).length = 1 := rfl
  have e3 : (((if ts.length == 1 then ",)" else ")" : String) : Str)).length ≤ 2 := by split <;> decide
  have := join_le ts
  omega
theorem dictText_le (ts : List Str) : (dictText ts).length ≤ piled ts + 2 := by
  unfold dictText
  rw [strLen_append, strLen_append]
  have e1 : ((("{" : String) : Str)).length = 1 := rfl
  have e2 : ((("}" : String) : Str)).length = 1 := rfl
  have := join_le ts
  omega

/-! ### what a step may do beside: new objects, and the bag's own list -/
/-- the bag at bg: four items, the last one the list of what is drawn from -/
def Bag (H : Hp) (bg : Addr) : Prop := ∃ (c st i : Int) (b : Addr) (ns : List Int), H bg = some (.lst [.int c, .int st, .int i, .ref b]) ∧ H b = some (.lst (ns.map V.int)) ∧ 0 ≤ c ∧ 0 ≤ i ∧ ns.length ≤ 100
/-- b is the bag's own list of cells -/
def Inn (H : Hp) (bg b : Addr) : Prop := ∃ c st i : Int, H bg = some (.lst [.int c, .int st, .int i, .ref b])
structure Ext (bg : Addr) (H H' : Hp) : Prop where
  keep : ∀ b o, b ≠ bg → H b = some o → H' b = some o
  bag : Bag H' bg
  inn : ∀ b, Inn H bg b → Inn H' bg b
theorem Bag.there {H : Hp} {bg : Addr} (h : Bag H bg) : H bg ≠ none := by
  obtain ⟨c, st, i, b, ns, h1, _⟩ := h
  rw [h1]
  exact fun z => nomatch z
theorem Bag.same {H H' : Hp} {bg : Addr} (h : Bag H bg) (s : Same H H') : Bag H' bg := by
  obtain ⟨c, st, i, b, ns, h1, h2, h3⟩ := h
  exact ⟨c, st, i, b, ns, s _ _ h1, s _ _ h2, h3⟩
theorem same_upd {H : Hp} {p : Addr} {o : HO} (h : H p = none) : Same H (upd H p o) := fun b u e => by
  rw [upd_ne (ne_of_none e h)]
  exact e
theorem Same.refl' {H : Hp} : Same H H := fun _ _ e => e
theorem Same.tr {H H1 H2 : Hp} (s : Same H H1) (t : Same H1 H2) : Same H H2 := fun b o e => t b o (s b o e)
theorem Ext.of_same {bg : Addr} {H H' : Hp} (h : Bag H bg) (s : Same H H') : Ext bg H H' := ⟨fun b o _ e => s b o e, h.same s, fun _ ⟨c, st, i, e⟩ => ⟨c, st, i, s _ _ e⟩⟩
theorem Ext.trans {bg : Addr} {H H1 H2 : Hp} (a : Ext bg H H1) (b : Ext bg H1 H2) : Ext bg H H2 := ⟨fun x o n e => b.keep x o n (a.keep x o n e), b.bag, fun x h => b.inn x (a.inn x h)⟩
theorem Ext.new {bg p : Addr} {H H1 : Hp} {o : HO} (a : Ext bg H H1) (h : H1 p = none) : Ext bg H (upd H1 p o) := a.trans (Ext.of_same a.bag (same_upd h))
theorem Ext.stay {bg : Addr} {H H' : Hp} (a : Ext bg H H') {b : Addr} (h : H b ≠ none) : H' b ≠ none := by
  by_cases e : b = bg
  · rw [e]; exact a.bag.there
  · cases q : H b with
    | none => exact absurd q h
    | some o => rw [a.keep b o e q]; exact fun z => nomatch z
/-- as are new between H and H' -/
def Nw (H H' : Hp) (as : List Addr) : Prop := ∀ b ∈ as, H b = none ∧ H' b ≠ none
section
variable {CW : Addr} {NW : Str} {bg : Addr} {H H1 H2 : Hp}
theorem Sh.ext {as : List Addr} {d : Nat} {v : V} {t : Str} (h : Sh H1 CW NW as d v t) (hb : bg ∉ as) (s : Ext bg H1 H2) (k : ∀ b ∈ as, H1 b ≠ none) : Sh H2 CW NW as d v t := h.fr fun b m => by
  cases e : H1 b with
  | none => exact absurd e (k b m)
  | some o => exact s.keep b o (fun z => hb (z ▸ m)) e
theorem ShA.ext {as : List Addr} {d : Nat} {vs : List V} {ts : List Str} (h : ShA H1 CW NW as d vs ts) (hb : bg ∉ as) (s : Ext bg H1 H2) (k : ∀ b ∈ as, H1 b ≠ none) : ShA H2 CW NW as d vs ts := h.fr fun b m => by
  cases e : H1 b with
  | none => exact absurd e (k b m)
  | some o => exact s.keep b o (fun z => hb (z ▸ m)) e
theorem Nw.out {as : List Addr} (n : Nw H H1 as) {b : Addr} (h : H b ≠ none) : b ∉ as := fun m => h (n b m).1
theorem Nw.ext {as : List Addr} (n : Nw H H1 as) (s : Ext bg H1 H2) : Nw H H2 as := fun b m => ⟨(n b m).1, s.stay (n b m).2⟩
theorem Nw.before {as : List Addr} (n : Nw H1 H2 as) (s : Ext bg H H1) : Nw H H2 as := fun b m => ⟨by
  cases e : H b with
  | none => rfl
  | some o => exact absurd (n b m).1 (s.stay (by rw [e]; exact fun z => nomatch z)), (n b m).2⟩
end

/-! ### good values, one by one -/
/-- an expression that gives a good value: told by its text's length, its depth -/
def tG (CW : Addr) (NW : Str) (i : Nat) (bg : Addr) (d n : Nat) : TE := fun σ H Q => (Bag H bg ∧ σ[i]? = some (some (.ref bg))) ∧ ∀ v H' as t, Ext bg H H' → Sh H' CW NW as d v t → t.length ≤ n → Nw H H' as → Q v H'
def tGs (CW : Addr) (NW : Str) (i : Nat) (bg : Addr) (d n m : Nat) : TA := fun σ H Q => (Bag H bg ∧ σ[i]? = some (some (.ref bg))) ∧ ∀ vs H' as ts, Ext bg H H' → ShA H' CW NW as d vs ts → (∀ t ∈ ts, t.length ≤ n) → vs.length = m → Nw H H' as → Q vs H'
theorem pe_imp {X : Cx} {e : Expr} {t t' : TE} (h : PE X e t) (k : ∀ σ H Q, t' σ H Q → t σ H Q) : PE X e t' := ⟨fun pins s σ H Q I q => h.run pins s σ H Q I (k σ H Q q)⟩
theorem pa_imp {X : Cx} {es : List Expr} {t t' : TA} (h : PA X es t) (k : ∀ σ H Q, t' σ H Q → t σ H Q) : PA X es t' := ⟨fun pos pins s σ H Q I q => h.run pos pins s σ H Q I (k σ H Q q)⟩
section
variable {X : Cx} {CW : Addr} {NW : Str} {i : Nat} {bg : Addr} {d n m : Nat} {e : Expr} {es : List Expr} {pos : Pos}
theorem pa_g0 : PA X [] (tGs CW NW i bg d n 0) := pa_imp pa_nil fun σ H Q ⟨⟨b, _⟩, k⟩ => k [] H [] [] (Ext.of_same b Same.refl') .nil (fun _ z => nomatch z) rfl (fun _ z => nomatch z)
theorem pa_g1 (h : PE X e (tG CW NW i bg d n)) (r : PA X es (tGs CW NW i bg d n m)) (hs : starEach (e :: es) X.env = (false, eval e X.env) :: starEach es X.env := by rfl) : PA X (e :: es) (tGs CW NW i bg d n (m + 1)) := by
  refine pa_imp (pa_cons h r hs) fun σ H Q z => ?_
  obtain ⟨⟨b, p⟩, k⟩ := z
  refine ⟨⟨b, p⟩, fun v H1 as t E1 s1 l1 n1 => ⟨⟨E1.bag, p⟩, fun vs H2 bs ts E2 s2 l2 hm n2 => ?_⟩⟩
  have b1 : bg ∉ as := n1.out b.there
  refine k (v :: vs) H2 (as ++ bs) (t :: ts) (E1.trans E2) (.cons ((s1.ext b1 E2 fun b m => (n1 b m).2).wide (fun _ z => List.mem_append_left _ z) (Nat.le_refl _)) (s2.wide (fun _ z => List.mem_append_right _ z) (Nat.le_refl _)))
    (fun u hu => ?_) (by rw [List.length_cons, hm]) (fun x hx => ?_)
  · rcases List.mem_cons.mp hu with q | q
    · rw [q]; exact l1
    · exact l2 u q
  · rcases List.mem_append.mp hx with q | q
    · exact n1.ext E2 x q
    · exact n2.before E1 x q
theorem pe_gw {d' n' : Nat} (h : PE X e (tG CW NW i bg d n)) (hd : d ≤ d' := by decide) (hn : n ≤ n' := by decide) : PE X e (tG CW NW i bg d' n') :=
  pe_imp h fun σ H Q ⟨p, k⟩ => ⟨p, fun v H' as t E s l w => k v H' as t E (s.wide (fun _ z => z) hd) (Nat.le_trans l hn) w⟩
theorem pe_gleaf {v : V} {t : Str} (h : PE X e (tC v)) (s : ∀ H, Sh H CW NW [] d v t) (hl : t.length ≤ n) : PE X e (tG CW NW i bg d n) :=
  pe_imp h fun σ H Q ⟨⟨b, _⟩, k⟩ => k v H [] t (Ext.of_same b Same.refl') (s H) hl (fun _ z => nomatch z)
theorem pe_gtup {x1} (h : PA X es (tGs CW NW i bg d n m)) (hz : m ≤ 1000 := by decide) : PE X (.Tuple es x1 pos) (tG CW NW i bg (d + 1) (m * (n + 2) + 3)) := by
  refine pe_imp (pe_tup h) fun σ H Q z => ?_
  obtain ⟨p, k⟩ := z
  refine ⟨p, fun vs H1 as ts E s l hm w => ⟨Nat.le_of_lt (small1000 (by rw [hm]; exact hz)), fun q hq => ?_⟩⟩
  have hl := s.len
  have hp := piled_le l
  rw [hl, hm] at hp
  have nq : q ∉ as := fun z => (w q z).2 hq
  refine k (.ref q) _ (q :: as) (tupleText ts) (E.new hq) (.tup upd_same (List.mem_cons_self ..) (fun b z => List.mem_cons_of_mem _ z) nq (s.same (same_upd hq) fun b z => (w b z).2)) (Nat.le_trans (tupleText_le ts) (by omega)) (fun b z => ?_)
  rcases List.mem_cons.mp z with y | y
  · rw [y, upd_same]
    refine ⟨?_, fun z => nomatch z⟩
    cases e : H q with
    | none => rfl
    | some o => exact absurd hq (E.stay (by rw [e]; exact fun z => nomatch z))
  · exact w.ext (Ext.of_same E.bag (same_upd hq)) b y
theorem pe_glst (h : PA X es (tGs CW NW i bg d n m)) (hz : m ≤ 1000 := by decide) : PE X (.List es pos) (tG CW NW i bg (d + 1) (m * (n + 2) + 2)) := by
  refine pe_imp (pe_lst h) fun σ H Q z => ?_
  obtain ⟨p, k⟩ := z
  refine ⟨p, fun vs H1 as ts E s l hm w => ⟨Nat.le_of_lt (small1000 (by rw [hm]; exact hz)), fun q hq => ?_⟩⟩
  have hl := s.len
  have hp := piled_le l
  rw [hl, hm] at hp
  have nq : q ∉ as := fun z => (w q z).2 hq
  refine k (.ref q) _ (q :: as) (listText ts) (E.new hq) (.lst upd_same (List.mem_cons_self ..) (fun b z => List.mem_cons_of_mem _ z) nq (s.same (same_upd hq) fun b z => (w b z).2)) (Nat.le_trans (listText_le ts) (by omega)) (fun b z => ?_)
  rcases List.mem_cons.mp z with y | y
  · rw [y, upd_same]
    refine ⟨?_, fun z => nomatch z⟩
    cases e : H q with
    | none => rfl
    | some o => exact absurd hq (E.stay (by rw [e]; exact fun z => nomatch z))
  · exact w.ext (Ext.of_same E.bag (same_upd hq)) b y
theorem pe_gd0 : PE X (.Dict [] [] pos) (tG CW NW i bg 1 2) := by
  refine pe_imp pe_dnewK fun σ H Q z => ?_
  obtain ⟨⟨b, _⟩, k⟩ := z
  intro q hq
  refine k (.ref q) _ [q] (dictText []) ((Ext.of_same b Same.refl').new hq) (.dct (as := []) upd_same (List.mem_cons_self ..) (fun _ z => nomatch z) (fun z => nomatch z) .nil) (by decide) (fun x z => ?_)
  rw [List.mem_singleton.mp z, upd_same]
  exact ⟨hq, fun z => nomatch z⟩
theorem pe_gd1 {y : Str} {j pk} (h : PE X e (tG CW NW i bg d n)) (hy : (reprText y).length ≤ 10) : PE X (.Dict [some (.Constant (.str y) j pk)] [e] pos) (tG CW NW i bg (d + 1) (n + 20)) := by
  refine pe_imp (pe_disp (pps_cons pe_str h pps_nil) (by rfl) (by rfl) (by simp) (by show 1 ≤ 15; decide)) fun σ H Q z => ?_
  obtain ⟨⟨b, p⟩, k⟩ := z
  intro q hq
  have E0 : Ext bg H (upd H q (.dK [])) := (Ext.of_same b Same.refl').new hq
  refine ⟨⟨E0.bag, p⟩, fun v H1 as t E s l w => ?_⟩
  have nq : q ∉ as := w.out (by rw [upd_same]; exact fun z => nomatch z)
  have qb : q ≠ bg := fun z => b.there (z ▸ hq)
  have e1 : H1 q = some (.dK []) := E.keep q _ qb upd_same
  refine ⟨e1, [(Sum.inr y, v)], rfl, by simp, ?_⟩
  have km : mergeK [] [((Sum.inr y : Key), v)] = [(Sum.inr y, v)] := rfl
  rw [km]
  have kk : ∀ x, x ≠ q → upd H1 q (HO.dK [(Sum.inr y, v)]) x = H1 x := fun x hx => upd_ne hx
  have s2 : Sh (upd H1 q (HO.dK [(Sum.inr y, v)])) CW NW as d v t := s.fr fun x hx => kk x fun z => nq (z ▸ hx)
  have E2 : Ext bg H (upd H1 q (HO.dK [(Sum.inr y, v)])) := by
    have E1 := E0.trans E
    refine ⟨fun x o n e => ?_, ?_, fun x h => ?_⟩
    · rw [kk x (ne_of_none e hq)]
      exact E1.keep x o n e
    · obtain ⟨c, st, i', b', ns, h1, h2, h3⟩ := E1.bag
      refine ⟨c, st, i', b', ns, by rw [kk bg qb.symm]; exact h1, ?_, h3⟩
      rw [kk b' fun z => ?_]
      · exact h2
      · rw [z, e1] at h2
        cases h2
    · obtain ⟨c, st, i', e⟩ := E1.inn x h
      exact ⟨c, st, i', by rw [kk bg qb.symm]; exact e⟩
  refine k (.ref q) _ (q :: as) _ E2 (.dct upd_same (List.mem_cons_self ..) (fun b z => List.mem_cons_of_mem _ z) nq (.cons s2 .nil)) ?_ (fun x z => ?_)
  · refine Nat.le_trans (dictText_le _) ?_
    rw [piled_cons, piled_nil, strLen_append, strLen_append]
    have e1 : (((": " : String) : Str)).length = 2 := rfl
    omega
  · rcases List.mem_cons.mp z with y | y
    · rw [y, upd_same]
      exact ⟨hq, fun z => nomatch z⟩
    · rw [kk x fun z => nq (z ▸ y)]
      exact w.before E0 x y
end
end KaG


set_option maxRecDepth 100000
set_option maxHeartbeats 2000000
namespace KaG
open PySem PySem.Spec PyProof.Rows L2
/-- the read of xs[i] += e -/
def rGetL (K : PySem.W.Frag) : V → V → Hp → VK → Prop := fun o i H Q => ∃ p xs k v, o = .ref p ∧ i = .int k ∧ SqL K H p xs ∧ 0 ≤ k ∧ k < 1000 ∧ xs[k.toNat]? = some v ∧ Q v H
theorem get_listP {X : Cx} : PGet X (rGetL X.K) := by
  intro pins s σ H o i ov iv Q I ro ri h
  obtain ⟨p, xs, k, v, rfl, rfl, hq, h0, h1, e, q⟩ := h
  cases ro
  obtain ⟨t, rfl⟩ := ri
  obtain ⟨its, r, pl, hz⟩ := I.list hq
  obtain ⟨w, ew, rw'⟩ := r.get e
  exact wpAny_getItem_list pl.isList h0 (by omega) (by simpa using ew) ⟨v, H, I, rw', q⟩
def top (i : Nat) : Stmt := PySem.Challenge.pw_goneyet_k11_errors_apart.main.body.getD i (.Pass ⟨0, 0, 0, 0⟩)
abbrev sBag : Stmt := top 25
abbrev sTake : Stmt := top 26
abbrev sSome : Stmt := top 27
abbrev sAlike : Stmt := top 28
abbrev sOdd : Stmt := top 29
abbrev sWith : Stmt := top 30
abbrev sCls : Stmt := top 31
abbrev sCaught : Stmt := top 32
abbrev sLaw : Stmt := top 33
theorem scTake : FnScope ["bag", "upto", "cell", "stirred", "value", "begin", "second"] ["bag", "upto"] (defScope sTake) := ⟨rfl, rfl, rfl, by decide +kernel, rfl, by decide +kernel, by decide +kernel⟩
theorem scBag : FnScope ["script"] ["script"] (defScope sBag) := ⟨rfl, rfl, rfl, by decide +kernel, rfl, by decide +kernel, by decide +kernel⟩
theorem scSome : FnScope ["bag", "things"] ["bag", "things"] (defScope sSome) := ⟨rfl, rfl, rfl, by decide +kernel, rfl, by decide +kernel, by decide +kernel⟩
theorem scAlike : FnScope ["found", "due"] ["found", "due"] (defScope sAlike) := ⟨rfl, rfl, rfl, by decide +kernel, rfl, by decide +kernel, by decide +kernel⟩
theorem scOdd : FnScope ["bag", "some"] ["bag"] (defScope sOdd) := ⟨rfl, rfl, rfl, by decide +kernel, rfl, by decide +kernel, by decide +kernel⟩
theorem scCls : FnScope ["error", "told"] ["error"] (defScope sCls) := ⟨rfl, rfl, rfl, by decide +kernel, rfl, by decide +kernel, by decide +kernel⟩
theorem scCaught : FnScope ["value", "caught", "error"] ["value"] (defScope sCaught) := ⟨rfl, rfl, rfl, by decide +kernel, rfl, by decide +kernel, by decide +kernel⟩

theorem seqGo {a b : TS} {D : Ends} {σ : L2.St} {H : Hp} (R : TS → Ends → Prop) (hr : R b D) (hm : R b D → a { D with nx := fun σ' H' => b D σ' H' } σ H) : tSeq a b D σ H := hm hr
theorem bag_ne {H : Hp} {bg b : Addr} {c st i : Int} {ns : List Int} (e1 : H bg = some (.lst [.int c, .int st, .int i, .ref b])) (e2 : H b = some (.lst (ns.map V.int))) : b ≠ bg := by
  intro z
  rw [z, e1] at e2
  have e3 := HO.lst.inj (Option.some.inj e2)
  match ns, e3 with
  | [], e3 => simp at e3
  | [_], e3 => simp at e3
  | [_, _], e3 => simp at e3
  | [_, _, _], e3 => simp at e3
  | _ :: _ :: _ :: _ :: _, e3 => simp at e3
theorem Ext.put {H H1 : Hp} {bg b : Addr} {c st i c' st' i' : Int} {ns : List Int} (E : Ext bg H H1) (e1 : H1 bg = some (.lst [.int c, .int st, .int i, .ref b])) (e2 : H1 b = some (.lst (ns.map V.int))) (c0 : 0 ≤ c') (i0 : 0 ≤ i') (nl : ns.length ≤ 100) :
    Ext bg H (upd H1 bg (.lst [.int c', .int st', .int i', .ref b])) :=
  ⟨fun x o hx e => by rw [upd_ne hx]; exact E.keep x o hx e, ⟨c', st', i', b, ns, upd_same, by rw [upd_ne (bag_ne e1 e2)]; exact e2, c0, i0, nl⟩, fun x h => by
    obtain ⟨c2, s2, i2, z⟩ := E.inn x h
    rw [e1] at z
    cases z
    exact ⟨c', st', i', upd_same⟩⟩
theorem cut_ints (ns : List Int) (lo hi : Option Int) : ∃ ms : List Int, cutV (ns.map V.int) lo hi = ms.map V.int ∧ ms.length ≤ ns.length := by
  refine ⟨(ns.drop (HT.sIx (ns.map V.int).length 0 lo)).take (HT.sIx (ns.map V.int).length (ns.map V.int).length hi - HT.sIx (ns.map V.int).length 0 lo), ?_, ?_⟩
  · unfold cutV
    rw [← List.map_drop, ← List.map_take]
  · rw [List.length_take, List.length_drop]
    omega
theorem head_int : ∀ ms : List Int, ∃ z, atI (ms.map V.int ++ [V.int 0]) 0 = some (V.int z)
  | [] => ⟨0, rfl⟩
  | z :: _ => ⟨z, atI_nat (j := 0) rfl⟩
structure TxtB (mg : Str → Option Value) : Prop where
  abs : mg "abs" = none
  len : mg "len" = none
  int : mg "int" = none
  repr : mg "repr" = none
  isin : mg "isinstance" = none
  range : mg "range" = none
  list : mg "list" = none
  verr : mg "ValueError" = none
section
variable {P : Program} {w : World} {K : PySem.W.Frag} {mg : Str → Option Value} {base : Heap}
def spTake : Sp := fun vs H Q _ => ∃ (bg : Addr) (n : Int), vs = [.ref bg, .int n] ∧ Bag H bg ∧ 0 < n ∧ n ≤ 1000000 ∧ ∀ (z : Int) (H' : Hp), Ext bg H H' → 0 ≤ z → z < n → Q (.int z) H'
theorem bx (i : Nat) {X : Cx} {e : Expr} {pos : Pos} {te : TE} (h : PE X e te) {j : Int} {jp ip : _} : PE X (.Subscript e (.Constant (.int j) jp ip) pos) (tOp (rIxL X.K) te (tC (.int j))) := pe_ix ix_list h pe_int (fun _ _ => rfl)
theorem ok_take {f : Addr} {fd : FuncData} (F : Fun K "_law_take" "_law_take" sTake f fd) (T : TxtB mg) : FnOk P w K mg base CX0 1 f fd ["bag", "upto"] spTake := by
  refine F.ok scTake (fun vs H Q E h => ?_) (fun cdv A outer s H vs Q E hr h => ?_)
  · obtain ⟨bg, n, rfl, _⟩ := h
    rfl
  · obtain ⟨bg, n, rfl, hB, h0, h1, k⟩ := h
    refine ⟨_, pss_cons (ps_if (pt_cmpR op_eq (pe_ix ix_list (pv 0) pe_int (fun _ _ => rfl)) pe_int (nomark _))
        (pss_cons (ps_set (i := 2) scTake.nd rfl (Or.inl rfl) (pe_ix ix_list (pe_op op_cat (pe_slice sl_list (pe_ix ix_list (pv 0) pe_int (fun _ _ => rfl)) (po_some (pe_ix ix_list (pv 0) pe_int (fun _ _ => rfl))) po_none) (pe_lst (pa_cons pe_int pa_nil))) pe_int (fun _ _ => rfl)))
        (pss_cons (ps_augS (pv 0) pe_int get_listP pe_int ip_add set_list)
        (pss_cons (ps_if (pt_cmpR op_ge (pv 2) (pe_op op_pow pe_int pe_int) (nomark _)) (pss_one (ps_asg (pv 2) (pg_sub (pv 0) pe_int set_list))) pss_nil)
        (pss_cons (ps_set (i := 3) scTake.nd rfl (Or.inl rfl) (pe_op op_add (pe_op op_add (pe_op op_mul (pe_ix ix_list (pv 0) pe_int (fun _ _ => rfl)) pe_int) (pe_op op_mod (pe_callTy call_int1 (by rfl) T.int (by decide +kernel) (pa_cons (pv 2) pa_nil)) pe_int)) (pe_op op_mul pe_int (pe_ix ix_list (pv 0) pe_int (fun _ _ => rfl)))))
        (pss_one (ps_asg (pe_op op_mod (pe_callTy call_int1 (by rfl) T.int (by decide +kernel) (pa_cons (pv 3) pa_nil)) pe_int) (pg_sub (pv 0) pe_int set_list))))))) pss_nil)
      (pss_cons (ps_if (pt_cmpR op_gt (pe_ix ix_list (pv 0) pe_int (fun _ _ => rfl)) pe_int (nomark _))
        (pss_cons (ps_set (i := 4) scTake.nd rfl (Or.inl rfl) (pe_op op_mod (pe_callTy call_int1 (by rfl) T.int (by decide +kernel) (pa_cons (pe_ix ix_list (pv 0) pe_int (fun _ _ => rfl)) pa_nil)) (pv 1)))
        (pss_cons (ps_asg (pe_op op_fdivN (pe_callTy call_int1 (by rfl) T.int (by decide +kernel) (pa_cons (pe_ix ix_list (pv 0) pe_int (fun _ _ => rfl)) pa_nil)) (pv 1)) (pg_sub (pv 0) pe_int set_list))
        (pss_one (ps_ret (pv 4))))) pss_nil)
      (pss_cons (ps_set (i := 5) scTake.nd rfl (Or.inl rfl) (pe_op op_mod (pe_callTy call_int1 (by rfl) T.int (by decide +kernel) (pa_cons (pe_op op_mul (pe_op op_add (pe_ix ix_list (pv 0) pe_int (fun _ _ => rfl)) pe_int) pe_int) pa_nil)) pe_int))
      (pss_cons (ps_set (i := 6) scTake.nd rfl (Or.inl rfl) (pe_op op_mod (pe_callTy call_int1 (by rfl) T.int (by decide +kernel) (pa_cons (pe_op op_mul (pe_op op_mod (pe_callTy call_int1 (by rfl) T.int (by decide +kernel) (pa_cons (pe_op op_mul (pv 5) (pv 5)) pa_nil)) pe_int) pe_int) pa_nil)) pe_int))
      (pss_one (ps_ret (pe_op op_mod (pe_callTy call_int1 (by rfl) T.int (by decide +kernel) (pa_cons (pe_op op_fdivN (pv 6) pe_int) pa_nil)) (pv 1))))))), ?_⟩
    refine seqGo (fun b D => ∀ (x2 x3 : Option V) (H' : Hp), Ext bg H H' → b D [some (.ref bg), some (.int n), x2, x3, none, none, none] H') (fun x2 x3 H1 E1 => ?rest) (fun rest => ?_)
    case rest =>
      obtain ⟨c, st, i, b, ns, e1, e2, c0, i0, nl⟩ := E1.bag
      refine ⟨_, rfl, _, _, _, _, rfl, rfl, SqL.of e1, rfl, _, _, rfl, rfl, _, rfl, ite2 (fun hc => ?_) fun hc => ?_⟩
      · refine ⟨_, rfl, _, _, _, _, rfl, rfl, SqL.of e1, rfl, .inl ⟨_, rfl, _, rfl, _, _, rfl, rfl, h0, ?_⟩⟩
        refine ⟨_, rfl, _, _, _, _, rfl, rfl, SqL.of e1, rfl, .inl ⟨_, rfl, _, rfl, _, _, rfl, rfl, ⟨by omega, by omega⟩, _, rfl, ⟨_, _, _, 0, rfl, rfl, e1, rfl, ?_⟩⟩⟩
        refine ⟨_, rfl, ?_⟩
        exact k _ _ (E1.put e1 e2 (Int.fdiv_nonneg c0 (Int.le_of_lt h0)) i0 nl) (Int.emod_nonneg _ (by omega)) (Int.emod_lt_of_pos _ h0)
      · refine ⟨_, rfl, _, _, _, _, rfl, rfl, SqL.of e1, rfl, _, _, rfl, rfl, _, _, rfl, rfl, .inr ⟨by decide, by decide⟩, .inl ⟨_, rfl, _, _, rfl, rfl, by show (0 : Int) < 1000000007; decide, ?_⟩⟩
        refine ⟨_, rfl, _, rfl, _, _, rfl, rfl, .inl ⟨?_, ?_⟩, .inl ⟨_, rfl, _, _, rfl, rfl, by show (0 : Int) < 998244353; decide, _, _, rfl, rfl, .inr ⟨by decide, by decide⟩, .inl ⟨_, rfl, _, _, rfl, rfl, by show (0 : Int) < 998244353; decide, ?_⟩⟩⟩
        · have := Int.emod_nonneg ((st + 1) * 39373) (show (1000000007 : Int) ≠ 0 by decide); omega
        · have := Int.emod_lt_of_pos ((st + 1) * 39373) (show (0 : Int) < 1000000007 by decide); omega
        · refine ⟨_, rfl, _, _, rfl, rfl, ⟨by decide, by decide⟩, .inl ⟨_, rfl, _, rfl, _, _, rfl, rfl, h0, ?_⟩⟩
          exact k _ _ E1 (Int.emod_nonneg _ (by omega)) (Int.emod_lt_of_pos _ h0)
    obtain ⟨c, st, i, b, ns, e1, e2, c0, i0, nl⟩ := hB
    refine ⟨_, rfl, _, _, _, _, rfl, rfl, SqL.of e1, rfl, rfl, _, rfl, ite2 (fun hc => ?_) fun hc => ?_⟩
    · refine ⟨_, rfl, _, _, _, _, rfl, rfl, SqL.of e1, rfl, ?_⟩
      refine ⟨_, rfl, _, _, _, _, rfl, rfl, SqL.of e1, rfl, _, rfl, _, _, rfl, SqL.of e2, fun p1 hp1 => ⟨by show 1 ≤ sizeLine; decide, fun p2 hp2 => ?_⟩⟩
      obtain ⟨ms, em, hm⟩ := cut_ints ns (some i) none
      rw [em]
      have n21 : p1 ≠ p2 := fun z => by
        rw [← z, em, upd_same] at hp2
        cases hp2
      have s1 : Same H (upd H p1 (.lst (ms.map V.int))) := same_upd hp1
      rw [em] at hp2
      have s2 : Same H (upd (upd H p1 (.lst (ms.map V.int))) p2 (.lst [.int 0])) := KaG.Same.tr s1 (same_upd hp2)
      refine ⟨_, _, _, _, rfl, rfl, by rw [upd_ne n21, upd_same], upd_same, by rw [List.length_map]; exact Nat.le_of_lt (small1000 (by simp only [List.length_cons, List.length_nil]; omega)), fun p3 hp3 => ?_⟩
      obtain ⟨z, hz⟩ := head_int ms
      refine ⟨_, _, _, _, rfl, rfl, SqL.of upd_same, hz, ?_⟩
      have s3 := KaG.Same.tr s2 (same_upd (o := .lst (ms.map V.int ++ [V.int 0])) hp3)
      have B3 := Bag.same ⟨c, st, i, b, ns, e1, e2, c0, i0, nl⟩ s3
      have E3 := Ext.of_same ⟨c, st, i, b, ns, e1, e2, c0, i0, nl⟩ s3
      have f1 := s3 _ _ e1
      have f2 := s3 _ _ e2
      generalize upd (upd (upd H p1 (.lst (ms.map V.int))) p2 (.lst [.int 0])) p3 (.lst (ms.map V.int ++ [V.int 0])) = H3 at *
      refine ⟨_, rfl, _, _, _, _, rfl, rfl, SqL.of f1, by decide, by decide, rfl, _, _, rfl, rfl, ⟨_, _, _, 2, rfl, rfl, f1, rfl, ?_⟩⟩
      have E4 := E3.put (c' := c) (st' := st) (i' := i + 1) f1 f2 c0 (by omega) nl
      have g1 : upd H3 bg (.lst [.int c, .int st, .int (i + 1), .ref b]) bg = some (.lst [.int c, .int st, .int (i + 1), .ref b]) := upd_same
      have g2 : upd H3 bg (.lst [.int c, .int st, .int (i + 1), .ref b]) b = some (.lst (ns.map V.int)) := by rw [upd_ne (bag_ne e1 e2)]; exact f2
      dsimp only
      refine seqGo (fun b' D => ∀ (c' : Int) (H' : Hp), 0 ≤ c' → Ext bg H H' → H' bg = some (.lst [.int c', .int st, .int (i + 1), .ref b]) → H' b = some (.lst (ns.map V.int)) →
          b' D [some (.ref bg), some (.int n), some (.int z), none, none, none, none] H') (fun c' H5 c0' E5 x1 x2 => ?_) (fun rest2 => ?_)
      · refine ⟨_, rfl, _, _, _, _, rfl, rfl, SqL.of x1, rfl, _, _, rfl, rfl, .inr ⟨by decide, by decide⟩, _, rfl, .inl ⟨_, rfl, _, _, rfl, rfl, by show (0 : Int) < 2147483647; decide, _, _, rfl, rfl, ?_⟩⟩
        refine ⟨_, rfl, _, _, _, _, rfl, rfl, SqL.of x1, rfl, _, _, rfl, rfl, .inl ⟨by decide, by decide⟩, _, _, rfl, rfl, ?_⟩
        refine ⟨_, rfl, .inl ⟨_, rfl, _, _, rfl, rfl, by show (0 : Int) < 2147483647; decide, _, rfl, _, _, _, 1, rfl, rfl, x1, rfl, ?_⟩⟩
        exact rest _ _ _ (E5.put x1 x2 c0' (by omega) nl)
      · refine ⟨_, rfl, _, _, rfl, rfl, ⟨by decide, by decide, by decide⟩, _, _, rfl, rfl, _, rfl, ite2 (fun hg => ?_) fun hg => ?_⟩
        · have hg' : (10 : Int) ^ (18 : Int).toNat ≤ z := of_decide_eq_true hg
          have z0 : 0 ≤ z := Int.le_trans (by decide) hg'
          exact ⟨_, rfl, _, rfl, _, _, _, 0, rfl, rfl, g1, rfl, rest2 z _ z0 (E4.put g1 g2 z0 (by omega) nl) upd_same (by rw [upd_ne (bag_ne e1 e2)]; exact g2)⟩
        · exact rest2 c _ c0 E4 g1 g2
    · exact rest _ _ H (Ext.of_same ⟨c, st, i, b, ns, e1, e2, c0, i0, nl⟩ Same.refl')
end
end KaG


set_option maxRecDepth 100000
set_option maxHeartbeats 2000000
namespace KaG
open PySem PySem.Spec PyProof.Rows L2
section
variable {P : Program} {w : World} {K : PySem.W.Frag} {mg : Str → Option Value} {base : Heap}
structure Ct (P : Program) (w : World) (K : PySem.W.Frag) (mg : Str → Option Value) (base : Heap) (x : Str) (k : Nat) (ps : List Str) (sp : Sp) (f : Addr) (fd : FuncData) : Prop where
  G : FnOk P w K mg base CX0 k f fd ps sp
  m : mg x = some (.ref f)
  kp : PySem.W.keepIn K (.ref f) = true
  b : Binds K fd ps []
def spSome : Sp := fun vs H Q _ => ∃ (bg l : Addr) (xs : List V), vs = [.ref bg, .ref l] ∧ Bag H bg ∧ l ≠ bg ∧ H l = some (.lst xs) ∧ 0 < xs.length ∧ xs.length ≤ 1000 ∧ ∀ (i : Nat) (v : V) (H' : Hp), xs[i]? = some v → Ext bg H H' → Q v H'
theorem ok_some {f fT : Addr} {fd fdT : FuncData} (F : Fun K "_law_some" "_law_some" sSome f fd) (T : TxtB mg) (C : Ct P w K mg base "_law_take" 1 ["bag", "upto"] spTake fT fdT) : FnOk P w K mg base CX0 2 f fd ["bag", "things"] spSome := by
  refine F.ok scSome (fun vs H Q E h => ?_) (fun cdv A outer s H vs Q E hr h => ?_)
  · obtain ⟨bg, l, xs, rfl, _⟩ := h
    rfl
  · obtain ⟨bg, l, xs, rfl, hB, hne, hl, h0, h1, k⟩ := h
    refine ⟨_, pss_one (ps_ret (pe_ix ix_list (pv 1) (pe_call C.G hr (by rfl) C.m C.kp C.b .nil pass0 (pa_cons (pv 0) (pa_cons (pe_callB call_len_seq (by rfl) T.len PySem.boot_len (pa_cons (pv 1) pa_nil)) pa_nil))) (fun _ _ => rfl))), ?_⟩
    refine ⟨_, rfl, _, rfl, _, rfl, _, _, rfl, .inl (SqL.of hl), bg, (xs.length : Int), rfl, hB, by omega, by omega, fun z H' E1 z0 z1 => ?_⟩
    have hz : z.toNat < xs.length := by omega
    have ez : xs[z.toNat]? = some xs[z.toNat] := by simp [hz]
    have ea : atI xs z = some xs[z.toNat] := by
      have q := atI_nat ez
      rwa [show ((z.toNat : Nat) : Int) = z by omega] at q
    exact ⟨l, xs, z, _, rfl, rfl, SqL.of (E1.keep l _ hne hl), ea, k _ _ _ ez E1⟩
def spBag (K : PySem.W.Frag) : Sp := fun vs H Q _ => ∃ (a : Addr) (ns : List Int), vs = [.ref a] ∧ SqL K H a (ns.map V.int) ∧ ns.length ≤ 63 ∧ ∀ (bg : Addr) (H' : Hp), Same H H' → H bg = none → Bag H' bg → Q (.ref bg) H'
theorem scBag2 : FnScope ["script", "cell"] ["script"] (defScope sBag) := ⟨rfl, rfl, rfl, by decide +kernel, rfl, by decide +kernel, by decide +kernel⟩
theorem ok_bag {f : Addr} {fd : FuncData} (F : Fun K "_law_bag" "_law_bag" sBag f fd) (T : TxtB mg) : FnOk P w K mg base CX0 1 f fd ["script"] (spBag K) := by
  refine F.ok scBag2 (fun vs H Q E h => ?_) (fun cdv A outer s H vs Q E hr h => ?_)
  · obtain ⟨a, ns, rfl, _⟩ := h
    rfl
  · obtain ⟨a, ns, rfl, hS, hn, k⟩ := h
    refine ⟨_, pss_one (ps_ret (pe_lst (pa_cons pe_int (pa_cons pe_int (pa_cons pe_int (pa_cons (pe_lc (own := [("cell", 1)]) (g := gName 1) (by rfl) scBag2.nd (pi_list (pe_slice sl_list (pv 0) po_none (po_some pe_int)))
      (blkOk_by (own := [("cell", 1)]) (N := ["script", "cell"]) (sc := defScope sBag) (by decide +kernel)) (fun _ _ _ _ _ => pg_name (i := 1) scBag2.nd rfl (Or.inl rfl)) (fun _ _ _ _ _ => pts_nil)
      (fun _ _ _ _ _ => pe_callB call_abs (by rfl) T.abs (by decide +kernel) (pa_cons (pv 1) pa_nil))) pa_nil)))))), ?_⟩
    refine ⟨_, rfl, _, rfl, _, _, rfl, hS, fun p hp => ?_⟩
    obtain ⟨ms, em, hm⟩ := cut_ints ns none (some 63)
    rw [em]
    refine ⟨p, rfl, ?_⟩
    refine ⟨⟨_, SqL.of upd_same⟩, fun D hD => lc_list (K := K) (a := p) (xs := ms.map V.int) (fun i H' => ∃ qs : List Int, qs.length = i ∧ H' = upd (upd H p (.lst (ms.map V.int))) D (.lst (qs.map V.int))) ⟨[], rfl, rfl⟩ ?_ ?_ ?_⟩
    · rintro i H' _ ⟨qs, _, rfl⟩
      refine SqL.of ?_
      rw [upd_ne, upd_same]
      intro z
      rw [← z, upd_same] at hD
      cases hD
    · rintro i x H' hx ⟨qs, hq, rfl⟩
      have hi : i < ms.length := by
        have := (List.getElem?_eq_some_iff.mp hx).1
        rwa [List.length_map] at this
      rw [List.getElem?_map] at hx
      obtain ⟨z, hz, rfl⟩ := Option.map_eq_some_iff.mp hx
      refine ⟨rfl, ?_⟩
      unfold tYes
      dsimp only
      rw [if_pos rfl]
      refine ⟨_, rfl, _, rfl, _, upd_same, ?_, qs ++ [if z < 0 then -z else z], by rw [List.length_append, hq]; rfl, ?_⟩
      · rw [List.length_map]
        exact small1000 (by omega)
      · rw [upd_upd, List.map_append]
        rfl
    · rintro H' ⟨qs, hq, rfl⟩
      refine ⟨by show 4 ≤ sizeLine; decide, fun bg hb => ?_⟩
      have s1 : Same H (upd H p (.lst (ms.map V.int))) := same_upd hp
      have s2 : Same H (upd (upd H p (.lst (ms.map V.int))) D (.lst (qs.map V.int))) := KaG.Same.tr s1 (same_upd hD)
      have s3 := KaG.Same.tr s2 (same_upd (o := .lst [.int 0, .int 1234567891, .int 0, .ref D]) hb)
      refine k bg _ s3 ?_ ⟨0, 1234567891, 0, D, qs, upd_same, ?_, by decide, by decide, by rw [hq, List.length_map]; omega⟩
      · cases e : H bg with
        | none => rfl
        | some o => rw [s2 _ _ e] at hb; cases hb
      · rw [upd_ne (fun z => by rw [← z, upd_same] at hb; cases hb), upd_same]
end
end KaG


set_option maxRecDepth 100000
set_option maxHeartbeats 4000000
namespace KaG
open PySem PySem.Spec PyProof.Rows L2
section
variable {X : Cx} {CW : Addr} {NW : Str} {i : Nat} {bg : Addr} {d n : Nat} {e : Expr} {es : List Expr} {pos : Pos}
theorem pe_negC {j : Int} {jp ip p : _} : PE X (.UnaryOp .USub (.Constant (.int j) jp ip) p) (tC (.int (-j))) := pe_imp (pe_un un_neg pe_int) fun σ H Q q => ⟨_, rfl, q⟩
theorem pe_powC {a b : Int} {jp ip kp lp p : _} (hb : 0 ≤ b ∧ b ≤ 1000000 ∧ a.natAbs < 2 ^ 64) : PE X (.BinOp (.Constant (.int a) jp ip) .Pow (.Constant (.int b) kp lp) p) (tC (.int (a ^ b.toNat))) := pe_imp (pe_op op_pow pe_int pe_int) fun σ H Q q => ⟨_, _, rfl, rfl, hb, q⟩
theorem pe_gtupL {x1} (h : PA X es (tGs CW NW i bg d n es.length)) {d' n' : Nat} (hz : es.length ≤ 1000 := by decide) (hd : d + 1 ≤ d' := by decide) (hn : es.length * (n + 2) + 3 ≤ n' := by decide) : PE X (.Tuple es x1 pos) (tG CW NW i bg d' n') := pe_gw (pe_gtup h hz) hd hn
theorem pe_glstL (h : PA X es (tGs CW NW i bg d n es.length)) {d' n' : Nat} (hz : es.length ≤ 1000 := by decide) (hd : d + 1 ≤ d' := by decide) (hn : es.length * (n + 2) + 2 ≤ n' := by decide) : PE X (.List es pos) (tG CW NW i bg d' n') := pe_gw (pe_glst h hz) hd hn
end
section
variable {P : Program} {w : World} {K : PySem.W.Frag} {mg : Str → Option Value} {base : Heap} {CW : Addr} {NW : Str}
def oddList (j : Nat) : List Expr := match (defBody sOdd)[j]? with
  | some (.Assign _ (.List es _) _) => es
  | some (.Assign _ (.BinOp _ _ (.List es _) _) _) => es
  | _ => []
theorem odd0 {X : Cx} {bg : Addr} : PA X (oddList 0) (tGs CW NW 0 bg 3 200 19) := by
  show PA X [_, _, _, _, _, _, _, _, _, _, _, _, _, _, _, _, _, _, _] _
  repeat' first
    | exact pa_g0
    | refine pa_g1 ?_ ?_
    | exact pe_gleaf pe_non (fun _ => .non) (by decide +kernel)
    | exact pe_gleaf pe_bl (fun _ => .bl _) (by decide +kernel)
    | exact pe_gleaf pe_int (fun _ => .int _ (by decide +kernel)) (by decide +kernel)
    | exact pe_gleaf pe_str (fun _ => .str _) (by decide +kernel)
    | exact pe_gleaf pe_negC (fun _ => .int _ (by decide +kernel)) (by decide +kernel)
    | exact pe_gleaf (pe_powC (by decide)) (fun _ => .int _ (by decide +kernel)) (by decide +kernel)
theorem odd1 {X : Cx} {bg : Addr} : PA X (oddList 1) (tGs CW NW 0 bg 3 200 12) := by
  show PA X [_, _, _, _, _, _, _, _, _, _, _, _] _
  repeat' first
    | exact pa_g0
    | refine pa_g1 ?_ ?_
    | exact pe_gleaf pe_non (fun _ => .non) (by decide +kernel)
    | exact pe_gleaf pe_bl (fun _ => .bl _) (by decide +kernel)
    | exact pe_gleaf pe_int (fun _ => .int _ (by decide +kernel)) (by decide +kernel)
    | exact pe_gleaf pe_str (fun _ => .str _) (by decide +kernel)
    | exact pe_gleaf pe_negC (fun _ => .int _ (by decide +kernel)) (by decide +kernel)
    | exact pe_gw pe_gd0
    | refine pe_gw (pe_gd1 (d := 1) (n := 30) ?_ (by decide +kernel))
    | refine pe_gtupL (d := 1) (n := 30) (d' := 3) (n' := 200) ?_
    | refine pe_glstL (d := 1) (n := 30) (d' := 3) (n' := 200) ?_
    | refine pe_gtupL (d := 0) (n := 20) (d' := 1) (n' := 30) ?_
    | refine pe_glstL (d := 0) (n := 20) (d' := 1) (n' := 30) ?_
theorem odd2 {X : Cx} {bg : Addr} : PA X (oddList 2) (tGs CW NW 0 bg 3 200 5) := by
  show PA X [_, _, _, _, _] _
  repeat' first
    | exact pa_g0
    | refine pa_g1 ?_ ?_
    | exact pe_gleaf pe_non (fun _ => .non) (by decide +kernel)
    | exact pe_gleaf pe_bl (fun _ => .bl _) (by decide +kernel)
    | exact pe_gleaf pe_int (fun _ => .int _ (by decide +kernel)) (by decide +kernel)
    | exact pe_gleaf pe_str (fun _ => .str _) (by decide +kernel)
    | exact pe_gleaf pe_negC (fun _ => .int _ (by decide +kernel)) (by decide +kernel)
    | exact pe_gw pe_gd0
    | refine pe_gw (pe_gd1 (d := 1) (n := 30) ?_ (by decide +kernel))
    | refine pe_gtupL (d := 1) (n := 30) (d' := 3) (n' := 200) ?_
    | refine pe_glstL (d := 1) (n := 30) (d' := 3) (n' := 200) ?_
    | refine pe_gtupL (d := 0) (n := 20) (d' := 1) (n' := 30) ?_
    | refine pe_glstL (d := 0) (n := 20) (d' := 1) (n' := 30) ?_
theorem odd3 {X : Cx} {bg : Addr} : PA X (oddList 3) (tGs CW NW 0 bg 3 200 4) := by
  show PA X [_, _, _, _] _
  repeat' first
    | exact pa_g0
    | refine pa_g1 ?_ ?_
    | exact pe_gleaf pe_non (fun _ => .non) (by decide +kernel)
    | exact pe_gleaf pe_bl (fun _ => .bl _) (by decide +kernel)
    | exact pe_gleaf pe_int (fun _ => .int _ (by decide +kernel)) (by decide +kernel)
    | exact pe_gleaf pe_str (fun _ => .str _) (by decide +kernel)
    | exact pe_gleaf pe_negC (fun _ => .int _ (by decide +kernel)) (by decide +kernel)
    | exact pe_gw pe_gd0
    | refine pe_gw (pe_gd1 (d := 1) (n := 30) ?_ (by decide +kernel))
    | refine pe_gtupL (d := 1) (n := 30) (d' := 3) (n' := 200) ?_
    | refine pe_glstL (d := 1) (n := 30) (d' := 3) (n' := 200) ?_
    | refine pe_gtupL (d := 0) (n := 20) (d' := 1) (n' := 30) ?_
    | refine pe_glstL (d := 0) (n := 20) (d' := 1) (n' := 30) ?_
theorem odd4 {X : Cx} {bg : Addr} : PA X (oddList 4) (tGs CW NW 0 bg 3 200 2) := by
  show PA X [_, _] _
  repeat' first
    | exact pa_g0
    | refine pa_g1 ?_ ?_
    | exact pe_gleaf pe_non (fun _ => .non) (by decide +kernel)
    | exact pe_gleaf pe_bl (fun _ => .bl _) (by decide +kernel)
    | exact pe_gleaf pe_int (fun _ => .int _ (by decide +kernel)) (by decide +kernel)
    | exact pe_gleaf pe_str (fun _ => .str _) (by decide +kernel)
    | exact pe_gleaf pe_negC (fun _ => .int _ (by decide +kernel)) (by decide +kernel)
    | exact pe_gw pe_gd0
    | refine pe_gw (pe_gd1 (d := 1) (n := 30) ?_ (by decide +kernel))
    | refine pe_gtupL (d := 1) (n := 30) (d' := 3) (n' := 200) ?_
    | refine pe_glstL (d := 1) (n := 30) (d' := 3) (n' := 200) ?_
    | refine pe_gtupL (d := 0) (n := 20) (d' := 1) (n' := 30) ?_
    | refine pe_glstL (d := 0) (n := 20) (d' := 1) (n' := 30) ?_
end
end KaG


set_option maxRecDepth 100000
set_option maxHeartbeats 4000000
namespace KaG
open PySem PySem.Spec PyProof.Rows L2
section
variable {P : Program} {w : World} {K : PySem.W.Frag} {mg : Str → Option Value} {base : Heap} {CW : Addr} {NW : Str}
def spOdd (CW : Addr) (NW : Str) : Sp := fun vs H Q _ => ∃ bg : Addr, vs = [.ref bg] ∧ Bag H bg ∧ ∀ (v : V) (H' : Hp) (as : List Addr) (t : Str), Ext bg H H' → Sh H' CW NW as 3 v t → t.length ≤ 200 → Nw H H' as → Q v H'
/-- a list of m good values at l -/
structure OL (CW : Addr) (NW : Str) (bg : Addr) (H0 H : Hp) (l : Addr) (m : Nat) : Prop where
  ext : Ext bg H0 H
  new : H0 l = none
  it : ∃ xs as ts, H l = some (.lst xs) ∧ ShA H CW NW as 3 xs ts ∧ (∀ t ∈ ts, t.length ≤ 200) ∧ Nw H0 H as ∧ xs.length = m
theorem newAt {bg : Addr} {H0 H : Hp} {l : Addr} (E : Ext bg H0 H) (h : H l = none) : H0 l = none := by
  cases e : H0 l with
  | none => rfl
  | some o => exact absurd h (E.stay (by rw [e]; exact fun z => nomatch z))
theorem OL.start {bg : Addr} {H0 H1 : Hp} {l : Addr} {xs : List V} {as : List Addr} {ts : List Str} (E : Ext bg H0 H1) (s : ShA H1 CW NW as 3 xs ts) (ht : ∀ t ∈ ts, t.length ≤ 200) (n : Nw H0 H1 as) (hl : H1 l = none) : OL CW NW bg H0 (upd H1 l (.lst xs)) l xs.length :=
  ⟨E.new hl, newAt E hl, xs, as, ts, upd_same, s.same (same_upd hl) fun b z => (n b z).2, ht, n.ext (Ext.of_same E.bag (same_upd hl)), rfl⟩
theorem OL.more {bg : Addr} {H0 H H1 : Hp} {l l2 : Addr} {m : Nat} {zs : List V} {bs : List Addr} {us : List Str} (hb : Bag H0 bg) (O : OL CW NW bg H0 H l m) (E : Ext bg H H1) (s : ShA H1 CW NW bs 3 zs us) (hu : ∀ t ∈ us, t.length ≤ 200) (n : Nw H H1 bs)
    (h2 : H1 l2 = none) : ∃ xs, upd H1 l2 (.lst zs) l = some (.lst xs) ∧ xs.length = m ∧ ∀ l3, upd H1 l2 (.lst zs) l3 = none → OL CW NW bg H0 (upd (upd H1 l2 (.lst zs)) l3 (.lst (xs ++ zs))) l3 (m + zs.length) := by
  obtain ⟨E0, l0, xs, as, ts, e1, sA, ht, nA, hm⟩ := O
  have lb : l ≠ bg := fun z => hb.there (z ▸ l0)
  have Ea : Ext bg H (upd H1 l2 (.lst zs)) := E.new h2
  refine ⟨xs, Ea.keep l _ lb e1, hm, fun l3 h3 => ?_⟩
  have Eb : Ext bg H (upd (upd H1 l2 (.lst zs)) l3 (.lst (xs ++ zs))) := Ea.new h3
  have Ec : Ext bg H1 (upd (upd H1 l2 (.lst zs)) l3 (.lst (xs ++ zs))) := ((Ext.of_same E.bag Same.refl').new h2).new h3
  refine ⟨E0.trans Eb, newAt (E0.trans Ea) h3, xs ++ zs, as ++ bs, ts ++ us, upd_same, ?_, ?_, ?_, by rw [List.length_append, hm]⟩
  · have a1 := (sA.ext (nA.out hb.there) Eb fun b z => (nA b z).2).wide (bs := as ++ bs) (fun _ z => List.mem_append_left _ z) (Nat.le_refl _)
    have a2 := (s.ext (n.out E0.bag.there) Ec fun b z => (n b z).2).wide (bs := as ++ bs) (fun _ z => List.mem_append_right _ z) (Nat.le_refl _)
    exact a1.app a2
  · intro t h
    rcases List.mem_append.mp h with q | q
    · exact ht t q
    · exact hu t q
  · intro b h
    rcases List.mem_append.mp h with q | q
    · exact nA.ext Eb b q
    · exact (n.ext Ec).before E0 b q
theorem ok_odd {f fS : Addr} {fd fdS : FuncData} (F : Fun K "_law_odd" "_law_odd" sOdd f fd) (C : Ct P w K mg base "_law_some" 2 ["bag", "things"] spSome fS fdS) : FnOk P w K mg base CX0 3 f fd ["bag"] (spOdd CW NW) := by
  refine F.ok scOdd (fun vs H Q E h => ?_) (fun cdv A outer s H vs Q E hr h => ?_)
  · obtain ⟨bg, rfl, _⟩ := h
    rfl
  · obtain ⟨bg, rfl, hB, k⟩ := h
    refine ⟨_, pss_cons (ps_set (i := 1) scOdd.nd rfl (Or.inl rfl) (pe_lst (odd0 (CW := CW) (NW := NW) (bg := bg))))
      (pss_cons (ps_set (i := 1) scOdd.nd rfl (Or.inl rfl) (pe_op op_cat (pv 1) (pe_lst (odd1 (CW := CW) (NW := NW) (bg := bg)))))
      (pss_cons (ps_set (i := 1) scOdd.nd rfl (Or.inl rfl) (pe_op op_cat (pv 1) (pe_lst (odd2 (CW := CW) (NW := NW) (bg := bg)))))
      (pss_cons (ps_set (i := 1) scOdd.nd rfl (Or.inl rfl) (pe_op op_cat (pv 1) (pe_lst (odd3 (CW := CW) (NW := NW) (bg := bg)))))
      (pss_cons (ps_set (i := 1) scOdd.nd rfl (Or.inl rfl) (pe_op op_cat (pv 1) (pe_lst (odd4 (CW := CW) (NW := NW) (bg := bg)))))
      (pss_one (ps_ret (pe_call C.G hr (by rfl) C.m C.kp C.b .nil pass0 (pa_cons (pv 0) (pa_cons (pv 1) pa_nil))))))))), ?_⟩
    have rest : ∀ (H1 : Hp) (l : Addr), OL CW NW bg H H1 l 42 → tCall spSome [] E0 (tCons (tVar 0) (tCons (tVar 1) tNil)) [some (.ref bg), some (.ref l)] H1 Q := by
      intro H1 l O
      obtain ⟨E0, l0, xs, as, ts, e1, sA, ht, nA, hm⟩ := O
      refine ⟨_, rfl, _, rfl, bg, l, xs, rfl, E0.bag, fun z => hB.there (z ▸ l0), e1, by omega, by omega, fun j v H2 ej E2 => ?_⟩
      obtain ⟨t, mt, st⟩ := sA.get ej
      exact k v H2 as t (E0.trans E2) (st.ext (nA.out hB.there) E2 fun b z => (nA b z).2) (ht t mt) (nA.ext E2)
    have sz : ∀ {m : Nat}, m ≤ 100 → m ≤ sizeLine := fun h => Nat.le_of_lt (small1000 (by omega))
    refine ⟨⟨hB, rfl⟩, fun vs H1 as ts E1 s1 l1 m1 n1 => ⟨sz (by omega), fun p1 hp1 => ?_⟩⟩
    have O1 := OL.start E1 s1 l1 n1 hp1
    rw [m1] at O1
    generalize upd H1 p1 (.lst vs) = G1 at O1 ⊢
    refine ⟨_, rfl, ⟨O1.ext.bag, rfl⟩, fun zs H2 bs us E2 s2 l2 m2 n2 => ⟨sz (by omega), fun q2 hq2 => ?_⟩⟩
    obtain ⟨ys, f1, f2, f3⟩ := O1.more hB E2 s2 l2 n2 hq2
    refine ⟨_, _, ys, zs, rfl, rfl, f1, upd_same, sz (by omega), fun q3 hq3 => ?_⟩
    have O2 := f3 q3 hq3
    rw [m2] at O2
    clear f1 f2 f3 s2 l2 n2 E2
    generalize upd (upd H2 q2 (.lst zs)) q3 (.lst (ys ++ zs)) = G2 at O2 ⊢
    clear hq2 hq3 m2
    refine ⟨_, rfl, ⟨O2.ext.bag, rfl⟩, fun zs H2 bs us E2 s2 l2 m2 n2 => ⟨sz (by omega), fun q2 hq2 => ?_⟩⟩
    obtain ⟨ys, f1, f2, f3⟩ := O2.more hB E2 s2 l2 n2 hq2
    refine ⟨_, _, ys, zs, rfl, rfl, f1, upd_same, sz (by omega), fun q3 hq3 => ?_⟩
    have O3 := f3 q3 hq3
    rw [m2] at O3
    clear f1 f2 f3 s2 l2 n2 E2
    generalize upd (upd H2 q2 (.lst zs)) q3 (.lst (ys ++ zs)) = G3 at O3 ⊢
    clear hq2 hq3 m2
    refine ⟨_, rfl, ⟨O3.ext.bag, rfl⟩, fun zs H2 bs us E2 s2 l2 m2 n2 => ⟨sz (by omega), fun q2 hq2 => ?_⟩⟩
    obtain ⟨ys, f1, f2, f3⟩ := O3.more hB E2 s2 l2 n2 hq2
    refine ⟨_, _, ys, zs, rfl, rfl, f1, upd_same, sz (by omega), fun q3 hq3 => ?_⟩
    have O4 := f3 q3 hq3
    rw [m2] at O4
    clear f1 f2 f3 s2 l2 n2 E2
    generalize upd (upd H2 q2 (.lst zs)) q3 (.lst (ys ++ zs)) = G4 at O4 ⊢
    clear hq2 hq3 m2
    refine ⟨_, rfl, ⟨O4.ext.bag, rfl⟩, fun zs H2 bs us E2 s2 l2 m2 n2 => ⟨sz (by omega), fun q2 hq2 => ?_⟩⟩
    obtain ⟨ys, f1, f2, f3⟩ := O4.more hB E2 s2 l2 n2 hq2
    refine ⟨_, _, ys, zs, rfl, rfl, f1, upd_same, sz (by omega), fun q3 hq3 => ?_⟩
    have O5 := f3 q3 hq3
    rw [m2] at O5
    clear f1 f2 f3 s2 l2 n2 E2
    generalize upd (upd H2 q2 (.lst zs)) q3 (.lst (ys ++ zs)) = G5 at O5 ⊢
    clear hq2 hq3 m2
    exact rest _ _ O5
end
end KaG


set_option maxRecDepth 100000
set_option maxHeartbeats 2000000
namespace KaX
open PySem PySem.Builtin PySem.Builtin.BaseException
open PySem.W (Looks Frag findIn subIn looks_findIn looks_subIn clsIn)
section
variable {prog : Program} {w : World} {A : Around} {E : Value → Shared → Prop} {s : Shared} {K : Frag} {C e t0 : Addr}
theorem rc_self (x : ExcC K C e t0 s.heap) (hE : findIn K (.ref C) "__eq__" = some (some (.builtin "object.__eq__"))) (hO : subIn K (.ref C) (.type "object") = some true) (hu : A.units < cLine) {Q : Value → Shared → Prop} (q : Q (.bool true) s) :
    wpAny (model prog w) A (richCompare .Eq (.ref e) (.ref e)) Q E s := by
  have hf : Looks (model prog w) s.heap (typeLookup (.ref C) "__eq__") (some (.builtin "object.__eq__")) := looks_findIn x.1 hE
  have LI : Looks (model prog w) s.heap (isInstance (.ref e) (.type "object")) true := x.LT.andThen (looks_subIn x.1 hO)
  have call_ : wpAny (model prog w) A (call (.builtin "object.__eq__") [.ref e, .ref e]) (fun v s' => v = .bool true ∧ s' = s) E s := by
    refine wpAny_call (codeAny_call_builtin F.cmp_object.eq.plain F.cmpEntry_eq ?_)
    refine PySem.W.check_slot (i := "object.__eq__") (owner := "object") (n := "__eq__") F.cmpKind_eq F.cmpSplit_eq LI (F.cmpArgs_eq _ _) ?_
    exact objEq_entry_same ⟨rfl, rfl⟩
  unfold richCompare
  refine wpAny_holding (wpAny_bind (wpAny_cRoomFor hu ?_))
  have h1 : oneThing? .Eq (.ref e) (.ref e) = none := rfl
  simp only [h1, cmpInfo]
  refine wpAny_bind (x.LT.here (wpAny_bind (x.LT.here ?_)))
  simp only [bne_self_eq_false, Bool.false_eq_true, if_false]
  refine wpAny_bind (wpAny_pure ?_)
  simp only [Bool.false_eq_true, if_false]
  refine wpAny_bind ?_
  unfold tryCompare
  refine wpAny_bind ?_
  simp only [callSpecialIfBound?, bindSpecialIfBound?]
  refine wpAny_holding (wpAny_bind (wpAny_bind ?_))
  unfold specialOf
  refine wpAny_bind (x.LT.here (hf.here ?_))
  simp only [F.cmp_object.eq.bind]
  refine wpAny_bind (wpAny_askSetting (wpAny_ite ?_))
  split
  · refine wpAny_bind (wpAny_pure (wpAny_pure ?_))
    dsimp only
    refine wpAny_bind (wpAny_mono call_ (fun v s' hv => ?_) fun _ _ z => z)
    obtain ⟨rfl, rfl⟩ := hv
    exact wpAny_pure (wpAny_pure (wpAny_pure q))
  · refine wpAny_tryCatch (wpAny_bind (wpAny_pure (wpAny_pure ?_)))
    dsimp only
    refine wpAny_bind (wpAny_mono call_ (fun v s' hv => ?_) fun _ _ z => z)
    obtain ⟨rfl, rfl⟩ := hv
    exact wpAny_pure (wpAny_pure (wpAny_pure q))
end
end KaX


set_option maxRecDepth 100000
set_option maxHeartbeats 2000000
namespace KaX
open PySem PySem.Builtin PySem.Builtin.BaseException
open PySem.W (Looks Frag findIn subIn looks_findIn looks_subIn clsIn)
section
variable {prog : Program} {w : World} {A : Around} {E : Value → Shared → Prop} {s : Shared} {K : Frag} {C e t0 : Addr}
theorem bexcCall {nm : Str} {cd : ClassData} {N T : Str} {u0 : Value} {d0 : Nat} {as : List Addr} {h₀ : Heap} {g : List Code} (x : ExcC K C e t0 s.heap) (hc : clsIn K C = some cd) (hn : cd.name = nm) (hN : Str.ofString ((nm.toString.cutAt '.').getLastD "") = N)
    (hB : subIn K (.ref C) (.type "BaseException") = some true)
    (ht : s.heap.TupAt t0 [u0]) (hu0 : ReprK prog w as h₀ d0 u0 T) (hg : A.guards = some g) (hcl : ∀ b ∈ as, Clear g b) (hu : A.units + 1 + d0 < cLine) (hk : ∀ b o, h₀.get? b = some o → s.heap.get? b = some o) {Q : Value → Shared → Prop}
    (hq : ∀ u h' tk, (∀ b o, s.heap.get? b = some o → h'.get? b = some o) → Q (.str (N ++ Str.ofString "(" ++ T ++ Str.ofString ")") u) { s with heap := h', toks := tk })
    (hsz : (N ++ Str.ofString "(" ++ T ++ Str.ofString ")").length ≤ sizeLine) :
    wpAny (model prog w) A (call (.builtin "BaseException.__repr__") [.ref e]) Q E s := by
  refine wpAny_call (codeAny_call_builtin F.excStr_Exception.repr.plain F.entry_bexc_repr ?_)
  refine PySem.W.check_slot (i := "BaseException.__repr__") (owner := "BaseException") (n := "__repr__") (by decide +kernel) (by decide +kernel) (x.LI hB) (F.args_bexc_repr _) ?_
  unfold «BaseException.__repr__»
  exact wpAny_mono (bra 0 x hc hn hN ht hu0 (by exact hg) hcl (show A.units + 1 + d0 < cLine by omega) hk (fun u h' tk k => hq u h' tk k) (by rw [Nat.zero_add]; exact hsz)) (fun _ _ z => z) fun _ _ z => z
theorem call_repr_C {nm : Str} {cd : ClassData} {N T : Str} {u0 : Value} {d0 : Nat} {as : List Addr} {h₀ : Heap} {g : List Code} (x : ExcC K C e t0 s.heap) (hc : clsIn K C = some cd) (hn : cd.name = nm) (hN : Str.ofString ((nm.toString.cutAt '.').getLastD "") = N)
    (hB : subIn K (.ref C) (.type "BaseException") = some true) (hR : findIn K (.ref C) "__repr__" = some (some (.builtin "BaseException.__repr__")))
    (ht : s.heap.TupAt t0 [u0]) (hu0 : ReprK prog w as h₀ d0 u0 T) (hg : A.guards = some g) (hcl : ∀ b ∈ as, Clear g b) (hu : A.units + 2 + d0 < cLine) (hk : ∀ b o, h₀.get? b = some o → s.heap.get? b = some o) {Q : Value → Shared → Prop}
    (hq : ∀ u h' tk, (∀ b o, s.heap.get? b = some o → h'.get? b = some o) → Q (.str (N ++ Str.ofString "(" ++ T ++ Str.ofString ")") u) { s with heap := h', toks := tk })
    (hsz : (N ++ Str.ofString "(" ++ T ++ Str.ofString ")").length ≤ sizeLine) :
    wpAny (model prog w) A (call (.builtin "repr") [.ref e]) Q E s := by
  have hf : Looks (model prog w) s.heap (typeLookup (.ref C) "__repr__") (some (.builtin "BaseException.__repr__")) := looks_findIn x.1 hR
  have fin : wpAny (model prog w) A.in1 (call (.builtin "BaseException.__repr__") [.ref e]) (fun v s' => ∃ y u, v = .str y u ∧ Q (.str y u) s') E s :=
    bexcCall x hc hn hN hB ht hu0 (by exact hg) hcl (show A.units + 1 + 1 + d0 < cLine by omega) hk (fun u h' tk k => ⟨_, _, rfl, hq u h' tk k⟩) hsz
  refine Calls.call_function_entry F.kind_repr F.plain_repr F.entry_repr (F.args_repr1 _) ?_
  unfold Builtin.«repr»
  refine wpAny_bind (m := oneArg "repr" _) (wpAny_pure ?_)
  refine wpAny_bind (wpAny_cRoomFor (show A.in1.units < cLine by show A.units + 1 < cLine; omega) ?_)
  refine wpAny_bind ?_
  unfold specialOf
  refine wpAny_bind (x.LT.here (hf.here ?_))
  simp only [Option.isNone_some, Bool.false_eq_true, if_false]
  refine wpAny_bind ?_
  simp only [callSpecialIfBound?, bindSpecialIfBound?]
  refine wpAny_holding (wpAny_bind (wpAny_bind ?_))
  unfold specialOf
  refine wpAny_bind (x.LT.here (hf.here ?_))
  simp only [F.excStr_Exception.repr.bind]
  refine wpAny_bind (wpAny_askSetting (wpAny_ite ?_))
  split
  · refine wpAny_bind (wpAny_pure (wpAny_pure ?_))
    dsimp only [List.append_nil]
    refine wpAny_bind (wpAny_mono fin (fun v s' hv => ?_) fun _ _ z => z)
    obtain ⟨y, u, rfl, hq⟩ := hv
    refine wpAny_pure ?_
    exact wpAny_bind (wpAny_isInstance (T := "str") (b := true) rfl isSubtype_str_str (wpAny_pure ⟨_, rfl, hq⟩))
  · refine wpAny_tryCatch (wpAny_bind (wpAny_pure (wpAny_pure ?_)))
    dsimp only [List.append_nil]
    refine wpAny_bind (wpAny_mono fin (fun v s' hv => ?_) fun _ _ z => z)
    obtain ⟨y, u, rfl, hq⟩ := hv
    refine wpAny_pure ?_
    exact wpAny_bind (wpAny_isInstance (T := "str") (b := true) rfl isSubtype_str_str (wpAny_pure ⟨_, rfl, hq⟩))
end
end KaX


set_option maxRecDepth 100000
set_option maxHeartbeats 2000000
namespace KaG
open PySem PySem.Spec PyProof.Rows L2
section
variable {X : Cx} {CW : Addr} {NW : Str}
def rRepr (CW : Addr) (NW : Str) : List V → Hp → VK → Prop := fun xs H Q => ∃ v as d t, xs = [v] ∧ Sh H CW NW as d v t ∧ d ≤ 20 ∧ t.length ≤ sizeLine ∧ Q (.str t) H
theorem call_reprS (T : WrK X.K CW NW) (hg : X.A.guards = some []) (hu : X.A.units + 60 < cLine) : CallR X (.builtin "repr") (rRepr CW NW) := by
  intro pins s σ H xs us Q I r h
  obtain ⟨v, as, d, t, rfl, hS, hd, hz, q⟩ := h
  obtain ⟨u, rfl, rv⟩ := vals1 r
  have fin : ∀ (x : Tok) (h' : Heap) (tk : Nat), (∀ b o, s.heap.get? b = some o → h'.get? b = some o) → EP X pins σ Q (.str t x) { s with heap := h', toks := tk } := fun x h' tk k => ⟨.str t, H, I.kept k, ⟨_, rfl⟩, q⟩
  have cl : ∀ (as : List Addr), ∀ b ∈ as, Clear [] b := fun _ b _ => Clear.nil b
  cases hS with
  | non => cases (show u = Value.none from rv); exact PySem.P.repr_of_none (fin _ _ _ fun _ _ e => e)
  | bl b => cases (show u = Value.bool b from rv); exact PySem.P.repr_of_bool (fin _ _ _ fun _ _ e => e)
  | int i hi =>
    obtain ⟨tk, e⟩ := (show ∃ t, u = Value.int i t from rv)
    cases e
    exact PySem.P.repr_of_int hi (fin _ _ _ fun _ _ e => e)
  | str x =>
    obtain ⟨tk, e⟩ := (show ∃ t, u = Value.str x t from rv)
    cases e
    exact PySem.P.repr_of_str (fin _ _ _ fun _ _ e => e) hz
  | @lst as0 _ d a xs ts e ha hs hn hi =>
    cases (show u = Value.ref a from rv)
    obtain ⟨_, its, n, rv, ho⟩ := (show ObjOk X.prog X.w H s.heap a (.lst xs) from I.hok a _ e)
    have hA := ShA.run T I.kIn I.hok hi its rv
    refine call_repr_slot (by omega) ⟨_, ho, rfl⟩ F.slot_list_repr.toG ?_
    cases its with
    | nil =>
      cases hA
      rw [listText_nil] at fin
      exact call_list_repr_empty ⟨_, ho, rfl⟩ ho rfl ⟨_, _, rfl, fin _ _ _ fun _ _ e => e⟩
    | cons x l =>
      exact call_list_reprK ho rfl rfl hn (by simpa using hA.length_eq) (fun i y q => hA.item i y (by simpa using q)) (by exact hg) (cl _) (by show X.A.units + 1 + (d + 1) < cLine; omega) (fun _ _ e => e) (fun h' x tk k => ⟨_, _, rfl, fin x h' tk k⟩) hz
  | @tup as0 _ d a xs ts e ha hs hn hi =>
    cases (show u = Value.ref a from rv)
    obtain ⟨_, its, rv, o, ho, hc, n, hd'⟩ := (show ObjOk X.prog X.w H s.heap a (.tup xs) from I.hok a _ e)
    have hA := ShA.run T I.kIn I.hok hi its rv
    refine call_repr_slot (by omega) ⟨o, ho, hc⟩ F.slot_tuple_repr ?_
    exact call_tuple_reprK ho hc hd' hn (by simpa using hA) (by exact hg) (cl _) (by show X.A.units + 1 + (d + 1) < cLine; omega) (fun _ _ e => e) (fun h' x tk k => ⟨_, _, rfl, fin x h' tk k⟩) hz
  | @dct as0 _ d a kvs ps e ha hs hn hi =>
    cases (show u = Value.ref a from rv)
    obtain ⟨_, hsys, vs, kv, o, es, ep, ho, hx, hd', _, hp, _⟩ := (show ObjOk X.prog X.w H s.heap a (.dK kvs) from I.hok a _ e)
    have hE := ShD.run T I.kIn I.hok hi vs kv es.toList hp
    refine call_repr_slot (by omega) ⟨o, ho, hx.1⟩ F.slot_dict_repr ?_
    exact call_dict_reprK ho hx.1 hd' hsys hn hE (by exact hg) (cl _) (by show X.A.units + 1 + (d + 1) < cLine; omega) (fun _ _ e => e) (fun h' x tk k => ⟨_, _, rfl, fin x h' tk k⟩) hz
  | @exc as0 _ d a dd t1 v t e et ha ht hd hs hi =>
    cases (show u = Value.ref a from rv)
    have ho := exw_at I.hok e
    obtain ⟨_, its, rv, o, hto, hc, n, hd'⟩ := (show ObjOk X.prog X.w H s.heap t1 (.tup [v]) from I.hok t1 _ et)
    cases rv with
    | cons r1 r2 =>
      cases r2
      obtain ⟨cd, hcd, hN⟩ := T.cl
      have x : ExcC X.K CW a t1 s.heap := ⟨I.kIn, _, _, ho, rfl, rfl, rfl⟩
      exact KaX.call_repr_C x hcd rfl hN T.ex T.rp ⟨o, n, hto, hc, hd'⟩ (Sh.run T I.kIn I.hok hi _ r1) hg (cl _) (by omega) (fun _ _ e => e) fin hz

/-- alike: two lists of the very same things, or one and the same thing -/
def Alk (CW : Addr) (NW : Str) (K : PySem.W.Frag) (H : Hp) (x y : V) : Prop :=
  (∃ a b xs, x = .ref a ∧ y = .ref b ∧ H a = some (.lst xs) ∧ H b = some (.lst xs) ∧ ∀ v ∈ xs, flatB v = true ∨ ∃ c, v = .ref c) ∨ (x = y ∧ ∃ as d t, Sh H CW NW as d x t)
theorem paired_self {F : V → V → Prop} : ∀ {xs : List V}, (∀ v ∈ xs, F v v) → Paired F xs xs
  | [], _ => .nil
  | v :: r, h => .cons (h v (List.mem_cons_self ..)) (paired_self fun u hu => h u (List.mem_cons_of_mem _ hu))
theorem sh_flat {H : Hp} {as : List Addr} {d : Nat} {v : V} {t : Str} (h : Sh H CW NW as d v t) : flatB v = true ∨ ∃ c, v = .ref c := by
  cases h with
  | non => exact .inl rfl
  | bl b => exact .inl rfl
  | int i hi => exact .inl rfl
  | str x => exact .inl rfl
  | lst => exact .inr ⟨_, rfl⟩
  | tup => exact .inr ⟨_, rfl⟩
  | dct => exact .inr ⟨_, rfl⟩
  | exc => exact .inr ⟨_, rfl⟩
theorem eqv_self {K : PySem.W.Frag} {H : Hp} {v : V} (h : flatB v = true ∨ ∃ c, v = .ref c) : EqV K H 1 v v := by
  rcases h with h | ⟨c, rfl⟩
  · exact .inl ⟨rfl, h⟩
  · exact .inr (.inl ⟨c, rfl, rfl⟩)
theorem shA_flat {H : Hp} : ∀ {as : List Addr} {d : Nat} {vs : List V} {ts : List Str}, ShA H CW NW as d vs ts → ∀ v ∈ vs, flatB v = true ∨ ∃ c, v = .ref c
  | _, _, _, _, .nil, _, h => nomatch h
  | _, _, _, _, .cons h r, v, m => by
    rcases List.mem_cons.mp m with z | z
    · rw [z]; exact sh_flat h
    · exact shA_flat r v z
theorem shD_flat {H : Hp} : ∀ {as : List Addr} {d : Nat} {kvs : List (Key × V)} {ts : List Str}, ShD H CW NW as d kvs ts → ∀ p ∈ kvs, flatB p.2 = true ∨ ∃ c, p.2 = .ref c
  | _, _, _, _, .nil, _, h => nomatch h
  | _, _, _, _, .cons h r, v, m => by
    rcases List.mem_cons.mp m with z | z
    · rw [z]; exact sh_flat h
    · exact shD_flat r v z
theorem kv_keys : ∀ {kvs : List (Key × V)} {vs : List (Key × Value)}, KV kvs vs → kvs.map (·.1) = vs.map (·.1)
  | _, _, .nil => rfl
  | _, _, .cons h r => by rw [List.map_cons, List.map_cons, h.1, kv_keys r]
theorem valV_in : ∀ {kvs : List (Key × V)} {p : Key × V}, (kvs.map (·.1)).Nodup → p ∈ kvs → valV kvs p.1 = some p.2
  | [], _, _, h => nomatch h
  | q :: r, p, nd, m => by
    rw [List.map_cons, List.nodup_cons] at nd
    rcases List.mem_cons.mp m with z | z
    · rw [z]
      exact valV_pos rfl
    · have ne : q.1 ≠ p.1 := fun e => nd.1 (by rw [e]; exact List.mem_map_of_mem z)
      have ih := valV_in nd.2 z
      unfold valV at ih ⊢
      rw [List.find?_cons]
      have ed : decide (q.1 = p.1) = false := decide_eq_false ne
      rw [ed]
      exact ih
theorem op_eqA (T : WrK X.K CW NW) (hu : X.A.units + 64 < cLine) : OpR X (compareOp .Eq) (fun x y H Q => Alk CW NW X.K H x y ∧ Q (.bl true) H) := by
  intro pins s σ H x y v u Q I rx ry h
  obtain ⟨h, q⟩ := h
  rcases h with ⟨a, b, xs, rfl, rfl, ha, hb, hx⟩ | ⟨rfl, as, d, t, hS⟩
  · exact op_eqV hu pins s σ H _ _ v u Q I rx ry ⟨1, by decide, .inl ⟨a, b, xs, xs, rfl, rfl, SqL.of ha, SqL.of hb, paired_self fun v m => eqv_self (hx v m)⟩, q⟩
  · have flat : ∀ (k : V), k = x → scal k k = true → wpAny (model X.prog X.w) X.A (compareOp .Eq v u) (EP X pins σ Q) X.xe s := by
      intro k e hk
      subst e
      exact op_eq pins s σ H _ _ v u Q I rx ry ⟨hk, by rw [decide_eq_true rfl]; exact q⟩
    cases hS with
    | non => exact flat .non rfl rfl
    | bl b => exact flat (.bl b) rfl rfl
    | int i hi => exact flat (.int i) rfl rfl
    | str z => exact flat (.str z) rfl rfl
    | @lst as0 _ d a xs ts e ha hs hn hi => exact op_eqV hu pins s σ H _ _ v u Q I rx ry ⟨1, by decide, .inl ⟨a, a, xs, xs, rfl, rfl, SqL.of e, SqL.of e, paired_self fun v m => eqv_self (shA_flat hi v m)⟩, q⟩
    | @tup as0 _ d a xs ts e ha hs hn hi =>
      cases (show v = Value.ref a from rx)
      cases (show u = Value.ref a from ry)
      obtain ⟨_, its, rv, o, ho, hc, n, hd'⟩ := (show ObjOk X.prog X.w H s.heap a (.tup xs) from I.hok a _ e)
      have it : s.heap.IsTuple a its.toArray := ⟨o, ho, hc, n, hd'⟩
      refine SeqAt.eq_tupleAt (e := fun _ => true) it it (by omega) (fun j h1 h2 => SeqAt.EqAt.same _) ?_
      have er : ((List.range (min its.toArray.size its.toArray.size)).all (fun _ => true) && its.toArray.size == its.toArray.size) = true := by simp
      rw [er]
      exact ⟨.bl true, H, I, rfl, q⟩
    | @dct as0 _ d a kvs ps e ha hs hn hi =>
      have nd : (kvs.map (·.1)).Nodup := by
        obtain ⟨_, _, vs, kv, _, _, _, _, _, _, _, _, hnd⟩ := (show ObjOk X.prog X.w H s.heap a (.dK kvs) from I.hok a _ e)
        rw [kv_keys kv]
        exact hnd
      refine op_eqV hu pins s σ H _ _ v u Q I rx ry ⟨1, by decide, .inr ⟨a, a, kvs, kvs, rfl, rfl, e, e, rfl, fun p m => ⟨p.2, valV_in nd m, eqv_self (shD_flat hi p m)⟩⟩, q⟩
    | @exc as0 _ d a dd t1 z t e et ha ht hd hs hi =>
      cases (show v = Value.ref a from rx)
      cases (show u = Value.ref a from ry)
      have ho := exw_at I.hok e
      have x : ExcC X.K CW a t1 s.heap := ⟨I.kIn, _, _, ho, rfl, rfl, rfl⟩
      exact KaX.rc_self x T.eq T.ob (by omega) ⟨.bl true, H, I, rfl, q⟩
end
end KaG


set_option maxRecDepth 100000
set_option maxHeartbeats 2000000
namespace KaG
open PySem PySem.Spec PyProof.Rows L2
section
variable {P : Program} {w : World} {K : PySem.W.Frag} {mg : Str → Option Value} {base : Heap} {CW : Addr} {NW : Str}
def spAlike (CW : Addr) (NW : Str) (K : PySem.W.Frag) : Sp := fun vs H Q _ => ∃ (x y : V) (as bs : List Addr) (d e : Nat) (t : Str), vs = [x, y] ∧ Alk CW NW K H x y ∧ Sh H CW NW as d x t ∧ Sh H CW NW bs e y t ∧ d ≤ 20 ∧ e ≤ 20 ∧ t.length ≤ sizeLine ∧ Q (.bl true) H
theorem ok_alike {f : Addr} {fd : FuncData} (F : Fun K "_law_alike" "_law_alike" sAlike f fd) (T : TxtB mg) (W : WrK K CW NW) : FnG false P w K mg base CX0 1 f fd ["found", "due"] (spAlike CW NW K) := by
  refine fnG_of F scAlike (fun vs H Q E h => ?_) (fun cdv A outer s H vs Q E hr hc h => ?_)
  · obtain ⟨x, y, as, bs, d, e, t, rfl, _⟩ := h
    rfl
  · obtain ⟨x, y, as, bs, d, e, t, rfl, hA, h1, h2, h3, h4, h5, k⟩ := h
    have u64 : (A.deeper (envOfC "_law_alike" (defScope sAlike) s.heap.objs.size f cdv)).units + 64 < cLine := by have := hr.un; omega
    have u60 : (A.deeper (envOfC "_law_alike" (defScope sAlike) s.heap.objs.size f cdv)).units + 60 < cLine := by have := hr.un; omega
    refine ⟨_, pss_one (ps_ret (pe_and (pe_cmpR (op_eqA (CW := CW) (NW := NW) (by exact W) u64) (pv 0) (pv 1) (nomark _))
      (pe_one (pe_cmpR op_eq (pe_callB (call_reprS (CW := CW) (NW := NW) (by exact W) hr.gd u60) (by rfl) T.repr (by decide +kernel) (pa_cons (pv 0) pa_nil))
        (pe_callB (call_reprS (CW := CW) (NW := NW) (by exact W) hr.gd u60) (by rfl) T.repr (by decide +kernel) (pa_cons (pv 1) pa_nil)) (nomark _))))), ?_⟩
    refine ⟨_, rfl, _, rfl, hA, true, rfl, ?_⟩
    refine iteT ⟨_, rfl, _, _, _, _, rfl, h1, h3, h5, _, rfl, _, _, _, _, rfl, h2, h4, h5, rfl, ?_⟩
    rw [decide_eq_true rfl]
    exact k
end
end KaG


set_option maxRecDepth 100000
set_option maxHeartbeats 4000000
namespace KaG
open PySem PySem.Spec PyProof.Rows L2
abbrev excOb (C : Addr) (d : Option Addr) (t1 : Addr) : Obj := { cls := .ref C, dict := d, data := .fields #[.ref t1, .none, .none, .none, .bool false, .none] }
theorem exw_no {e C t1 : Addr} {d : Option Addr} {o : HO} (h : ∀ φ, o ≠ .ext φ) : exw e C d t1 ≠ o := fun z => h _ z.symm
section
variable {X : Cx} {pins : List (Addr × Obj)} {σ : L2.St} {H : Hp} {s : Shared} {a C dx t1 : Addr} {f : Str} {y : V} {u : Value} {fs : List (Str × V)} {Q : Unit → Shared → Prop} {E : Value → Shared → Prop} {A : Around}
/-- the first field of a fresh exception is stored -/
theorem stw_new (T : OexC X.K C) (I : Inv X pins σ H s) (e : H a = some (exw a C none t1)) (hno : PySem.W.findIn X.K (.ref C) f = some none) (ry : RelV y u)
    (k : ∀ dx s', H dx = none → dx ≠ a → Inv X pins σ (upd (upd H dx (exd dx [(f, y)])) a (exw a C (some dx) t1)) s' → Q () s') : wpAny (model X.prog X.w) A (setAttr (.ref a) f u) Q E s := by
  obtain ⟨nm, q, N, bs, bm, sn, sub, ab, col, dd, k0, k1, k2, k3, k5, hC, hbm⟩ := T.cls
  have hcl : PySem.W.clsIn X.K C = some { name := nm, bases := bs, mro := .ref C :: bm, ns := N, qualname := q, hasDict := true, slotNames := sn, subclasses := sub, abstract := ab, collection := col, hasDel := false } := by unfold PySem.W.clsIn; rw [hC] <;> rfl
  have ho := exw_at I.hok e
  obtain ⟨hp, g, d, t, os⟩ := s
  refine PySem.W.set_plain I.kIn (ox := excOb C none t1) (od := none) ⟨ho, rfl, rfl, trivial⟩ T.sa ?_
  refine PySem.HandSPX.exc_osa I.kIn ho hcl (show PySem.HandSPX.refsVE (.ref C :: bm) = true from hbm) rfl hno ?_
  intro h' tk' dx kk dn dne hx hn
  have free : H dx = none := I.hok.fresh dn
  have far : ∀ {b : Addr} {o : Obj}, hp.get? b = some o → b ≠ dx := fun z => Nat.ne_of_lt (Nat.lt_of_lt_of_le (Heap.lt_size z) dn)
  have off : ∀ {b : Addr} {o : HO}, H b = some o → (∀ φ, o ≠ .ext φ) → b ≠ a := fun {b o} z w r => by
    rw [r, e] at z
    exact exw_no w (Option.some.inj z)
  have offN : ∀ {b : Addr}, H b = none → b ≠ a := fun {b} z r => by
    rw [r, e] at z
    cases z
  have same : ∀ {b : Addr}, b ≠ a → b ≠ dx → upd (upd H dx (exd dx [(f, y)])) a (exw a C (some dx) t1) b = H b := fun h1 h2 => by rw [upd_ne h1, upd_ne h2]
  have U : Un X.fs [] H (upd (upd H dx (exd dx [(f, y)])) a (exw a C (some dx) t1)) hp h' := {
    keep := fun b o z n _ _ => kk b o (offN n) z
    slot := fun b o z n _ _ => ⟨o.slots, kk b o (offN n) z⟩
    free := fun b o z n _ => by rw [same (offN n) (far z)]; exact n
    there := fun b o z _ => by
      by_cases hb : b = a
      · rw [hb]; exact ⟨_, hx⟩
      · exact ⟨o, kk b o hb z⟩
    tups := fun b xs z => by rw [same (off z (fun φ h => nomatch h)) (ne_of_none z free)]; exact z
    frzs := fun b o v z => by rw [same (off z (fun φ h => nomatch h)) (ne_of_none z free)]; exact z
    tbls := fun b ps z => ⟨#[], by rw [same (off z (fun φ h => nomatch h)) (ne_of_none z free), z]; simp⟩ }
  refine k dx _ free dne (I.un (t' := tk') U ?_)
  intro b o z
  by_cases hb : b = a
  · subst hb
    rw [upd_same] at z
    cases z
    exact exw_ok hx
  · by_cases hd : b = dx
    · subst hd
      rw [upd_ne hb, upd_same] at z
      cases z
      exact exd_ok hn (relO_put (fs := []) ry fun g => True.intro)
    · rw [same hb hd] at z
      refine (I.hok b o z).stay (fun c v hc w => kk c v ?_ w) (fun c hc => ?_) (fun c xs hc => ?_)
      · rcases hc with hc | hc
        · rw [hc]; exact hb
        · exact off hc (fun φ h => nomatch h)
      · rw [same (off hc (fun φ h => nomatch h)) (ne_of_none hc free)]; exact hc
      · rw [same (off hc (fun φ h => nomatch h)) (ne_of_none hc free)]; exact hc
/-- a further field -/
theorem stw_more (T : OexC X.K C) (I : Inv X pins σ H s) (e : H a = some (exw a C (some dx) t1)) (ed : H dx = some (exd dx fs)) (hl : fs.length ≤ 900) (hno : PySem.W.findIn X.K (.ref C) f = some none) (ry : RelV y u)
    (k : ∀ s', Inv X pins σ (upd H dx (exd dx ((f, y) :: fs))) s' → Q () s') : wpAny (model X.prog X.w) A (setAttr (.ref a) f u) Q E s := by
  obtain ⟨nm, q, N, bs, bm, sn, sub, ab, col, dd, k0, k1, k2, k3, k5, hC, hbm⟩ := T.cls
  have hcl : PySem.W.clsIn X.K C = some { name := nm, bases := bs, mro := .ref C :: bm, ns := N, qualname := q, hasDict := true, slotNames := sn, subclasses := sub, abstract := ab, collection := col, hasDel := false } := by unfold PySem.W.clsIn; rw [hC] <;> rfl
  have ho := exw_at I.hok e
  obtain ⟨mA, hns, rel⟩ := exd_at I.hok ed
  have hw := within_of rel
  obtain ⟨hp, g, d, t, os⟩ := s
  obtain ⟨oD, _, _, hoD, _, _⟩ := hns.count hw
  refine PySem.W.set_plain I.kIn (ox := excOb C (some dx) t1) (od := some oD) ⟨ho, rfl, rfl, hoD⟩ T.sa ?_
  refine PySem.OEX.osa_old I.kIn ho hns hw (by rw [List.length_map]; omega) hcl (show PySem.HandSPX.refsVE (.ref C :: bm) = true from hbm) rfl hno ?_
  intro h' tk' kk hn
  have hd : ∃ o, h'.get? dx = some o := by
    obtain ⟨o, _, _, z, _⟩ := hn
    exact ⟨o, z⟩
  exact k _ (I.write (t' := tk') (x := dx) (e := dx) (o := exd dx ((f, y) :: fs)) (by rw [ed]; exact True.intro) (.inl rfl) kk hd (exd_ok hn (relO_put ry rel)))
end
/-- self.f = e in such an __init__ -/
def tStw (K : PySem.W.Frag) (f : Str) (to te : TE) : TS := fun D σ H => te σ H fun y H1 => to σ H1 fun x H2 => ∃ a C t1 : Addr, x = .ref a ∧ OexC K C ∧ PySem.W.findIn K (.ref C) f = some none ∧
  ((H2 a = some (exw a C none t1) ∧ ∀ dx, H2 dx = none → dx ≠ a → D.nx σ (upd (upd H2 dx (exd dx [(f, y)])) a (exw a C (some dx) t1))) ∨
    ∃ (dx : Addr) (fs : List (Str × V)), H2 a = some (exw a C (some dx) t1) ∧ H2 dx = some (exd dx fs) ∧ fs.length ≤ 900 ∧ D.nx σ (upd H2 dx (exd dx ((f, y) :: fs))))
theorem ps_stw {X : Cx} {o e : Expr} {to te : TE} {f : Str} {p' pos : Pos} (ho : PE X o to) (he : PE X e te) (hs : swapsWith e (some (.Attribute o f p')) pos.line X.env = pure false := by rfl) : PS X (.Assign [.Attribute o f p'] e pos) (tStw X.K f to te) := by
  refine ⟨fun pins s σ H D I h => ?_⟩
  refine plainObj_wpAny_Assign_Attribute (thn (he.run pins s σ H _ I h) fun v s1 ⟨y, H1, I1, r1, q1⟩ => thn (ho.run pins s1 σ H1 _ I1 q1) fun u s2 z => ?_) hs
  obtain ⟨x, H2, I2, r2, a, C, t1, rfl, T, hno, q⟩ := z
  obtain rfl : u = Value.ref a := r2
  rcases q with ⟨ea, q⟩ | ⟨dx, fs, ea, ed, hl, q⟩
  · exact stw_new T I2 ea hno r1 fun dx s' n ne J => ⟨σ, _, J, q dx n ne⟩
  · exact stw_more T I2 ea ed hl hno r1 fun s' J => ⟨σ, _, J, q⟩
end KaG


set_option maxRecDepth 100000
set_option maxHeartbeats 4000000
namespace KaG
open PySem PySem.Spec PyProof.Rows L2
def bmVE : List Value := [.type "ValueError", .type "Exception", .type "BaseException", .type "object"]
/-- C(e, ..), C's own __init__ keeping sp: the exception as a value -/
def tMkw (C : Addr) (sp : Sp) (ta : TA) : TE := fun σ H Q => ta σ H fun vs H1 => vs.length ≤ 1000 ∧ ∀ t1 a, H1 t1 = none → upd H1 t1 (.tup vs) a = none →
  sp (.ref a :: vs) (upd (upd H1 t1 (.tup vs)) a (exw a C none t1)) (fun v H2 => v = .non ∧ Q (.ref a) H2) (fun _ _ _ => False)
/-- C(), C without an __init__ -/
def tMk0 (C : Addr) : TE := fun _ H Q => ∀ a t1, H a = none → Q (.ref a) (upd H a (exw a C none t1))
section
variable {X : Cx} {x : Str} {C fI : Addr} {k : Nat} {fd : FuncData} {ps : List Str} {sp : Sp} {e : Expr} {es : List Expr} {ta : TA} {p pos : Pos}
theorem pe_mkw (T : OexC X.K C) (iC : PySem.W.findIn X.K (.ref C) "__init__" = some (some (.ref fI))) (tI : PySem.W.typeIn X.K (.ref fI) = some (.type "function")) (F1 : FnOk X.prog X.w X.K X.mg X.base CX0 k fI fd ps sp)
    (hr : Room (k + 1) X.A) (hb : Binds X.K fd ps []) (hg : Gl X x) (hm : X.mg x = some (.ref C)) (ha : PA X (e :: es) ta) (hdb : (x == ("__debug__" : Str)) = false := by decide)
    (he : starEach (e :: es) X.env = (false, eval e X.env) :: starEach es X.env := by rfl) (hpl : (backTo pos (starEach es X.env)).any (·.1) = false := by rfl) : PE X (.Call (.Name x p) (e :: es) [] pos) (tMkw C sp ta) := by
  refine ⟨fun pins s σ H Q I h => ?_⟩
  obtain ⟨nm, q, N, bs, bm, sn, sub, ab, col, dd, k0, k1, k2, k3, k5, hC, hbm⟩ := T.cls
  refine wpAny_Call_Name_kw (ld_glob I hg hm ?_ hdb)
  refine PySem.W.callWith_K (h₀ := X.base) I.ok.mod.kin T.kC (thn (ha.run pos pins s σ H _ I h) fun us s1 z => ?_) he hpl
  obtain ⟨vs, H1, I1, r1, hz, q1⟩ := z
  refine ⟨I1.kIn, ?_⟩
  show wpAny _ _ (call (.ref C) us) _ _ _
  obtain ⟨hp, g, dr, tk, os⟩ := s1
  have hus : us.length ≤ sizeLine := by
    rw [← Paired.length r1, sizeLine_eq]
    omega
  have keep1 : ∀ b o, hp.get? b = some o → (hp.push (PySem.W.kdv_tup us)).get? b = some o := fun b o z => Heap.get?_push_of_some _ z
  have keep2 : ∀ b o, (hp.push (PySem.W.kdv_tup us)).get? b = some o → ((hp.push (PySem.W.kdv_tup us)).push (PySem.HandSPX.excO C hp.objs.size)).get? b = some o := fun b o z => Heap.get?_push_of_some _ z
  have get1 : (hp.push (PySem.W.kdv_tup us)).get? hp.objs.size = some (PySem.W.kdv_tup us) := by heap_get
  have get2 : ((hp.push (PySem.W.kdv_tup us)).push (PySem.HandSPX.excO C hp.objs.size)).get? (hp.objs.size + 1) = some (PySem.HandSPX.excO C hp.objs.size) := by heap_get
  have J1 : Inv X pins σ (upd H1 hp.objs.size (.tup vs)) ⟨hp.push (PySem.W.kdv_tup us), g, dr, tk, os⟩ :=
    I1.laid (t' := tk) (a := hp.objs.size) (o := .tup vs) (h' := hp.push (PySem.W.kdv_tup us)) keep1 (Nat.le_refl _) ⟨by rw [sizeLine_eq]; omega, us, r1, _, get1, rfl, _, rfl⟩
  have n1 : H1 hp.objs.size = none := I1.hok.fresh (Nat.le_refl _)
  have sz2 : (hp.push (PySem.W.kdv_tup us)).objs.size ≤ hp.objs.size + 1 := by rw [Heap.size_push]; exact Nat.le_refl _
  have J2 : Inv X pins σ (upd (upd H1 hp.objs.size (.tup vs)) (hp.objs.size + 1) (exw (hp.objs.size + 1) C none hp.objs.size)) ⟨(hp.push (PySem.W.kdv_tup us)).push (PySem.HandSPX.excO C hp.objs.size), g, dr, tk, os⟩ :=
    J1.laid (t' := tk) (a := hp.objs.size + 1) (o := exw (hp.objs.size + 1) C none hp.objs.size) (h' := (hp.push (PySem.W.kdv_tup us)).push (PySem.HandSPX.excO C hp.objs.size)) keep2 sz2 (exw_ok get2)
  have hq := q1 hp.objs.size (hp.objs.size + 1) n1 (J1.hok.fresh sz2)
  have r2 : Vals (V.ref (hp.objs.size + 1) :: vs) (Value.ref (hp.objs.size + 1) :: us) := .cons rfl r1
  have hl : (Value.ref (hp.objs.size + 1) :: us).length = ps.length := r2.length.symm.trans (F1.len _ _ _ _ hq)
  have bd := hb ⟨(hp.push (PySem.W.kdv_tup us)).push (PySem.HandSPX.excO C hp.objs.size), g, dr, tk, os⟩ (Value.ref (hp.objs.size + 1) :: us) J2.kIn (by rw [List.append_nil]; exact hl)
  rw [List.append_nil] at bd
  refine wpAny_call (PySem.HandSPX.call_own F.excBase_ValueError (fun Y => PySem.HandSPX.refsVE_contains Y bm hbm) (I1.kIn _ _ hC) (PySem.W.looks_findIn I1.kIn iC) (fun self => PySem.W.bind_fn I1.kIn self tI) hus
    (codeAny_mono (F1.run _ X.stack _ _ ⟨Value.ref (hp.objs.size + 1) :: us, []⟩ (Value.ref (hp.objs.size + 1) :: us) _ _ (fun _ _ _ => False) (hr.make C us []) (J2.env0.make C us []) bd r2 hq) fun r s' hq' => ?_))
  rcases r with er | fl
  · exact hq'.elim
  · cases fl with
    | ret u =>
      obtain ⟨v, H2, J3, rv, ev, q2⟩ := J2.after hq'
      subst ev
      exact ⟨rv, .ref (hp.objs.size + 1), H2, J3, rfl, q2⟩
    | next => exact hq'.elim
    | brk => exact hq'.elim
    | cont => exact hq'.elim
theorem pe_mk0w (q : PySem.W.excIn X.K C bmVE "ValueError.__new__" = true) (kC : PySem.W.keepIn X.K (.ref C) = true) (hg : Gl X x) (hm : X.mg x = some (.ref C)) (hdb : (x == ("__debug__" : Str)) = false := by decide) :
    PE X (.Call (.Name x p) [] [] pos) (tMk0 C) := by
  refine ⟨fun pins s σ H Q I h => ?_⟩
  refine wpAny_Call_Name_kw (ld_glob I hg hm ?_ hdb)
  refine PySem.W.callWith_K0 I.kIn kC ?_
  obtain ⟨bm, N, nm, qn, bs, hdct, sn, sub, ab, col, dd, k0, k1, k2, k3, k5, mN, hC, hN, hni, T⟩ := exc_obj I.kIn q
  refine wpAny_call_exc_subT F.excBase_ValueError T hC hN hni (fun h' a hm => ?_) (Nat.zero_le _)
  have hn : H a = none := I.hok.gone hm.new
  obtain ⟨t, ht, _, _⟩ := hm.there
  exact ⟨.ref a, upd H a (exw a C none t), I.laidN hm.keeps hm.new hn (exw_ok ht), rfl, h a t hn⟩
end
end KaG


set_option maxRecDepth 100000
set_option maxHeartbeats 4000000
namespace KaG
open PySem PySem.Spec PySem.Calls PyProof.Rows
section
variable {prog : Program} {w : World} {A : Around} {E : Value → Shared → Prop} {s : Shared} {K : PySem.W.Frag} {x D : Addr} {ox : Obj} {od : Option Obj}
open PySem.W
theorem find_data {C : Addr} {name : Str} {a g : Value} (hc : (clsIn K C).isSome = true) (ha : findIn K (.ref C) name = some (some a)) (hg : specialIn K a "__get__" = some (some g)) (ht : takesIn K a = some true) : findObj K C od name = some (.bind g a) := by
  obtain ⟨cd, hc⟩ := Option.isSome_iff_exists.mp hc
  unfold findObj
  rw [hc, Option.bind_some, ha, Option.bind_some]
  simp [hg, ht]
/-- x.__class__, x an exception with or without a dict of its own -/
theorem class_w (T : L2.ExcC K D) (X : K.In s.heap) (I : InstAt s.heap x ox D od) {Q : Option Value → Shared → Prop} (h : Q (some (.ref D)) { s with toks := s.toks + 1 }) : wpAny (model prog w) A (getAttr? (.ref x) "__class__") Q E s := by
  have hf : findObj K D od "__class__" = some (.bind (.builtin "getset_descriptor.__get__") (.builtin "object.__class__")) := find_data (by obtain ⟨cd, hc, _⟩ := any_some T.hd; rw [hc]; rfl) T.ha T.hn T.ht
  obtain ⟨hp, g, d, t, os⟩ := s
  have L0 := I.type (M := model prog w)
  have L1 := looks_findIn (M := model prog w) X T.hg
  have L2' := looks_findIn (M := model prog w) X T.hk
  have L3 := looks_find (M := model prog w) X I hf
  have sub : Looks (model prog w) hp (isInstance (.ref x) (.type "BaseException")) true := L0.andThen (looks_subIn X T.hs)
  have z2 : (Value.builtin "BaseException.__getattribute__" == Value.builtin "object.__getattribute__") = false := by decide +kernel
  have z1 : (onTheHeap (Value.ref D) && Value.builtin "BaseException.__getattribute__" == Value.builtin "object.__getattribute__") = false := by rw [z2]; rfl
  unfold getAttr? getAttrBy? getAttrBy
  refine wpAny_bind (wpAny_mkText (wpAny_bind (wpAny_attempt (wpAny_holding (wpAny_bind (L0.at (wpAny_bind (L1.at ?_))))))))
  show wpAny _ _ (if (onTheHeap (Value.ref D) && Value.builtin "BaseException.__getattribute__" == Value.builtin "object.__getattribute__") = true then _ else _) _ _ _
  rw [z1, if_neg Bool.false_ne_true]
  unfold getAttrByItsOwn hookBefore
  refine wpAny_bind ?_
  rw [if_pos (show onTheHeap (Value.ref D) = true from rfl)]
  refine L2'.at (wpAny_bind (wpAny_attempt (wpAny_holding ?_)))
  unfold callGetattribute
  rw [show (false && onTheHeap (Value.builtin "BaseException.__getattribute__")) = false from rfl, if_neg Bool.false_ne_true]
  unfold boundAndCalled
  rw [PySem.F.excAttr_ValueError.ga.bind (.ref x)]
  refine wpAny_bind (wpAny_pure ?_)
  show wpAny _ _ (call (.builtin "BaseException.__getattribute__") [.ref x, .str "__class__" t]) _ _ _
  refine wpAny_call (codeAny_call_builtin PySem.F.excAttr_ValueError.ga.plain PySem.F.entry_bexc_ga ?_)
  refine @check_slot (model prog w) _ _ ⟨hp, g, d, t + 1, os⟩ "BaseException.__getattribute__" "BaseException" "__getattribute__" (.ref x) [.str "__class__" t] [] _ (by decide +kernel) (by decide +kernel) sub (PySem.F.args_bexc_ga (.ref x) (.str "__class__" t)) ?_
  unfold Builtin.«object.__getattribute__»
  refine wpAny_bind (wpAny_of_eq (a := ((Value.ref x : Value), [Value.str "__class__" t])) (by first | rfl | (simp only [slotArgs]; rfl)) ?_)
  refine wpAny_bind (wpAny_pure (wpAny_bind (L0.at (wpAny_bind (L3.at ?_)))))
  show wpAny _ _ (holding [Value.builtin "object.__class__"] (call (.builtin "getset_descriptor.__get__") [.builtin "object.__class__", .ref x, .ref D]) >>= ret) _ _ _
  refine wpAny_bind (wpAny_holding (wpAny_call (class_get (s := ⟨hp, g, d, t + 1, os⟩) (ox := ox) (od := od) X I T.hm (wpAny_pure ?_))))
  show wpAny _ _ (handedOut (.ref D)) _ _ _
  rw [handedOut_of (v := .ref D) rfl]
  first
    | exact wpAny_pure (wpAny_pure h)
    | exact wpAny_pure h
    | exact wpAny_pure (wpAny_bind (wpAny_pure (wpAny_pure h)))
theorem kit_w (T : L2.ExcC K D) : KitX K (.ref x) (.ref D) (fun h => ∃ ox od, InstAt h x ox D od) where
  ty := fun _ _ _ ⟨_, _, I⟩ => I.type
  it := fun _ _ X _ => by
    obtain ⟨cdD, hcD, _⟩ := any_some T.hd
    unfold clsIn at hcD
    split at hcD
    · rename_i c' d' cd' sl' ho
      intro A' Q' E' s' k q
      unfold isType loadHead
      exact wpAny_bind (wpAny_loadPart (k _ _ (X _ _ ho)) (wpAny_pure q))
    · cases hcD
  ne := fun h tp dd its n sl X htp => by
    obtain ⟨cdD, hcD, _⟩ := any_some T.hd
    refine Bool.eq_false_iff.mpr fun q => ?_
    obtain rfl : D = tp := Value.ref.inj (beq_iff_eq.mp q)
    unfold clsIn at hcD
    split at hcD
    · rename_i c' d' cd' sl' ho
      cases (X _ _ ho).symm.trans htp
    · cases hcD
  ca := fun X ⟨_, _, I⟩ k => class_w T X I k
end
section
open L2
variable {X : Cx}
/-- an exception at a, as an instance -/
theorem exw_inst {P : Program} {w : World} {H : Hp} {h : Heap} {a C t1 : Addr} {d : Option Addr} (hok : HOk P w H h) (e : H a = some (exw a C d t1)) (hd : ∀ b, d = some b → ∃ fs, H b = some (exd b fs)) : ∃ od, PySem.W.InstAt h a (excOb C d t1) C od := by
  have ho := exw_at hok e
  cases d with
  | none => exact ⟨none, ho, rfl, rfl, trivial⟩
  | some b =>
    obtain ⟨fs, eb⟩ := hd b rfl
    obtain ⟨mA, hns, _⟩ := exd_at hok eb
    obtain ⟨oD, _, _, hoD, _, _⟩ := hns
    exact ⟨some oD, ho, rfl, rfl, hoD⟩
/-- isinstance(e, c), e an exception that stands in the heap -/
def rIsW (K : PySem.W.Frag) : List V → Hp → VK → Prop := fun xs H Q => ∃ (a C t1 : Addr) (d : Option Addr) (c : V) (u : Value) (b : Bool), xs = [.ref a, c] ∧ ClsV c u ∧ L2.ExcC K C ∧ H a = some (exw a C d t1) ∧ (∀ b, d = some b → ∃ fs, H b = some (exd b fs)) ∧ PySem.W.kitOne K (.ref C) u = some b ∧ Q (.bl b) H
theorem call_isW : CallR X (.builtin "isinstance") (rIsW X.K) := by
  intro pins s σ H xs us Q I r h
  obtain ⟨a, C, t1, d, c, u, b, rfl, k, T, e, hd, ek, q⟩ := h
  obtain ⟨u1, u2, rfl, r1, r2⟩ := vals2 r
  have e2 := k.eq r2
  subst e2
  cases (show u1 = Value.ref a from r1)
  obtain ⟨od, J⟩ := exw_inst I.hok e hd
  exact PySem.W.kia_one (kit_w T) I.kIn ⟨_, _, J⟩ ek (fun z => nomatch z) fun tk => ⟨.bl b, H, I.tok tk, rfl, q⟩
/-- e.f, e an exception that stands in the heap -/
def tXw (K : PySem.W.Frag) (f : Str) (te : TE) : TE := fun σ H Q => te σ H fun x H1 => ∃ (a C t1 dx : Addr) (fs : List (Str × V)) (v : V), x = .ref a ∧ XfC K C ∧ PySem.W.findIn K (.ref C) f = some none ∧ H1 a = some (exw a C (some dx) t1) ∧ H1 dx = some (exd dx fs) ∧ fs.lookup f = some v ∧ Q v H1
theorem pe_xw {e : Expr} {te : TE} {pos : Pos} {n : Str} (he : PE X e te) (hb : attributeBase e n X.env (eval e X.env) = eval e X.env := by rfl) : PE X (.Attribute e n pos) (tXw X.K n te) := by
  refine ⟨fun pins s σ H Q I h => ?_⟩
  refine attr_of hb (thn (he.run pins s σ H _ I h) fun u s1 hh => ?_)
  obtain ⟨x, H1, I1, rx, a, C, t1, dx, fs, v, rfl, T, hno, ea, ed, l, q⟩ := hh
  obtain rfl : u = Value.ref a := rx
  have ho := exw_at I1.hok ea
  obtain ⟨mA, hns, hr⟩ := exd_at I1.hok ed
  obtain ⟨od, hod, hl⟩ := lookIn_ns hns
  obtain ⟨u, hu, ru⟩ := RelO.some_of (v := v) (o := mA n) (by rw [← l]; exact hr n)
  have J : PySem.W.InstAt s1.heap a (excOb C (some dx) t1) C (some od) := ⟨ho, rfl, rfl, hod⟩
  exact HandSPX.exc_get I1.kIn J T.ga T.gg T.exC (PySem.W.findObj_own T.hdC hno rfl (by rw [hl, hu])) (handed_of ru) ⟨v, H1, I1.tok _, ru, q⟩
/-- isinstance(e, c), e the exception that the suite holds, with a dict of its own -/
def rIsS (K : PySem.W.Frag) (cls : Value) (a : Addr) (d : Option Addr) : List V → Hp → VK → Prop := fun xs H Q => ∃ (D : Addr) (c : V) (u : Value) (b : Bool), cls = .ref D ∧ L2.ExcC K D ∧ xs = [.ref a, c] ∧ ClsV c u ∧ (∀ b, d = some b → ∃ fs, H b = some (.xd fs)) ∧ PySem.W.kitOne K (.ref D) u = some b ∧ Q (.bl b) H
theorem call_isS {a : Addr} {cls : Value} {oe : Obj} {d : Option Addr} {pn : List (Addr × Obj)} (hz : Zc cls d oe) (hf : ∃ vs, oe.data = .fields vs) : CallR (X.suite a ((a, oe) :: pn)) (.builtin "isinstance") (rIsS X.K cls a d) := by
  intro pins s σ H xs us Q I r h
  obtain ⟨D, c, u, b, rfl, T, rfl, k, hd, ek, q⟩ := h
  obtain ⟨u1, u2, rfl, r1, r2⟩ := vals2 r
  have e2 := k.eq r2
  subst e2
  cases (show u1 = Value.ref a from r1)
  obtain ⟨hget, _⟩ := I.pin (a, oe) (List.mem_append.mpr (.inl List.mem_cons_self))
  obtain ⟨vs, hv⟩ := hf
  have J : ∃ od, PySem.W.InstAt s.heap a oe D od := by
    have nc : PySem.W.notCls oe = true := by unfold PySem.W.notCls; rw [hv] <;> rfl
    cases d with
    | none => exact ⟨none, hget, hz.1, nc, by rw [hz.2]; trivial⟩
    | some b =>
      obtain ⟨fs, eb⟩ := hd b rfl
      obtain ⟨mA, hns, _⟩ := (show ObjOk X.prog X.w H s.heap b (.xd fs) from I.hok b _ eb)
      obtain ⟨oD, _, _, hoD, _, _⟩ := hns
      exact ⟨some oD, hget, hz.1, nc, by rw [hz.2]; exact hoD⟩
  obtain ⟨od, J⟩ := J
  exact PySem.W.kia_one (kit_w T) I.kIn ⟨_, _, J⟩ ek (fun z => nomatch z) fun tk => ⟨.bl b, H, I.kept (t' := tk) fun _ _ z => z, rfl, q⟩
end
end KaG


set_option maxRecDepth 100000
set_option maxHeartbeats 4000000
namespace KaG
open PySem PySem.Spec PyProof.Rows L2
section
variable {X : Cx} {e e2 ev : Expr} {es : List Expr} {te : TE} {ta : TA} {pos : Pos}
def MoE (te : TE) : Prop := ∀ σ H (P Q : VK), (∀ v H, P v H → Q v H) → te σ H P → te σ H Q
def MoA (ta : TA) : Prop := ∀ σ H (P Q : List V → Hp → Prop), (∀ xs H, P xs H → Q xs H) → ta σ H P → ta σ H Q
theorem mo_var {i : Nat} : MoE (tVar i) := fun _ _ _ _ k ⟨v, e, q⟩ => ⟨v, e, k _ _ q⟩
theorem mo_c {v : V} : MoE (tC v) := fun _ _ _ _ k q => k _ _ q
theorem mo_nil : MoA tNil := fun _ _ _ _ k q => k _ _ q
theorem mo_cons {te : TE} {ta : TA} (h : MoE te) (r : MoA ta) : MoA (tCons te ta) := fun σ H P Q k q => h σ H _ _ (fun x H1 z => r σ H1 _ _ (fun xs H2 y => k _ _ y) z) q
/-- a new list, by what is true of the heap behind it -/
def tLstS (ta : TA) : TE := fun σ H Q => ta σ H fun xs H1 => xs.length ≤ 1000 ∧ ∀ p H2, Same H1 H2 → H1 p = none → H2 p = some (.lst xs) → Q (.ref p) H2
theorem pe_lstS (h : PA X es ta) (mo : MoA ta) : PE X (.List es pos) (tLstS ta) :=
  pe_imp (pe_lst h) fun σ H Q z => mo σ H _ _ (fun xs H1 q => ⟨Nat.le_of_lt (small1000 q.1), fun p hp => q.2 p _ (same_upd hp) hp upd_same⟩) z
theorem mo_lstS {ta : TA} (h : MoA ta) : MoE (tLstS ta) := fun σ H P Q k q => h σ H _ _ (fun xs H1 z => ⟨z.1, fun p H2 s n e => k _ _ (z.2 p H2 s n e)⟩) q
/-- one of the exceptions with one field -/
structure Made (C : Addr) (f : Str) (v : V) (H H' : Hp) (a dx t1 : Addr) : Prop where
  same : Same H H'
  na : H a = none
  nd : H dx = none
  nt : H t1 = none
  ea : H' a = some (exw a C (some dx) t1)
  ed : H' dx = some (exd dx [(f, v)])
  et : H' t1 = some (.tup [v])
def spInit1 (K : PySem.W.Frag) (f : Str) (C : Addr) : Sp := fun vs H Q _ => ∃ (a t1 : Addr) (v : V), vs = [.ref a, v] ∧ H a = some (exw a C none t1) ∧ OexC K C ∧ PySem.W.findIn K (.ref C) f = some none ∧
  ∀ dx, H dx = none → dx ≠ a → Q .non (upd (upd H dx (exd dx [(f, v)])) a (exw a C (some dx) t1))
section
variable {P : Program} {w : World} {K : PySem.W.Frag} {mg : Str → Option Value} {base : Heap}
theorem ok_init1 {f : Str} {C : Addr} {qual : Str} {st : Stmt} {fI : Addr} {fd : FuncData} {p1 p2 p3 p4 : Pos} (F : Fun K "__init__" qual st fI fd) (sc : FnScope ["self", f] ["self", f] (defScope st)) (hb : defBody st = [.Assign [.Attribute (.Name "self" p1) f p2] (.Name f p3) p4])
    (h1 : (f == ("__debug__" : Str)) = false) (h2 : (f == ("__classdict__" : Str)) = false) : FnOk P w K mg base CX0 1 fI fd ["self", f] (spInit1 K f C) := by
  refine F.ok sc (fun vs H Q E h => ?_) (fun cdv A outer s H vs Q E hr h => ?_)
  · obtain ⟨a, t1, v, rfl, _⟩ := h
    rfl
  · obtain ⟨a, t1, v, rfl, ea, T, nf, k⟩ := h
    rw [hb]
    have vis : ∀ x, x ∈ (["self", f] : List Str) → Vis (defScope st) x := fun x m => (sc.par x m).elim .inl fun z => .inr (.inl z)
    refine ⟨_, pss_one (ps_stw (pe_var (i := 0) rfl (vis _ (by simp))) (pe_var (i := 1) rfl (vis _ (by simp)) h1 h2)), ?_⟩
    exact ⟨_, rfl, _, rfl, a, C, t1, rfl, T, nf, .inl ⟨ea, fun dx n ne => k dx n ne⟩⟩
/-- all that is told of one of these classes with one field -/
structure Ini (P : Program) (w : World) (K : PySem.W.Frag) (mg : Str → Option Value) (base : Heap) (x f : Str) (C fI : Addr) (fd : FuncData) : Prop where
  m : mg x = some (.ref C)
  o : OexC K C
  xf : XfC K C
  ex : L2.ExcC K C
  nf : PySem.W.findIn K (.ref C) f = some none
  iC : PySem.W.findIn K (.ref C) "__init__" = some (some (.ref fI))
  tI : PySem.W.typeIn K (.ref fI) = some (.type "function")
  G : FnOk P w K mg base CX0 1 fI fd ["self", f] (spInit1 K f C)
  b : Binds K fd ["self", f] []
end
/-- C(e) -/
def tIni (f : Str) (C : Addr) (te : TE) : TE := fun σ H Q => te σ H fun v H1 => ∀ a dx t1 H2, Made C f v H1 H2 a dx t1 → Q (.ref a) H2
theorem made_of {H : Hp} {C : Addr} {f : Str} {v : V} {a dx t1 : Addr} (n1 : H t1 = none) (n2 : upd H t1 (.tup [v]) a = none) (n3 : upd (upd H t1 (.tup [v])) a (exw a C none t1) dx = none) (ne : dx ≠ a) :
    Made C f v H (upd (upd (upd (upd H t1 (.tup [v])) a (exw a C none t1)) dx (exd dx [(f, v)])) a (exw a C (some dx) t1)) a dx t1 := by
  have h1 : a ≠ t1 := fun z => by rw [z, upd_same] at n2; cases n2
  have h2 : dx ≠ t1 := fun z => by rw [z, upd_ne h1.symm, upd_same] at n3; cases n3
  rw [upd_ne h1] at n2
  rw [upd_ne ne, upd_ne h2] at n3
  refine ⟨fun b o e => ?_, n2, n3, n1, upd_same, by rw [upd_ne ne, upd_same], by rw [upd_ne h1.symm, upd_ne h2.symm, upd_ne h1.symm, upd_same]⟩
  rw [upd_ne (ne_of_none e n2), upd_ne (ne_of_none e n3), upd_ne (ne_of_none e n2), upd_ne (ne_of_none e n1)]
  exact e
theorem pe_ini {x f : Str} {C fI : Addr} {fd : FuncData} {p : Pos} (I : Ini X.prog X.w X.K X.mg X.base x f C fI fd) (hr : Room 2 X.A) (hg : Gl X x) (he : PE X e te) (mo : MoE te) (hdb : (x == ("__debug__" : Str)) = false := by decide)
    (hs : starEach (e :: []) X.env = (false, eval e X.env) :: starEach [] X.env := by rfl) : PE X (.Call (.Name x p) [e] [] pos) (tIni f C te) := by
  refine pe_imp (pe_mkw (p := p) (pos := pos) I.o I.iC I.tI I.G hr I.b hg I.m (pa_cons he pa_nil hs) hdb hs (by rfl)) fun σ H Q q => ?_
  refine mo σ H _ _ (fun v H1 z => ?_) q
  refine ⟨by show 1 ≤ 1000; decide, fun t1 a n1 n2 => ?_⟩
  have h1 : a ≠ t1 := fun z => by rw [z, upd_same] at n2; cases n2
  exact ⟨a, t1, v, rfl, upd_same, I.o, I.nf, fun dx n3 ne => ⟨rfl, z a dx t1 _ (made_of n1 n2 n3 ne)⟩⟩
end
end KaG


set_option maxRecDepth 100000
set_option maxHeartbeats 4000000
namespace KaG
open PySem PySem.Spec PyProof.Rows L2
/-! ### the rows of errors -/
def fnm : Nat → Str
  | 0 => "index" | 1 => "index" | 2 => "index" | 3 => "name" | 4 => "name" | 5 => "name" | 6 => "name" | 7 => "until" | 8 => "dial" | 9 => "rows" | 10 => "line" | 11 => "index" | 12 => "place" | 13 => "most" | 14 => "last" | _ => "place"
def hel (v o : V) (i : Nat) : List V := if i = 11 then [v, o] else if i < 16 then [v] else []
def NSame (N : Addr → Prop) (H H' : Hp) : Prop := ∀ b u, N b → H b = some u → H' b = some u
def Lg (N : Addr → Prop) (H : Hp) : Prop := ∀ b, H b = none → N b
theorem Lg.same {N : Addr → Prop} {H H' : Hp} (h : Lg N H) (s : Same H H') : Lg N H' := fun b e => h b (by
  cases q : H b with
  | none => rfl
  | some u => rw [s b u q] at e; cases e)
theorem NSame.of {N : Addr → Prop} {H H' : Hp} (s : Same H H') : NSame N H H' := fun b u _ e => s b u e
theorem NSame.tr {N : Addr → Prop} {H H1 H2 : Hp} (s : NSame N H H1) (t : NSame N H1 H2) : NSame N H H2 := fun b u n e => t b u n (s b u n e)
/-- an error of the i-th class, its fields -/
structure ErrOk (N : Addr → Prop) (H : Hp) (Cs : List Addr) (v o : V) (i : Nat) (e : Addr) : Prop where
  ne : N e
  it : ∃ C t1, Cs[i]? = some C ∧ ((i < 16 ∧ ∃ dx fs, N dx ∧ H e = some (exw e C (some dx) t1) ∧ H dx = some (exd dx fs) ∧ fs.lookup (fnm i) = some v ∧ (i = 11 → fs.lookup ("paper" : Str) = some o)) ∨ (16 ≤ i ∧ H e = some (exw e C none t1)))
structure RowOk (N : Addr → Prop) (H : Hp) (Cs : List Addr) (v o : V) (i : Nat) (r : Addr) : Prop where
  it : ∃ e h d, N r ∧ N h ∧ N d ∧ H r = some (.tup [.ref e, .ref h, .ref d]) ∧ H h = some (.lst (hel v o i)) ∧ H d = some (.lst (hel v o i)) ∧ ErrOk N H Cs v o i e
structure RowsOk (N : Addr → Prop) (H : Hp) (Cs : List Addr) (v o : V) (l n : Nat) : Prop where
  it : ∃ rs : List Addr, H l = some (.lst (rs.map V.ref)) ∧ rs.length = n ∧ ∀ i r, rs[i]? = some r → RowOk N H Cs v o i r
section
variable {N : Addr → Prop} {H H' : Hp} {Cs : List Addr} {v o : V}
theorem ErrOk.ns {i : Nat} {e : Addr} (h : ErrOk N H Cs v o i e) (s : NSame N H H') : ErrOk N H' Cs v o i e := by
  obtain ⟨n, C, t1, hc, h⟩ := h
  refine ⟨n, C, t1, hc, ?_⟩
  rcases h with ⟨a, dx, fs, n2, e1, e2, e3⟩ | ⟨a, e1⟩
  · exact .inl ⟨a, dx, fs, n2, s _ _ n e1, s _ _ n2 e2, e3⟩
  · exact .inr ⟨a, s _ _ n e1⟩
theorem RowOk.ns {i : Nat} {r : Addr} (h : RowOk N H Cs v o i r) (s : NSame N H H') : RowOk N H' Cs v o i r := by
  obtain ⟨e, hh, d, n1, n2, n3, e1, e2, e3, k⟩ := h
  exact ⟨e, hh, d, n1, n2, n3, s _ _ n1 e1, s _ _ n2 e2, s _ _ n3 e3, k.ns s⟩
/-- a narrower lot of new places -/
theorem ErrOk.to {N' : Addr → Prop} {i : Nat} {e : Addr} (h : ErrOk N H Cs v o i e) (k : ∀ b, N b → H b ≠ none → N' b) : ErrOk N' H Cs v o i e := by
  obtain ⟨n, C, t1, hc, h⟩ := h
  rcases h with ⟨a, dx, fs, n2, e1, e2, e3⟩ | ⟨a, e1⟩
  · exact ⟨k _ n (by rw [e1]; exact fun z => nomatch z), C, t1, hc, .inl ⟨a, dx, fs, k _ n2 (by rw [e2]; exact fun z => nomatch z), e1, e2, e3⟩⟩
  · exact ⟨k _ n (by rw [e1]; exact fun z => nomatch z), C, t1, hc, .inr ⟨a, e1⟩⟩
theorem RowOk.to {N' : Addr → Prop} {i : Nat} {r : Addr} (h : RowOk N H Cs v o i r) (k : ∀ b, N b → H b ≠ none → N' b) : RowOk N' H Cs v o i r := by
  obtain ⟨e, hh, d, n1, n2, n3, e1, e2, e3, q⟩ := h
  exact ⟨e, hh, d, k _ n1 (by rw [e1]; exact fun z => nomatch z), k _ n2 (by rw [e2]; exact fun z => nomatch z), k _ n3 (by rw [e3]; exact fun z => nomatch z), e1, e2, e3, q.to k⟩
end
/-! ### the readings -/
/-- an expression that makes the n-th row -/
def tRw (N : Addr → Prop) (Cs : List Addr) (v o : V) (n : Nat) (Pre : L2.St → Hp → Prop) : TE := fun σ H Q => (Lg N H ∧ Pre σ H) ∧ ∀ r H', Same H H' → RowOk N H' Cs v o n r → Q (.ref r) H'
def tRws (N : Addr → Prop) (Cs : List Addr) (v o : V) (n m : Nat) (Pre : L2.St → Hp → Prop) : TA := fun σ H Q => (Lg N H ∧ Pre σ H) ∧ ∀ (rs : List Addr) H', Same H H' → rs.length = m → (∀ i r, rs[i]? = some r → RowOk N H' Cs v o (n + i) r) → Q (rs.map V.ref) H'
/-- the error that stands in slot i, the value in slot 0 -/
def ErrIn (N : Addr → Prop) (Cs : List Addr) (v o : V) (n i : Nat) : L2.St → Hp → Prop := fun σ H => ∃ a, σ[i]? = some (some (.ref a)) ∧ σ[0]? = some (some v) ∧ σ[1]? = some (some o) ∧ ErrOk N H Cs v o n a
section
variable {X : Cx} {N : Addr → Prop} {Cs : List Addr} {v o : V} {n i : Nat} {e e2 e3 ev ev2 : Expr} {es : List Expr} {pos p1 p2 p3 p4 : Pos} {x1 : _} {Pre Pre2 : L2.St → Hp → Prop}
theorem pa_r0 : PA X [] (tRws N Cs v o n 0 Pre) := pa_imp pa_nil fun σ H Q z => z.2 [] H Same.refl' rfl fun _ _ h => by simp at h
theorem pa_r1 {m : Nat} (h : PE X e (tRw N Cs v o n Pre)) (r : PA X es (tRws N Cs v o (n + 1) m Pre2)) (st : ∀ σ H H', Same H H' → Pre2 σ H → Pre2 σ H') (hs : starEach (e :: es) X.env = (false, eval e X.env) :: starEach es X.env := by rfl) :
    PA X (e :: es) (tRws N Cs v o n (m + 1) (fun σ H => Pre σ H ∧ Pre2 σ H)) := by
  refine pa_imp (pa_cons h r hs) fun σ H Q z => ?_
  obtain ⟨⟨lg, a, b⟩, k⟩ := z
  refine ⟨⟨lg, a⟩, fun r H1 s1 ok1 => ⟨⟨lg.same s1, st _ _ _ s1 b⟩, fun rs H2 s2 hm ok2 => ?_⟩⟩
  refine k (r :: rs) H2 (KaG.Same.tr s1 s2) (by rw [List.length_cons, hm]) fun i q hi => ?_
  cases i with
  | zero =>
    cases hi
    exact ok1.ns (NSame.of s2)
  | succ i =>
    have := ok2 i q hi
    rwa [show n + 1 + i = n + (i + 1) by omega] at this
theorem pe_row1 {C : Addr} {f : Str} (hC : Cs[n]? = some C) (hn : n < 16) (h11 : n ≠ 11) (hf : fnm n = f) (xf : XfC X.K C) (nf : PySem.W.findIn X.K (.ref C) f = some none) (he : PE X e (tVar i)) (he2 : PE X e2 (tVar i)) (hv : PE X ev (tVar 0))
    (hb : attributeBase e2 f X.env (eval e2 X.env) = eval e2 X.env := by rfl) (h1 : starEach [.Attribute e2 f p1] X.env = (false, eval (.Attribute e2 f p1) X.env) :: starEach [] X.env := by rfl)
    (h2 : starEach [ev] X.env = (false, eval ev X.env) :: starEach [] X.env := by rfl) (h3 : starEach [e, .List [.Attribute e2 f p1] p2, .List [ev] p3] X.env = (false, eval e X.env) :: starEach [.List [.Attribute e2 f p1] p2, .List [ev] p3] X.env := by rfl)
    (h4 : starEach [.List [.Attribute e2 f p1] p2, .List [ev] p3] X.env = (false, eval (.List [.Attribute e2 f p1] p2) X.env) :: starEach [.List [ev] p3] X.env := by rfl) (h5 : starEach [.List [ev] p3] X.env = (false, eval (.List [ev] p3) X.env) :: starEach [] X.env := by rfl) :
    PE X (.Tuple [e, .List [.Attribute e2 f p1] p2, .List [ev] p3] x1 pos) (tRw N Cs v o n (ErrIn N Cs v o n i)) := by
  refine pe_imp (pe_tup (pa_cons he (pa_cons (pe_lst (pa_cons (pe_xw (n := f) he2 hb) pa_nil h1)) (pa_cons (pe_lst (pa_cons hv pa_nil h2)) pa_nil h5) h4) h3)) fun σ H Q z => ?_
  obtain ⟨⟨lg, a, s1, s0, _, ek⟩, k⟩ := z
  obtain ⟨na, C', t1, hc', hh⟩ := id ek
  rw [hC] at hc'
  cases hc'
  rcases hh with ⟨_, dx, fs, n2, q1, q2, q3, _⟩ | ⟨hl, _⟩
  · rw [hf] at q3
    refine ⟨_, s1, _, s1, a, C, t1, dx, fs, v, rfl, xf, nf, q1, q2, q3, by show 1 ≤ sizeLine; decide, fun h nh => ?_⟩
    refine ⟨_, s0, by show 1 ≤ sizeLine; decide, fun d nd => ⟨by show 3 ≤ sizeLine; decide, fun r nr => ?_⟩⟩
    have S1 : Same H (upd H h (.lst [v])) := same_upd nh
    have S2 : Same H (upd (upd H h (.lst [v])) d (.lst [v])) := KaG.Same.tr S1 (same_upd nd)
    have S3 := KaG.Same.tr S2 (same_upd (o := .tup [.ref a, .ref h, .ref d]) nr)
    have dh : h ≠ d := fun z => by rw [← z, upd_same] at nd; cases nd
    have rh : h ≠ r := fun z => by rw [← z, upd_ne dh, upd_same] at nr; cases nr
    have rd : d ≠ r := fun z => by rw [← z, upd_same] at nr; cases nr
    have he : hel v o n = [v] := by unfold hel; rw [if_neg h11, if_pos hn]
    refine k r _ S3 ⟨a, h, d, (lg.same S2) r nr, lg h nh, (lg.same S1) d nd, upd_same, by rw [he, upd_ne rh, upd_ne dh, upd_same], by rw [he, upd_ne rd, upd_same], ek.ns (NSame.of S3)⟩
  · omega
theorem pe_row2 {C : Addr} (hC : Cs[11]? = some C) (xf : XfC X.K C) (nf : PySem.W.findIn X.K (.ref C) "index" = some none) (np : PySem.W.findIn X.K (.ref C) "paper" = some none) (he : PE X e (tVar i)) (he2 : PE X e2 (tVar i)) (he3 : PE X e3 (tVar i)) (hv : PE X ev (tVar 0)) (hv2 : PE X ev2 (tVar 1))
    (hb : attributeBase e2 "index" X.env (eval e2 X.env) = eval e2 X.env := by rfl) (hb3 : attributeBase e3 "paper" X.env (eval e3 X.env) = eval e3 X.env := by rfl)
    (h1 : starEach [.Attribute e2 "index" p1, .Attribute e3 "paper" p4] X.env = (false, eval (.Attribute e2 "index" p1) X.env) :: starEach [.Attribute e3 "paper" p4] X.env := by rfl) (h1' : starEach [.Attribute e3 "paper" p4] X.env = (false, eval (.Attribute e3 "paper" p4) X.env) :: starEach [] X.env := by rfl)
    (h2 : starEach [ev, ev2] X.env = (false, eval ev X.env) :: starEach [ev2] X.env := by rfl) (h2' : starEach [ev2] X.env = (false, eval ev2 X.env) :: starEach [] X.env := by rfl)
    (h3 : starEach [e, .List [.Attribute e2 "index" p1, .Attribute e3 "paper" p4] p2, .List [ev, ev2] p3] X.env = (false, eval e X.env) :: starEach [.List [.Attribute e2 "index" p1, .Attribute e3 "paper" p4] p2, .List [ev, ev2] p3] X.env := by rfl)
    (h4 : starEach [.List [.Attribute e2 "index" p1, .Attribute e3 "paper" p4] p2, .List [ev, ev2] p3] X.env = (false, eval (.List [.Attribute e2 "index" p1, .Attribute e3 "paper" p4] p2) X.env) :: starEach [.List [ev, ev2] p3] X.env := by rfl)
    (h5 : starEach [.List [ev, ev2] p3] X.env = (false, eval (.List [ev, ev2] p3) X.env) :: starEach [] X.env := by rfl) :
    PE X (.Tuple [e, .List [.Attribute e2 "index" p1, .Attribute e3 "paper" p4] p2, .List [ev, ev2] p3] x1 pos) (tRw N Cs v o 11 (ErrIn N Cs v o 11 i)) := by
  refine pe_imp (pe_tup (pa_cons he (pa_cons (pe_lst (pa_cons (pe_xw (n := "index") he2 hb) (pa_cons (pe_xw (n := "paper") he3 hb3) pa_nil h1') h1)) (pa_cons (pe_lst (pa_cons hv (pa_cons hv2 pa_nil h2') h2)) pa_nil h5) h4) h3)) fun σ H Q z => ?_
  obtain ⟨⟨lg, a, s1, s0, so, ek⟩, k⟩ := z
  obtain ⟨na, C', t1, hc', hh⟩ := id ek
  rw [hC] at hc'
  cases hc'
  rcases hh with ⟨_, dx, fs, n2, q1, q2, q3, q4⟩ | ⟨hl, _⟩
  · refine ⟨_, s1, _, s1, a, C, t1, dx, fs, v, rfl, xf, nf, q1, q2, q3, _, s1, a, C, t1, dx, fs, o, rfl, xf, np, q1, q2, q4 rfl, by show 2 ≤ sizeLine; decide, fun h nh => ?_⟩
    refine ⟨_, s0, _, so, by show 2 ≤ sizeLine; decide, fun d nd => ⟨by show 3 ≤ sizeLine; decide, fun r nr => ?_⟩⟩
    have S1 : Same H (upd H h (.lst [v, o])) := same_upd nh
    have S2 : Same H (upd (upd H h (.lst [v, o])) d (.lst [v, o])) := KaG.Same.tr S1 (same_upd nd)
    have S3 := KaG.Same.tr S2 (same_upd (o := .tup [.ref a, .ref h, .ref d]) nr)
    have dh : h ≠ d := fun z => by rw [← z, upd_same] at nd; cases nd
    have rh : h ≠ r := fun z => by rw [← z, upd_ne dh, upd_same] at nr; cases nr
    have rd : d ≠ r := fun z => by rw [← z, upd_same] at nr; cases nr
    have he : hel v o 11 = [v, o] := rfl
    refine k r _ S3 ⟨a, h, d, (lg.same S2) r nr, lg h nh, (lg.same S1) d nd, upd_same, by rw [he, upd_ne rh, upd_ne dh, upd_same], by rw [he, upd_ne rd, upd_same], ek.ns (NSame.of S3)⟩
  · omega
theorem pe_row0 (hn : 16 ≤ n) (he : PE X e (tVar i)) (h3 : starEach [e, .List [] p2, .List [] p3] X.env = (false, eval e X.env) :: starEach [.List [] p2, .List [] p3] X.env := by rfl)
    (h4 : starEach [.List [] p2, .List [] p3] X.env = (false, eval (.List [] p2) X.env) :: starEach [.List [] p3] X.env := by rfl) (h5 : starEach [.List [] p3] X.env = (false, eval (.List [] p3) X.env) :: starEach [] X.env := by rfl) :
    PE X (.Tuple [e, .List [] p2, .List [] p3] x1 pos) (tRw N Cs v o n (ErrIn N Cs v o n i)) := by
  refine pe_imp (pe_tup (pa_cons he (pa_cons (pe_lst pa_nil) (pa_cons (pe_lst pa_nil) pa_nil h5) h4) h3)) fun σ H Q z => ?_
  obtain ⟨⟨lg, a, s1, s0, _, ek⟩, k⟩ := z
  refine ⟨_, s1, Nat.zero_le _, fun h nh => ⟨Nat.zero_le _, fun d nd => ⟨by show 3 ≤ sizeLine; decide, fun r nr => ?_⟩⟩⟩
  have S1 : Same H (upd H h (.lst [])) := same_upd nh
  have S2 : Same H (upd (upd H h (.lst [])) d (.lst [])) := KaG.Same.tr S1 (same_upd nd)
  have S3 := KaG.Same.tr S2 (same_upd (o := .tup [.ref a, .ref h, .ref d]) nr)
  have dh : h ≠ d := fun z => by rw [← z, upd_same] at nd; cases nd
  have rh : h ≠ r := fun z => by rw [← z, upd_ne dh, upd_same] at nr; cases nr
  have rd : d ≠ r := fun z => by rw [← z, upd_same] at nr; cases nr
  have he : hel v o n = [] := by unfold hel; rw [if_neg (by omega), if_neg (by omega)]
  refine k r _ S3 ⟨a, h, d, (lg.same S2) r nr, lg h nh, (lg.same S1) d nd, upd_same, by rw [he, upd_ne rh, upd_ne dh, upd_same], by rw [he, upd_ne rd, upd_same], ek.ns (NSame.of S3)⟩
end
end KaG


set_option maxRecDepth 100000
set_option maxHeartbeats 4000000
namespace KaG
open PySem PySem.Spec PyProof.Rows L2
/-- an expression that makes an error of the n-th class -/
def tEr (N : Addr → Prop) (Cs : List Addr) (v o : V) (n : Nat) : TE := fun σ H Q => (Lg N H ∧ σ[0]? = some (some v) ∧ σ[1]? = some (some o)) ∧ ∀ a H', Same H H' → ErrOk N H' Cs v o n a → Q (.ref a) H'
def tErs (N : Addr → Prop) (Cs : List Addr) (v o : V) (n m : Nat) : TA := fun σ H Q => (Lg N H ∧ σ[0]? = some (some v) ∧ σ[1]? = some (some o)) ∧ ∀ (as : List Addr) H', Same H H' → as.length = m → (∀ i a, as[i]? = some a → ErrOk N H' Cs v o (n + i) a) → Q (as.map V.ref) H'
def spInit2 (K : PySem.W.Frag) (C : Addr) : Sp := fun vs H Q _ => ∃ (a t1 : Addr) (v o : V), vs = [.ref a, v, o] ∧ H a = some (exw a C none t1) ∧ OexC K C ∧ PySem.W.findIn K (.ref C) "index" = some none ∧ PySem.W.findIn K (.ref C) "paper" = some none ∧
  ∀ dx, H dx = none → dx ≠ a → Q .non (upd (upd (upd H dx (exd dx [("index", v)])) a (exw a C (some dx) t1)) dx (exd dx [("paper", o), ("index", v)]))
section
variable {P : Program} {w : World} {K : PySem.W.Frag} {mg : Str → Option Value} {base : Heap}
/-- what is told of the class with two fields -/
structure Ini2 (P : Program) (w : World) (K : PySem.W.Frag) (mg : Str → Option Value) (base : Heap) (x : Str) (C fI : Addr) (fd : FuncData) : Prop where
  m : mg x = some (.ref C)
  o : OexC K C
  xf : XfC K C
  ex : L2.ExcC K C
  nf : PySem.W.findIn K (.ref C) "index" = some none
  np : PySem.W.findIn K (.ref C) "paper" = some none
  iC : PySem.W.findIn K (.ref C) "__init__" = some (some (.ref fI))
  tI : PySem.W.typeIn K (.ref fI) = some (.type "function")
  G : FnOk P w K mg base CX0 1 fI fd ["self", "index", "paper"] (spInit2 K C)
  b : Binds K fd ["self", "index", "paper"] []
/-- of one without fields -/
structure Ini0 (K : PySem.W.Frag) (mg : Str → Option Value) (x : Str) (C : Addr) : Prop where
  m : mg x = some (.ref C)
  q : PySem.W.excIn K C bmVE "ValueError.__new__" = true
  ex : L2.ExcC K C
  kC : PySem.W.keepIn K (.ref C) = true
  ty : PySem.W.typeIn K (.ref C) = some (.type "type")
theorem ok_init2 {C : Addr} {qual : Str} {st : Stmt} {fI : Addr} {fd : FuncData} {p1 p2 p3 p4 q1 q2 q3 q4 : Pos} (F : Fun K "__init__" qual st fI fd) (sc : FnScope ["self", "index", "paper"] ["self", "index", "paper"] (defScope st))
    (hb : defBody st = [.Assign [.Attribute (.Name "self" p1) "index" p2] (.Name "index" p3) p4, .Assign [.Attribute (.Name "self" q1) "paper" q2] (.Name "paper" q3) q4]) : FnOk P w K mg base CX0 1 fI fd ["self", "index", "paper"] (spInit2 K C) := by
  refine F.ok sc (fun vs H Q E h => ?_) (fun cdv A outer s H vs Q E hr h => ?_)
  · obtain ⟨a, t1, v, o, rfl, _⟩ := h
    rfl
  · obtain ⟨a, t1, v, o, rfl, ea, T, nf, np, k⟩ := h
    rw [hb]
    have vis : ∀ x, x ∈ (["self", "index", "paper"] : List Str) → Vis (defScope st) x := fun x m => (sc.par x m).elim .inl fun z => .inr (.inl z)
    refine ⟨_, pss_cons (ps_stw (pe_var (i := 0) rfl (vis _ (by simp))) (pe_var (i := 1) rfl (vis _ (by simp)))) (pss_one (ps_stw (pe_var (i := 0) rfl (vis _ (by simp))) (pe_var (i := 2) rfl (vis _ (by simp))))), ?_⟩
    refine ⟨_, rfl, _, rfl, a, C, t1, rfl, T, nf, .inl ⟨ea, fun dx n ne => ?_⟩⟩
    exact ⟨_, rfl, _, rfl, a, C, t1, rfl, T, np, .inr ⟨dx, _, upd_same, by rw [upd_ne ne, upd_same], by show 1 ≤ 900; decide, k dx n ne⟩⟩
end
section
variable {X : Cx} {N : Addr → Prop} {Cs : List Addr} {v o : V} {n i : Nat} {e e2 : Expr} {es : List Expr} {pos p : Pos} {x f : Str} {C fI : Addr} {fd : FuncData}
theorem pe_er1 (I : Ini X.prog X.w X.K X.mg X.base x f C fI fd) (hC : Cs[n]? = some C) (hn : n < 16) (h11 : n ≠ 11) (hf : fnm n = f) (hr : Room 2 X.A) (hg : Gl X x) (he : PE X e (tVar 0)) (hdb : (x == ("__debug__" : Str)) = false := by decide)
    (hs : starEach (e :: []) X.env = (false, eval e X.env) :: starEach [] X.env := by rfl) : PE X (.Call (.Name x p) [e] [] pos) (tEr N Cs v o n) := by
  refine pe_imp (pe_ini I hr hg he mo_var hdb hs) fun σ H Q z => ?_
  obtain ⟨⟨lg, s0, _⟩, k⟩ := z
  refine ⟨_, s0, fun a dx t1 H2 M => k a H2 M.same ⟨lg a M.na, C, t1, hC, .inl ⟨hn, dx, _, lg dx M.nd, M.ea, M.ed, ?_, fun z => absurd z h11⟩⟩⟩
  rw [hf]
  simp [List.lookup]
theorem pe_er2 (I : Ini2 X.prog X.w X.K X.mg X.base x C fI fd) (hC : Cs[11]? = some C) (hr : Room 2 X.A) (hg : Gl X x) (he : PE X e (tVar 0)) (he2 : PE X e2 (tVar 1)) (hdb : (x == ("__debug__" : Str)) = false := by decide)
    (hs : starEach [e, e2] X.env = (false, eval e X.env) :: starEach [e2] X.env := by rfl) (hs2 : starEach [e2] X.env = (false, eval e2 X.env) :: starEach [] X.env := by rfl) (hpl : (backTo pos (starEach [e2] X.env)).any (·.1) = false := by rfl) :
    PE X (.Call (.Name x p) [e, e2] [] pos) (tEr N Cs v o 11) := by
  refine pe_imp (pe_mkw (p := p) (pos := pos) I.o I.iC I.tI I.G hr I.b hg I.m (pa_cons he (pa_cons he2 pa_nil hs2) hs) hdb hs hpl) fun σ H Q z => ?_
  obtain ⟨⟨lg, s0, so⟩, k⟩ := z
  refine ⟨_, s0, _, so, by show 2 ≤ 1000; decide, fun t1 a n1 n2 => ?_⟩
  have h1 : a ≠ t1 := fun z => by rw [z, upd_same] at n2; cases n2
  have n2' : H a = none := by rw [upd_ne h1] at n2; exact n2
  refine ⟨a, t1, v, o, rfl, upd_same, I.o, I.nf, I.np, fun dx n3 ne => ⟨rfl, ?_⟩⟩
  have h2 : dx ≠ t1 := fun z => by rw [z, upd_ne h1.symm, upd_same] at n3; cases n3
  have n3' : H dx = none := by rw [upd_ne ne, upd_ne h2] at n3; exact n3
  refine k a _ (fun b u q => ?_) ⟨lg a n2', C, t1, hC, .inl ⟨by decide, dx, [("paper", o), ("index", v)], lg dx n3', by rw [upd_ne ne.symm, upd_same], upd_same, rfl, fun _ => rfl⟩⟩
  rw [upd_ne (ne_of_none q n3'), upd_ne (ne_of_none q n2'), upd_ne (ne_of_none q n3'), upd_ne (ne_of_none q n2'), upd_ne (ne_of_none q n1)]
  exact q
theorem pe_er0 (I : Ini0 X.K X.mg x C) (hC : Cs[n]? = some C) (hn : 16 ≤ n) (hg : Gl X x) (hdb : (x == ("__debug__" : Str)) = false := by decide) : PE X (.Call (.Name x p) [] [] pos) (tEr N Cs v o n) := by
  refine pe_imp (pe_mk0w (p := p) (pos := pos) I.q I.kC hg I.m hdb) fun σ H Q z => ?_
  obtain ⟨⟨lg, _⟩, k⟩ := z
  intro a t1 na
  exact k a _ (same_upd na) ⟨lg a na, C, t1, hC, .inr ⟨hn, upd_same⟩⟩
theorem pa_e0 : PA X [] (tErs N Cs v o n 0) := pa_imp pa_nil fun σ H Q z => z.2 [] H Same.refl' rfl fun _ _ h => by simp at h
theorem pa_e1 {m : Nat} (h : PE X e (tEr N Cs v o n)) (r : PA X es (tErs N Cs v o (n + 1) m)) (hs : starEach (e :: es) X.env = (false, eval e X.env) :: starEach es X.env := by rfl) : PA X (e :: es) (tErs N Cs v o n (m + 1)) := by
  refine pa_imp (pa_cons h r hs) fun σ H Q z => ?_
  obtain ⟨⟨lg, a, b⟩, k⟩ := z
  refine ⟨⟨lg, a, b⟩, fun r H1 s1 ok1 => ⟨⟨lg.same s1, a, b⟩, fun rs H2 s2 hm ok2 => ?_⟩⟩
  refine k (r :: rs) H2 (KaG.Same.tr s1 s2) (by rw [List.length_cons, hm]) fun i q hi => ?_
  cases i with
  | zero =>
    cases hi
    exact ok1.ns (NSame.of s2)
  | succ i =>
    have := ok2 i q hi
    rwa [show n + 1 + i = n + (i + 1) by omega] at this
end
/-! ### found.append(row), found.extend([row, ..]): the list at l grows -/
section
variable {N : Addr → Prop} {H H1 : Hp} {Cs : List Addr} {v o : V} {l n : Nat}
theorem RowsOk.add {rs2 : List Addr} {H0 : Hp} (R : RowsOk N H Cs v o l n) (lg : Lg N H) (hN : ∀ b, N b → b ≠ l) (s : Same H H1) (k : ∀ i r, rs2[i]? = some r → RowOk N H1 Cs v o (n + i) r) (s0 : Same H0 H) (l0 : H0 l = none) :
    ∃ rs : List Addr, H1 l = some (.lst (rs.map V.ref)) ∧ rs.length = n ∧ (RowsOk N (upd H1 l (.lst (rs.map V.ref ++ rs2.map V.ref))) Cs v o l (n + rs2.length) ∧ Lg N (upd H1 l (.lst (rs.map V.ref ++ rs2.map V.ref))) ∧ NSame N H (upd H1 l (.lst (rs.map V.ref ++ rs2.map V.ref))) ∧ Same H0 (upd H1 l (.lst (rs.map V.ref ++ rs2.map V.ref)))) := by
  obtain ⟨rs, e, hm, ok⟩ := R
  have q : NSame N H1 (upd H1 l (.lst (rs.map V.ref ++ rs2.map V.ref))) := fun b u nb z => by rw [upd_ne (hN b nb)]; exact z
  have q2 : NSame N H (upd H1 l (.lst (rs.map V.ref ++ rs2.map V.ref))) := (NSame.of s).tr q
  refine ⟨rs, s _ _ e, hm, ⟨⟨rs ++ rs2, by rw [upd_same, List.map_append], by rw [List.length_append, hm], fun i r z => ?_⟩⟩, fun b z => ?_, q2, fun b u z => ?_⟩
  · by_cases hi : i < rs.length
    · rw [List.getElem?_append_left hi] at z
      exact (ok i r z).ns q2
    · rw [List.getElem?_append_right (by omega)] at z
      have := (k _ r z).ns q
      rwa [show n + (i - rs.length) = i by omega] at this
  · by_cases hb : b = l
    · rw [hb, upd_same] at z; cases z
    · rw [upd_ne hb] at z
      exact (lg.same s) b z
  · rw [upd_ne (ne_of_none z l0)]
    exact s _ _ (s0 _ _ z)
end
end KaG


set_option maxRecDepth 100000
set_option maxHeartbeats 4000000
namespace KaG
open PySem PySem.Spec PyProof.Rows L2
section
variable {X : Cx} {N : Addr → Prop} {Cs : List Addr} {v o : V} {n i : Nat} {e e2 ev : Expr} {pos p1 p2 p3 : Pos} {x1 : _}
/-- the same rows, the class left open: for a loop's turn -/
theorem pe_row1x {f : Str} (he : PE X e (tVar i)) (he2 : PE X e2 (tVar i)) (hv : PE X ev (tVar 0))
    (hb : attributeBase e2 f X.env (eval e2 X.env) = eval e2 X.env := by rfl) (h1 : starEach [.Attribute e2 f p1] X.env = (false, eval (.Attribute e2 f p1) X.env) :: starEach [] X.env := by rfl)
    (h2 : starEach [ev] X.env = (false, eval ev X.env) :: starEach [] X.env := by rfl) (h3 : starEach [e, .List [.Attribute e2 f p1] p2, .List [ev] p3] X.env = (false, eval e X.env) :: starEach [.List [.Attribute e2 f p1] p2, .List [ev] p3] X.env := by rfl)
    (h4 : starEach [.List [.Attribute e2 f p1] p2, .List [ev] p3] X.env = (false, eval (.List [.Attribute e2 f p1] p2) X.env) :: starEach [.List [ev] p3] X.env := by rfl) (h5 : starEach [.List [ev] p3] X.env = (false, eval (.List [ev] p3) X.env) :: starEach [] X.env := by rfl) :
    PE X (.Tuple [e, .List [.Attribute e2 f p1] p2, .List [ev] p3] x1 pos) (fun σ H Q => ∃ n C, Cs[n]? = some C ∧ n < 16 ∧ n ≠ 11 ∧ fnm n = f ∧ XfC X.K C ∧ PySem.W.findIn X.K (.ref C) f = some none ∧ tRw N Cs v o n (ErrIn N Cs v o n i) σ H Q) :=
  ⟨fun pins s σ H Q I ⟨n, C, hC, hn, h11, hf, xf, nf, q⟩ => (pe_row1 hC hn h11 hf xf nf he he2 hv hb h1 h2 h3 h4 h5).run pins s σ H Q I q⟩
theorem pe_row0x (he : PE X e (tVar i)) (h3 : starEach [e, .List [] p2, .List [] p3] X.env = (false, eval e X.env) :: starEach [.List [] p2, .List [] p3] X.env := by rfl)
    (h4 : starEach [.List [] p2, .List [] p3] X.env = (false, eval (.List [] p2) X.env) :: starEach [.List [] p3] X.env := by rfl) (h5 : starEach [.List [] p3] X.env = (false, eval (.List [] p3) X.env) :: starEach [] X.env := by rfl) :
    PE X (.Tuple [e, .List [] p2, .List [] p3] x1 pos) (fun σ H Q => ∃ n, 16 ≤ n ∧ tRw N Cs v o n (ErrIn N Cs v o n i) σ H Q) :=
  ⟨fun pins s σ H Q I ⟨n, hn, q⟩ => (pe_row0 hn he h3 h4 h5).run pins s σ H Q I q⟩
theorem ErrIn.st {σ : L2.St} {H H' : Hp} (s : Same H H') (h : ErrIn N Cs v o n i σ H) : ErrIn N Cs v o n i σ H' := by
  obtain ⟨a, h1, h2, h3, h4⟩ := h
  exact ⟨a, h1, h2, h3, h4.ns (NSame.of s)⟩
end
theorem pe_ex {X : Cx} {e : Expr} {A : Type} {t : A → TE} (h : ∀ a, PE X e (t a)) : PE X e (fun σ H Q => ∃ a, t a σ H Q) := ⟨fun pins s σ H Q I ⟨a, q⟩ => (h a).run pins s σ H Q I q⟩
theorem pa_ex {X : Cx} {es : List Expr} {A : Type} {t : A → TA} (h : ∀ a, PA X es (t a)) : PA X es (fun σ H Q => ∃ a, t a σ H Q) := ⟨fun pos pins s σ H Q I ⟨a, q⟩ => (h a).run pos pins s σ H Q I q⟩
section
variable {P : Program} {w : World} {K : PySem.W.Frag} {mg : Str → Option Value} {base : Heap}
structure AllC (P : Program) (w : World) (K : PySem.W.Frag) (mg : Str → Option Value) (base : Heap) (Cs : List Addr) : Prop where
  i0 : ∃ C f d, Cs[0]? = some C ∧ Ini P w K mg base "BadDeed" "index" C f d
  i1 : ∃ C f d, Cs[1]? = some C ∧ Ini P w K mg base "NoGround" "index" C f d
  i2 : ∃ C f d, Cs[2]? = some C ∧ Ini P w K mg base "NoIndex" "index" C f d
  i3 : ∃ C f d, Cs[3]? = some C ∧ Ini P w K mg base "NoKind" "name" C f d
  i4 : ∃ C f d, Cs[4]? = some C ∧ Ini P w K mg base "NoName" "name" C f d
  i5 : ∃ C f d, Cs[5]? = some C ∧ Ini P w K mg base "NotEver" "name" C f d
  i6 : ∃ C f d, Cs[6]? = some C ∧ Ini P w K mg base "Unlike" "name" C f d
  i7 : ∃ C f d, Cs[7]? = some C ∧ Ini P w K mg base "Barred" "until" C f d
  i8 : ∃ C f d, Cs[8]? = some C ∧ Ini P w K mg base "NoDial" "dial" C f d
  i9 : ∃ C f d, Cs[9]? = some C ∧ Ini P w K mg base "NoLot" "rows" C f d
  i10 : ∃ C f d, Cs[10]? = some C ∧ Ini P w K mg base "NoText" "line" C f d
  i11 : ∃ C f d, Cs[11]? = some C ∧ Ini2 P w K mg base "NotHeld" C f d
  i12 : ∃ C f d, Cs[12]? = some C ∧ Ini P w K mg base "NotMet" "place" C f d
  i13 : ∃ C f d, Cs[13]? = some C ∧ Ini P w K mg base "TooMany" "most" C f d
  i14 : ∃ C f d, Cs[14]? = some C ∧ Ini P w K mg base "Untold" "last" C f d
  i15 : ∃ C f d, Cs[15]? = some C ∧ Ini P w K mg base "Wrong" "place" C f d
  i16 : ∃ C, Cs[16]? = some C ∧ Ini0 K mg "NoCommand" C
  i17 : ∃ C, Cs[17]? = some C ∧ Ini0 K mg "NoDeed" C
  i18 : ∃ C, Cs[18]? = some C ∧ Ini0 K mg "NoNews" C
  i19 : ∃ C, Cs[19]? = some C ∧ Ini0 K mg "NotMorning" C
  i20 : ∃ C, Cs[20]? = some C ∧ Ini0 K mg "NotTimed" C
  i21 : ∃ C, Cs[21]? = some C ∧ Ini0 K mg "Nothing" C
theorem len2 {A : Type} : ∀ {as : List A}, as.length = 2 → ∃ a b, as = [a, b]
  | [_, _], _ => ⟨_, _, rfl⟩
theorem len3 {A : Type} : ∀ {as : List A}, as.length = 3 → ∃ a b c, as = [a, b, c]
  | [_, _, _], _ => ⟨_, _, _, rfl⟩
theorem len4 {A : Type} : ∀ {as : List A}, as.length = 4 → ∃ a b c d, as = [a, b, c, d]
  | [_, _, _, _], _ => ⟨_, _, _, _, rfl⟩
def slW : List Str := ["value", "other", "first", "second", "third", "found", "error", "barred", "dial", "lot", "text", "held", "met", "many", "untold", "wrong"]
theorem scWith : FnScope ["value", "other", "first", "second", "third", "found", "error", "barred", "dial", "lot", "text", "held", "met", "many", "untold", "wrong"] ["value", "other"] (defScope sWith) := ⟨rfl, rfl, rfl, by decide +kernel, rfl, by decide +kernel, by decide +kernel⟩
def spWith (Cs : List Addr) : Sp := fun vs H Q _ => ∃ v o : V, vs = [v, o] ∧ ∀ l H', Same H H' → H l = none → RowsOk (fun b => H b = none ∧ b ≠ l) H' Cs v o l 22 → Q (.ref l) H'
theorem ok_with {Cs : List Addr} {f : Addr} {fd : FuncData} (F : Fun K "_law_with_fields" "_law_with_fields" sWith f fd) (A0 : AllC P w K mg base Cs) : FnOk P w K mg base CX0 3 f fd ["value", "other"] (spWith Cs) := by
  obtain ⟨⟨C0, f0, d0, c0, I0⟩, ⟨C1, f1, d1, c1, I1⟩, ⟨C2, f2, d2, c2, I2⟩, ⟨C3, f3, d3, c3, I3⟩, ⟨C4, f4, d4, c4, I4⟩, ⟨C5, f5, d5, c5, I5⟩, ⟨C6, f6, d6, c6, I6⟩, ⟨C7, f7, d7, c7, I7⟩, ⟨C8, f8, d8, c8, I8⟩, ⟨C9, f9, d9, c9, I9⟩, ⟨C10, f10, d10, c10, I10⟩, ⟨C11, f11, d11, c11, I11⟩,
    ⟨C12, f12, d12, c12, I12⟩, ⟨C13, f13, d13, c13, I13⟩, ⟨C14, f14, d14, c14, I14⟩, ⟨C15, f15, d15, c15, I15⟩, ⟨C16, c16, I16⟩, ⟨C17, c17, I17⟩, ⟨C18, c18, I18⟩, ⟨C19, c19, I19⟩, ⟨C20, c20, I20⟩, ⟨C21, c21, I21⟩⟩ := A0
  refine F.ok scWith (fun vs H Q E h => ?_) (fun cdv A outer s H vs Q E hr h => ?_)
  · obtain ⟨v, o, rfl, _⟩ := h
    rfl
  · obtain ⟨v, o, rfl, k⟩ := h
    refine ⟨_, (pss_cons (ps_par3 (i := 2) (j := 3) (l := 4) rfl scWith.nd rfl rfl rfl (by decide) (by decide) (by decide) (by rfl) (by rfl) (by rfl) (pa_ex fun N => (pa_e1 (N := N) (Cs := Cs) (v := v) (o := o) (n := 0) (pe_er1 I0 c0 (by decide) (by decide) rfl hr (by rfl) (pv 0)) (pa_e1 (pe_er1 I1 c1 (by decide) (by decide) rfl hr (by rfl) (pv 0)) (pa_e1 (pe_er1 I2 c2 (by decide) (by decide) rfl hr (by rfl) (pv 0)) pa_e0)))) (by rfl))
      (pss_cons (ps_set (i := 5) scWith.nd rfl (Or.inl rfl) (pe_lst (pa_ex fun N => (pa_r1 (N := N) (Cs := Cs) (v := v) (o := o) (n := 0) (pe_row1 (i := 2) c0 (by decide) (by decide) rfl I0.xf I0.nf (pv 2) (pv 2) (pv 0)) (pa_r1 (pe_row1 (i := 3) c1 (by decide) (by decide) rfl I1.xf I1.nf (pv 3) (pv 3) (pv 0)) (pa_r1 (pe_row1 (i := 4) c2 (by decide) (by decide) rfl I2.xf I2.nf (pv 4) (pv 4) (pv 0)) (pa_r0 (Pre := fun _ _ => True)) (fun _ _ _ _ _ => trivial)) (fun _ _ _ s q => ⟨ErrIn.st s q.1, trivial⟩)) (fun _ _ _ s q => ⟨ErrIn.st s q.1, ErrIn.st s q.2.1, trivial⟩)))))
      (pss_cons (ps_for PassesOwn.never rfl (pi_tup (pe_tup (pa_ex fun N => (pa_e1 (N := N) (Cs := Cs) (v := v) (o := o) (n := 3) (pe_er1 I3 c3 (by decide) (by decide) rfl hr (by rfl) (pv 0)) (pa_e1 (pe_er1 I4 c4 (by decide) (by decide) rfl hr (by rfl) (pv 0)) (pa_e1 (pe_er1 I5 c5 (by decide) (by decide) rfl hr (by rfl) (pv 0)) (pa_e1 (pe_er1 I6 c6 (by decide) (by decide) rfl hr (by rfl) (pv 0)) pa_e0))))))) (pg_name (i := 6) scWith.nd rfl (Or.inl rfl)) (pss_one (ps_expr (pe_bm PySem.F.plainAttrs_list PySem.F.slot_list_append PySem.F.type_list_append mt_append (pv 5) (pa_cons (pe_ex fun N => pe_row1x (N := N) (Cs := Cs) (v := v) (o := o) (i := 6) (pv 6) (pv 6) (pv 0)) pa_nil)))))
      (pss_cons (ps_asg (pe_tup (pa_ex fun N => (pa_e1 (N := N) (Cs := Cs) (v := v) (o := o) (n := 7) (pe_er1 I7 c7 (by decide) (by decide) rfl hr (by rfl) (pv 0)) (pa_e1 (pe_er1 I8 c8 (by decide) (by decide) rfl hr (by rfl) (pv 0)) (pa_e1 (pe_er1 I9 c9 (by decide) (by decide) rfl hr (by rfl) (pv 0)) (pa_e1 (pe_er1 I10 c10 (by decide) (by decide) rfl hr (by rfl) (pv 0)) pa_e0)))))) (pg_tup (by rfl) (pgs_cons (pg_name (i := 7) scWith.nd rfl (Or.inl rfl)) (pgs_cons (pg_name (i := 8) scWith.nd rfl (Or.inl rfl)) (pgs_cons (pg_name (i := 9) scWith.nd rfl (Or.inl rfl)) (pgs_cons (pg_name (i := 10) scWith.nd rfl (Or.inl rfl)) pgs_nil))))))
      (pss_cons (ps_expr (pe_bm PySem.F.plainAttrs_list PySem.F.slot_list_extend PySem.F.type_list_extend mt_extend (pv 5) (pa_cons (pe_lst (pa_ex fun N => (pa_r1 (N := N) (Cs := Cs) (v := v) (o := o) (n := 7) (pe_row1 (i := 7) c7 (by decide) (by decide) rfl I7.xf I7.nf (pv 7) (pv 7) (pv 0)) (pa_r1 (pe_row1 (i := 8) c8 (by decide) (by decide) rfl I8.xf I8.nf (pv 8) (pv 8) (pv 0)) (pa_r1 (pe_row1 (i := 9) c9 (by decide) (by decide) rfl I9.xf I9.nf (pv 9) (pv 9) (pv 0)) (pa_r0 (Pre := fun _ _ => True)) (fun _ _ _ _ _ => trivial)) (fun _ _ _ s q => ⟨ErrIn.st s q.1, trivial⟩)) (fun _ _ _ s q => ⟨ErrIn.st s q.1, ErrIn.st s q.2.1, trivial⟩)))) pa_nil)))
      (pss_cons (ps_par3 (i := 11) (j := 12) (l := 13) rfl scWith.nd rfl rfl rfl (by decide) (by decide) (by decide) (by rfl) (by rfl) (by rfl) (pa_ex fun N => (pa_e1 (N := N) (Cs := Cs) (v := v) (o := o) (n := 11) (pe_er2 I11 c11 hr (by rfl) (pv 0) (pv 1)) (pa_e1 (pe_er1 I12 c12 (by decide) (by decide) rfl hr (by rfl) (pv 0)) (pa_e1 (pe_er1 I13 c13 (by decide) (by decide) rfl hr (by rfl) (pv 0)) pa_e0)))) (by rfl))
      (pss_cons (ps_expr (pe_bm PySem.F.plainAttrs_list PySem.F.slot_list_extend PySem.F.type_list_extend mt_extend (pv 5) (pa_cons (pe_lst (pa_ex fun N => (pa_r1 (N := N) (Cs := Cs) (v := v) (o := o) (n := 10) (pe_row1 (i := 10) c10 (by decide) (by decide) rfl I10.xf I10.nf (pv 10) (pv 10) (pv 0)) (pa_r1 (pe_row2 (i := 11) c11 I11.xf I11.nf I11.np (pv 11) (pv 11) (pv 11) (pv 0) (pv 1)) (pa_r0 (Pre := fun _ _ => True)) (fun _ _ _ _ _ => trivial)) (fun _ _ _ s q => ⟨ErrIn.st s q.1, trivial⟩)))) pa_nil)))
      (pss_cons (ps_par (i := 14) (j := 15) rfl scWith.nd rfl rfl (by decide) (by rfl) (by rfl) (pa_ex fun N => (pa_e1 (N := N) (Cs := Cs) (v := v) (o := o) (n := 14) (pe_er1 I14 c14 (by decide) (by decide) rfl hr (by rfl) (pv 0)) (pa_e1 (pe_er1 I15 c15 (by decide) (by decide) rfl hr (by rfl) (pv 0)) pa_e0))) (by rfl))
      (pss_cons (ps_expr (pe_bm PySem.F.plainAttrs_list PySem.F.slot_list_extend PySem.F.type_list_extend mt_extend (pv 5) (pa_cons (pe_lst (pa_ex fun N => (pa_r1 (N := N) (Cs := Cs) (v := v) (o := o) (n := 12) (pe_row1 (i := 12) c12 (by decide) (by decide) rfl I12.xf I12.nf (pv 12) (pv 12) (pv 0)) (pa_r1 (pe_row1 (i := 13) c13 (by decide) (by decide) rfl I13.xf I13.nf (pv 13) (pv 13) (pv 0)) (pa_r1 (pe_row1 (i := 14) c14 (by decide) (by decide) rfl I14.xf I14.nf (pv 14) (pv 14) (pv 0)) (pa_r0 (Pre := fun _ _ => True)) (fun _ _ _ _ _ => trivial)) (fun _ _ _ s q => ⟨ErrIn.st s q.1, trivial⟩)) (fun _ _ _ s q => ⟨ErrIn.st s q.1, ErrIn.st s q.2.1, trivial⟩)))) pa_nil)))
      (pss_cons (ps_expr (pe_bm PySem.F.plainAttrs_list PySem.F.slot_list_append PySem.F.type_list_append mt_append (pv 5) (pa_cons (pe_ex fun N => pe_row1 (N := N) (Cs := Cs) (v := v) (o := o) (n := 15) (i := 15) c15 (by decide) (by decide) rfl I15.xf I15.nf (pv 15) (pv 15) (pv 0)) pa_nil)))
      (pss_cons (ps_for PassesOwn.never rfl (pi_tup (pe_tup (pa_ex fun N => (pa_e1 (N := N) (Cs := Cs) (v := v) (o := o) (n := 16) (pe_er0 I16 c16 (by decide) (by rfl)) (pa_e1 (pe_er0 I17 c17 (by decide) (by rfl)) (pa_e1 (pe_er0 I18 c18 (by decide) (by rfl)) (pa_e1 (pe_er0 I19 c19 (by decide) (by rfl)) (pa_e1 (pe_er0 I20 c20 (by decide) (by rfl)) (pa_e1 (pe_er0 I21 c21 (by decide) (by rfl)) pa_e0))))))))) (pg_name (i := 6) scWith.nd rfl (Or.inl rfl)) (pss_one (ps_expr (pe_bm PySem.F.plainAttrs_list PySem.F.slot_list_append PySem.F.type_list_append mt_append (pv 5) (pa_cons (pe_ex fun N => pe_row0x (N := N) (Cs := Cs) (v := v) (o := o) (i := 6) (pv 6)) pa_nil)))))
      (pss_one (ps_ret (pv 5)))))))))))))), ?_⟩
    let N0 : Addr → Prop := fun b => H b = none
    have sz : ∀ {m : Nat}, m ≤ 900 → m ≤ sizeLine := fun h => Nat.le_of_lt (small1000 (by omega))
    have sz2 : ∀ {m : Nat}, m ≤ 900 → m < sizeLine := fun h => small1000 (by omega)
    refine ⟨N0, ⟨fun b z => z, rfl, rfl⟩, fun as H1 s1 m1 ok1 => ?_⟩
    obtain ⟨a0, a1, a2, rfl⟩ := len3 m1
    refine ⟨_, _, _, rfl, ?_⟩
    refine ⟨N0, ⟨Lg.same (N := N0) (fun b z => z) s1, ⟨a0, rfl, rfl, rfl, ok1 0 a0 rfl⟩, ⟨a1, rfl, rfl, rfl, ok1 1 a1 rfl⟩, ⟨a2, rfl, rfl, rfl, ok1 2 a2 rfl⟩, trivial⟩, fun rs H2 s2 m2 ok2 => ⟨sz (by rw [List.length_map, m2]; decide), fun l nl => ?_⟩⟩
    have s12 := KaG.Same.tr s1 s2
    have l0 : H l = none := by
      cases e : H l with
      | none => rfl
      | some u => rw [s12 _ _ e] at nl; cases nl
    have S3 : Same H (upd H2 l (.lst (rs.map V.ref))) := KaG.Same.tr s12 (same_upd nl)
    have lg3 : Lg (fun b => H b = none ∧ b ≠ l) (upd H2 l (.lst (rs.map V.ref))) := fun b z => by
      have hb : b ≠ l := fun w => by rw [w, upd_same] at z; cases z
      rw [upd_ne hb] at z
      exact ⟨Lg.same (N := N0) (fun b z => z) s12 b z, hb⟩
    have R3 : RowsOk (fun b => H b = none ∧ b ≠ l) (upd H2 l (.lst (rs.map V.ref))) Cs v o l 3 := ⟨⟨rs, upd_same, m2, fun i r z => by
      have q := ok2 i r z
      rw [Nat.zero_add] at q
      exact (q.to (N' := fun b => H b = none ∧ b ≠ l) fun b h1 h2 => ⟨h1, fun w => h2 (w ▸ nl)⟩).ns (NSame.of (same_upd nl))⟩⟩
    generalize upd H2 l (.lst (rs.map V.ref)) = H3 at S3 lg3 R3 ⊢
    have hN : ∀ b, (fun b => H b = none ∧ b ≠ l) b → b ≠ l := fun b h => h.2
    clear ok1 ok2 s1 s2 s12 nl m1 m2
    -- for error in (NoKind(value), ..)
    refine ⟨fun b => H b = none ∧ b ≠ l, ⟨lg3, rfl, rfl⟩, fun es H4 s4 m4 ok4 => ⟨sz (by rw [List.length_map, m4]; decide), fun tp ntp => ?_⟩⟩
    refine ⟨tp, rfl, ⟨_, SqT.of upd_same⟩, for_tup (K := K) (a := tp) (xs := es.map V.ref) (fun i σ' H' => ∃ x6 : Option V, σ' = [some v, some o, some (.ref a0), some (.ref a1), some (.ref a2), some (.ref l), x6, none, none, none, none, none, none, none, none, none] ∧
      Same H H' ∧ Lg (fun b => H b = none ∧ b ≠ l) H' ∧ RowsOk (fun b => H b = none ∧ b ≠ l) H' Cs v o l (3 + i) ∧ (∀ j a, es[j]? = some a → ErrOk (fun b => H b = none ∧ b ≠ l) H' Cs v o (3 + j) a) ∧ H' tp = some (.tup (es.map V.ref)) ∧ tp ≠ l) ?_ ?_ ?_ ?_⟩
    · have q : Same H3 (upd H4 tp (.tup (es.map V.ref))) := KaG.Same.tr s4 (same_upd ntp)
      refine ⟨_, rfl, KaG.Same.tr S3 q, lg3.same q, ?_, fun j a z => (ok4 j a z).ns (NSame.of (same_upd ntp)), upd_same, ?_⟩
      · obtain ⟨rs', e1, e2, e3⟩ := R3
        exact ⟨⟨rs', q _ _ e1, e2, fun i r z => (e3 i r z).ns (NSame.of q)⟩⟩
      · obtain ⟨rs', e1, _⟩ := R3
        exact fun w => by rw [w, s4 _ _ e1] at ntp; cases ntp
    · rintro i σ' H' _ ⟨_, _, _, _, _, _, e, _⟩
      exact SqT.of e
    · rintro i x σ' H' hx ⟨x6, rfl, q1, q2, q3, q4, q5, q6⟩
      rw [List.getElem?_map] at hx
      obtain ⟨a, ha, rfl⟩ := Option.map_eq_some_iff.mp hx
      have hi : i < 4 := by
        have := (List.getElem?_eq_some_iff.mp ha).1
        omega
      obtain ⟨C, hC, hf, xf, nf⟩ : ∃ C, Cs[3 + i]? = some C ∧ fnm (3 + i) = "name" ∧ XfC K C ∧ PySem.W.findIn K (.ref C) "name" = some none := by
        match i, hi with
        | 0, _ => exact ⟨C3, c3, rfl, I3.xf, I3.nf⟩
        | 1, _ => exact ⟨C4, c4, rfl, I4.xf, I4.nf⟩
        | 2, _ => exact ⟨C5, c5, rfl, I5.xf, I5.nf⟩
        | 3, _ => exact ⟨C6, c6, rfl, I6.xf, I6.nf⟩
      obtain ⟨rs0, r1, r2, _⟩ := id q3
      refine ⟨_, rfl, .inl ⟨rfl, _, SqL.of r1⟩, fun b => H b = none ∧ b ≠ l, 3 + i, C, hC, by omega, by omega, hf, xf, nf, ⟨q2, a, rfl, rfl, rfl, q4 i a ha⟩, fun r H5 s5 ok5 => ?_⟩
      obtain ⟨rs1, t1, t2, t3, t4, t5, t6⟩ := q3.add (rs2 := [r]) (H0 := H) q2 hN s5 (fun j r' z => by
        cases j with
        | zero => cases z; exact ok5
        | succ j => simp at z) q1 l0
      refine ⟨l, _, .ref r, rfl, rfl, t1, sz2 (by rw [List.length_map, t2]; omega), ?_⟩
      refine ⟨_, rfl, t6, t4, t3, fun j a' z => (q4 j a' z).ns t5, ?_, q6⟩
      rw [upd_ne q6]
      exact s5 _ _ q5
    · rintro σ' H' ⟨x6, rfl, q1, q2, q3, q4, q5, q6⟩
      rw [List.length_map, m4] at q3
      -- barred, dial, lot, text
      refine ⟨fun b => H b = none ∧ b ≠ l, ⟨q2, rfl, rfl⟩, fun es2 H6 s6 m6 ok6 => ⟨sz (by rw [List.length_map, m6]; decide), fun tp2 n2 => ?_⟩⟩
      obtain ⟨b7, b8, b9, b10, rfl⟩ := len4 m6
      refine ⟨tp2, _, rfl, SqT.of upd_same, rfl, ?_⟩
      have S6 : Same H' (upd H6 tp2 (.tup ([b7, b8, b9, b10].map V.ref))) := KaG.Same.tr s6 (same_upd n2)
      have R7 : RowsOk (fun b => H b = none ∧ b ≠ l) (upd H6 tp2 (.tup ([b7, b8, b9, b10].map V.ref))) Cs v o l 7 := by
        obtain ⟨rs', e1, e2, e3⟩ := q3
        exact ⟨⟨rs', S6 _ _ e1, e2, fun i r z => (e3 i r z).ns (NSame.of S6)⟩⟩
      have E7 : ∀ j a, ([b7, b8, b9, b10] : List Addr)[j]? = some a → ErrOk (fun b => H b = none ∧ b ≠ l) (upd H6 tp2 (.tup ([b7, b8, b9, b10].map V.ref))) Cs v o (7 + j) a := fun j a z => (ok6 j a z).ns (NSame.of (same_upd n2))
      have L7 := q2.same S6
      have S7 := KaG.Same.tr q1 S6
      generalize upd H6 tp2 (.tup ([b7, b8, b9, b10].map V.ref)) = H7 at R7 E7 L7 S7 ⊢
      clear s6 ok6 n2 S6 q1 q2 q3 q4 q5 q6
      obtain ⟨ars0, ar1, ar2, _⟩ := id R7
      refine ⟨_, _, rfl, _, _, rfl, _, _, rfl, _, _, rfl, rfl, ?_⟩
      refine ⟨_, rfl, .inl ⟨rfl, _, SqL.of ar1⟩, fun b => H b = none ∧ b ≠ l, ⟨L7, ⟨b7, rfl, rfl, rfl, E7 0 b7 rfl⟩, ⟨b8, rfl, rfl, rfl, E7 1 b8 rfl⟩, ⟨b9, rfl, rfl, rfl, E7 2 b9 rfl⟩, trivial⟩, fun ars aH1 as am aok => ⟨sz (by rw [List.length_map, am]; decide), fun al2 anl => ?_⟩⟩
      obtain ⟨ars1, at1, at2, at3, at4, at5, at6⟩ := R7.add (rs2 := ars) (H0 := H) L7 hN (KaG.Same.tr as (same_upd (o := .lst (ars.map V.ref)) anl)) (fun j r' z => (aok j r' z).ns (NSame.of (same_upd anl))) S7 l0
      refine ⟨l, al2, _, _, rfl, rfl, at1, upd_same, by rw [List.length_map, List.length_map, at2, am]; exact sz (by decide), ?_⟩
      rw [am] at at3
      generalize upd (upd aH1 al2 (.lst (ars.map V.ref))) l (.lst (ars1.map V.ref ++ ars.map V.ref)) = aG at at3 at4 at5 at6 ⊢
      clear at1 anl aok as
      have F10 := (E7 3 b10 rfl).ns at5
      -- held, met, many
      refine ⟨fun b => H b = none ∧ b ≠ l, ⟨at4, rfl, rfl⟩, fun es3 H8 s8 m8 ok8 => ?_⟩
      obtain ⟨b11, b12, b13, rfl⟩ := len3 m8
      refine ⟨_, _, _, rfl, ?_⟩
      have R8 : RowsOk (fun b => H b = none ∧ b ≠ l) H8 Cs v o l 10 := by
        obtain ⟨rs', e1, e2, e3⟩ := at3
        exact ⟨⟨rs', s8 _ _ e1, e2, fun i r z => (e3 i r z).ns (NSame.of s8)⟩⟩
      have L8 := at4.same s8
      have S8 := KaG.Same.tr at6 s8
      have F10' := F10.ns (NSame.of s8)
      obtain ⟨crs0, cr1, cr2, _⟩ := id R8
      refine ⟨_, rfl, .inl ⟨rfl, _, SqL.of cr1⟩, fun b => H b = none ∧ b ≠ l, ⟨L8, ⟨b10, rfl, rfl, rfl, F10'⟩, ⟨b11, rfl, rfl, rfl, ok8 0 b11 rfl⟩, trivial⟩, fun crs cH1 cs cm cok => ⟨sz (by rw [List.length_map, cm]; decide), fun cl2 cnl => ?_⟩⟩
      obtain ⟨crs1, ct1, ct2, ct3, ct4, ct5, ct6⟩ := R8.add (rs2 := crs) (H0 := H) L8 hN (KaG.Same.tr cs (same_upd (o := .lst (crs.map V.ref)) cnl)) (fun j r' z => (cok j r' z).ns (NSame.of (same_upd cnl))) S8 l0
      refine ⟨l, cl2, _, _, rfl, rfl, ct1, upd_same, by rw [List.length_map, List.length_map, ct2, cm]; exact sz (by decide), ?_⟩
      rw [cm] at ct3
      generalize upd (upd cH1 cl2 (.lst (crs.map V.ref))) l (.lst (crs1.map V.ref ++ crs.map V.ref)) = cG at ct3 ct4 ct5 ct6 ⊢
      clear ct1 cnl cok cs
      have F12 := (ok8 1 b12 rfl).ns ct5
      have F13 := (ok8 2 b13 rfl).ns ct5
      -- untold, wrong
      refine ⟨fun b => H b = none ∧ b ≠ l, ⟨ct4, rfl, rfl⟩, fun es4 H9 s9 m9 ok9 => ?_⟩
      obtain ⟨b14, b15, rfl⟩ := len2 m9
      refine ⟨_, _, rfl, ?_⟩
      have R9 : RowsOk (fun b => H b = none ∧ b ≠ l) H9 Cs v o l 12 := by
        obtain ⟨rs', e1, e2, e3⟩ := ct3
        exact ⟨⟨rs', s9 _ _ e1, e2, fun i r z => (e3 i r z).ns (NSame.of s9)⟩⟩
      have L9 := ct4.same s9
      have S9 := KaG.Same.tr ct6 s9
      obtain ⟨drs0, dr1, dr2, _⟩ := id R9
      refine ⟨_, rfl, .inl ⟨rfl, _, SqL.of dr1⟩, fun b => H b = none ∧ b ≠ l, ⟨L9, ⟨b12, rfl, rfl, rfl, F12.ns (NSame.of s9)⟩, ⟨b13, rfl, rfl, rfl, F13.ns (NSame.of s9)⟩, ⟨b14, rfl, rfl, rfl, ok9 0 b14 rfl⟩, trivial⟩, fun drs dH1 ds dm dok => ⟨sz (by rw [List.length_map, dm]; decide), fun dl2 dnl => ?_⟩⟩
      obtain ⟨drs1, dt1, dt2, dt3, dt4, dt5, dt6⟩ := R9.add (rs2 := drs) (H0 := H) L9 hN (KaG.Same.tr ds (same_upd (o := .lst (drs.map V.ref)) dnl)) (fun j r' z => (dok j r' z).ns (NSame.of (same_upd dnl))) S9 l0
      refine ⟨l, dl2, _, _, rfl, rfl, dt1, upd_same, by rw [List.length_map, List.length_map, dt2, dm]; exact sz (by decide), ?_⟩
      rw [dm] at dt3
      generalize upd (upd dH1 dl2 (.lst (drs.map V.ref))) l (.lst (drs1.map V.ref ++ drs.map V.ref)) = dG at dt3 dt4 dt5 dt6 ⊢
      clear dt1 dnl dok ds
      have F15 := (ok9 1 b15 rfl).ns dt5
      obtain ⟨ers0, er1, er2, _⟩ := id dt3
      refine ⟨_, rfl, .inl ⟨rfl, _, SqL.of er1⟩, fun b => H b = none ∧ b ≠ l, ⟨dt4, b15, rfl, rfl, rfl, F15⟩, fun r H10 s10 ok10 => ?_⟩
      obtain ⟨rs1, t1, t2, t3, t4, t5, t6⟩ := dt3.add (rs2 := [r]) (H0 := H) dt4 hN s10 (fun j r' z => by
        cases j with
        | zero => cases z; exact ok10
        | succ j => simp at z) dt6 l0
      refine ⟨l, _, .ref r, rfl, rfl, t1, sz2 (by rw [List.length_map, t2]; decide), ?_⟩
      change RowsOk _ _ _ _ _ l 16 at t3
      have hmap : ([r] : List Addr).map V.ref = [V.ref r] := rfl
      rw [hmap] at t3 t4 t5 t6
      generalize upd H10 l (.lst (rs1.map V.ref ++ [V.ref r])) = H11 at t3 t4 t5 t6 ⊢
      -- for error in (NoCommand(), ..)
      refine ⟨fun b => H b = none ∧ b ≠ l, ⟨t4, rfl, rfl⟩, fun es5 H12 s12 m12 ok12 => ⟨sz (by rw [List.length_map, m12]; decide), fun tp3 ntp3 => ?_⟩⟩
      refine ⟨tp3, rfl, ⟨_, SqT.of upd_same⟩, for_tup (K := K) (a := tp3) (xs := es5.map V.ref) (fun i σ' H' => ∃ x6 : Option V, σ' = [some v, some o, some (.ref a0), some (.ref a1), some (.ref a2), some (.ref l), x6, some (.ref b7), some (.ref b8), some (.ref b9), some (.ref b10), some (.ref b11), some (.ref b12), some (.ref b13), some (.ref b14), some (.ref b15)] ∧
        Same H H' ∧ Lg (fun b => H b = none ∧ b ≠ l) H' ∧ RowsOk (fun b => H b = none ∧ b ≠ l) H' Cs v o l (16 + i) ∧ (∀ j a, es5[j]? = some a → ErrOk (fun b => H b = none ∧ b ≠ l) H' Cs v o (16 + j) a) ∧ H' tp3 = some (.tup (es5.map V.ref)) ∧ tp3 ≠ l) ?_ ?_ ?_ ?_⟩
      · have q : Same H11 (upd H12 tp3 (.tup (es5.map V.ref))) := KaG.Same.tr s12 (same_upd ntp3)
        refine ⟨_, rfl, KaG.Same.tr t6 q, t4.same q, ?_, fun j a z => (ok12 j a z).ns (NSame.of (same_upd ntp3)), upd_same, ?_⟩
        · obtain ⟨rs', e1, e2, e3⟩ := t3
          exact ⟨⟨rs', q _ _ e1, e2, fun i r z => (e3 i r z).ns (NSame.of q)⟩⟩
        · obtain ⟨rs', e1, _⟩ := t3
          exact fun w => by rw [w, s12 _ _ e1] at ntp3; cases ntp3
      · rintro i σ' H' _ ⟨_, _, _, _, _, _, e, _⟩
        exact SqT.of e
      · rintro i x σ' H' hx ⟨x6, rfl, q1, q2, q3, q4, q5, q6⟩
        rw [List.getElem?_map] at hx
        obtain ⟨a, ha, rfl⟩ := Option.map_eq_some_iff.mp hx
        have hi : i < 6 := by
          have := (List.getElem?_eq_some_iff.mp ha).1
          omega
        obtain ⟨rs0, r1, r2, _⟩ := id q3
        refine ⟨_, rfl, .inl ⟨rfl, _, SqL.of r1⟩, fun b => H b = none ∧ b ≠ l, 16 + i, by omega, ⟨q2, a, rfl, rfl, rfl, q4 i a ha⟩, fun r H5 s5 ok5 => ?_⟩
        obtain ⟨rs1, t1, t2, t3, t4, t5, t6⟩ := q3.add (rs2 := [r]) (H0 := H) q2 hN s5 (fun j r' z => by
          cases j with
          | zero => cases z; exact ok5
          | succ j => simp at z) q1 l0
        refine ⟨l, _, .ref r, rfl, rfl, t1, sz2 (by rw [List.length_map, t2]; omega), ?_⟩
        refine ⟨_, rfl, t6, t4, t3, fun j a' z => (q4 j a' z).ns t5, ?_, q6⟩
        rw [upd_ne q6]
        exact s5 _ _ q5
      · rintro σ' H' ⟨x6, rfl, q1, q2, q3, q4, q5, q6⟩
        rw [List.length_map, m12] at q3
        exact ⟨_, rfl, k l H' q1 l0 q3⟩
end
end KaG


set_option maxRecDepth 100000
set_option maxHeartbeats 400000
namespace KaG
open PySem PySem.Spec PyProof.Rows L2
/-- an error of the i-th class stands at e -/
structure ErrI (H : Hp) (Cs : List Addr) (i : Nat) (e : Addr) : Prop where
  it : ∃ C t1 d, Cs[i]? = some C ∧ H e = some (exw e C d t1) ∧ ∀ b, d = some b → ∃ fs, H b = some (exd b fs)
theorem ErrOk.toI {N : Addr → Prop} {H : Hp} {Cs : List Addr} {v o : V} {i : Nat} {e : Addr} (h : ErrOk N H Cs v o i e) : ErrI H Cs i e := by
  obtain ⟨_, C, t1, hc, h⟩ := h
  rcases h with ⟨_, dx, fs, _, e1, e2, _⟩ | ⟨_, e1⟩
  · exact ⟨C, t1, some dx, hc, e1, fun b z => by cases z; exact ⟨fs, e2⟩⟩
  · exact ⟨C, t1, none, hc, e1, fun b z => nomatch z⟩
theorem ErrI.same {H H' : Hp} {Cs : List Addr} {i : Nat} {e : Addr} (h : ErrI H Cs i e) (s : Same H H') : ErrI H' Cs i e := by
  obtain ⟨C, t1, d, hc, e1, k⟩ := h
  exact ⟨C, t1, d, hc, s _ _ e1, fun b z => let ⟨fs, q⟩ := k b z; ⟨fs, s _ _ q⟩⟩
def PairK (K : PySem.W.Frag) (Cs : List Addr) : Prop := ∀ (i j : Nat) (Ci Cj : Addr), Cs[i]? = some Ci → Cs[j]? = some Cj → PySem.W.kitOne K (.ref Ci) (.ref Cj) = some (decide (i = j))
def ExAll (K : PySem.W.Frag) (Cs : List Addr) : Prop := ∀ (i : Nat) (C : Addr), Cs[i]? = some C → L2.ExcC K C
/-- isinstance(error, C), the j-th class -/
def tIs (Cs : List Addr) (j : Nat) : TE := fun σ H Q => ∃ e i, σ[0]? = some (some (.ref e)) ∧ ErrI H Cs i e ∧ Q (.bl (decide (i = j))) H
theorem pe_is {X : Cx} {Cs : List Addr} {j : Nat} {C : Addr} {x : Str} {e1 : Expr} {p p1 pos : Pos} (PK : PairK X.K Cs) (EX : ExAll X.K Cs) (m : X.mg x = some (.ref C)) (hC : Cs[j]? = some C) (hg : Gl X x) (hi : X.mg "isinstance" = none) (he : PE X e1 (tVar 0)) (hgi : Gl X "isinstance" := by rfl)
    (hd : (x == ("__debug__" : Str)) = false := by decide) (h1 : starEach [e1, .Name x p1] X.env = (false, eval e1 X.env) :: starEach [.Name x p1] X.env := by rfl) (h2 : starEach [.Name x p1] X.env = (false, eval (.Name x p1) X.env) :: starEach [] X.env := by rfl)
    (hpl : (backTo pos (starEach [.Name x p1] X.env)).any (·.1) = false := by rfl) : PE X (.Call (.Name "isinstance" p) [e1, .Name x p1] [] pos) (tIs Cs j) := by
  refine pe_imp (pe_callB call_isW hgi hi (by decide +kernel) (pa_cons he (pa_cons (pe_glob (v := .ref C) hg m rfl hd) pa_nil h2) h1) (by decide) (by decide) h1 hpl) fun σ H Q z => ?_
  obtain ⟨e, i, s0, ⟨Ci, t1, d, hc, ee, ed⟩, q⟩ := z
  exact ⟨_, s0, e, Ci, t1, d, .ref C, .ref C, decide (i = j), rfl, .own C, EX i Ci hc, ee, ed, PK i j Ci C hc hC, q⟩
structure NamesC (mg : Str → Option Value) (Cs : List Addr) : Prop where
  n0 : ∃ C, Cs[0]? = some C ∧ mg "BadDeed" = some (.ref C)
  n1 : ∃ C, Cs[1]? = some C ∧ mg "NoGround" = some (.ref C)
  n2 : ∃ C, Cs[2]? = some C ∧ mg "NoIndex" = some (.ref C)
  n3 : ∃ C, Cs[3]? = some C ∧ mg "NoKind" = some (.ref C)
  n4 : ∃ C, Cs[4]? = some C ∧ mg "NoName" = some (.ref C)
  n5 : ∃ C, Cs[5]? = some C ∧ mg "NotEver" = some (.ref C)
  n6 : ∃ C, Cs[6]? = some C ∧ mg "Unlike" = some (.ref C)
  n7 : ∃ C, Cs[7]? = some C ∧ mg "Barred" = some (.ref C)
  n8 : ∃ C, Cs[8]? = some C ∧ mg "NoDial" = some (.ref C)
  n9 : ∃ C, Cs[9]? = some C ∧ mg "NoLot" = some (.ref C)
  n10 : ∃ C, Cs[10]? = some C ∧ mg "NoText" = some (.ref C)
  n11 : ∃ C, Cs[11]? = some C ∧ mg "NotHeld" = some (.ref C)
  n12 : ∃ C, Cs[12]? = some C ∧ mg "NotMet" = some (.ref C)
  n13 : ∃ C, Cs[13]? = some C ∧ mg "TooMany" = some (.ref C)
  n14 : ∃ C, Cs[14]? = some C ∧ mg "Untold" = some (.ref C)
  n15 : ∃ C, Cs[15]? = some C ∧ mg "Wrong" = some (.ref C)
  n16 : ∃ C, Cs[16]? = some C ∧ mg "NoCommand" = some (.ref C)
  n17 : ∃ C, Cs[17]? = some C ∧ mg "NoDeed" = some (.ref C)
  n18 : ∃ C, Cs[18]? = some C ∧ mg "NoNews" = some (.ref C)
  n19 : ∃ C, Cs[19]? = some C ∧ mg "NotMorning" = some (.ref C)
  n20 : ∃ C, Cs[20]? = some C ∧ mg "NotTimed" = some (.ref C)
  n21 : ∃ C, Cs[21]? = some C ∧ mg "Nothing" = some (.ref C)
def tl (i : Nat) : Nat → List V
  | 0 => []
  | n + 1 => tl i n ++ [.bl (decide (i = n))]
theorem tl_len (i : Nat) : ∀ n, (tl i n).length = n
  | 0 => rfl
  | n + 1 => by show (tl i n ++ [_]).length = _; rw [List.length_append, tl_len i n]; rfl
theorem tl_get (i : Nat) : ∀ n j, j < n → (tl i n)[j]? = some (.bl (decide (i = j)))
  | 0, j, h => absurd h (Nat.not_lt_zero j)
  | n + 1, j, h => by
    show (tl i n ++ [_])[j]? = _
    by_cases hj : j < n
    · rw [List.getElem?_append_left (by rw [tl_len]; exact hj)]
      exact tl_get i n j hj
    · have e : j = n := by omega
      subst e
      rw [List.getElem?_append_right (by rw [tl_len]; exact Nat.le_refl _), tl_len, Nat.sub_self]
      rfl
theorem tl3 (i n : Nat) : tl i n ++ [V.bl (decide (i = n)), V.bl (decide (i = n + 1)), V.bl (decide (i = n + 2))] = tl i (n + 3) := by
  show _ = ((tl i n ++ [_]) ++ [_]) ++ [_]
  rw [List.append_assoc, List.append_assoc]
  rfl
theorem grow {H G : Hp} {l : Addr} {o : HO} (s : Same H G) (l0 : H l = none) : Same H (upd G l o) := fun b u e => by
  rw [upd_ne (ne_of_none e l0)]
  exact s b u e
theorem Er.tell {H G : Hp} {Cs : List Addr} {i : Nat} {e : Addr} (hE : ErrI H Cs i e) (s : Same H G) (j : Nat) {σ : L2.St} {Q : VK} (hσ : σ[0]? = some (some (.ref e)) := by rfl) (q : Q (.bl (decide (i = j))) G) : tIs Cs j σ G Q := ⟨e, i, hσ, hE.same s, q⟩
section
variable {P : Program} {w : World} {K : PySem.W.Frag} {mg : Str → Option Value} {base : Heap}
theorem scCls2 : FnScope ["error", "told", "k"] ["error"] (defScope sCls) := ⟨rfl, rfl, rfl, by decide +kernel, rfl, by decide +kernel, by decide +kernel⟩
def spCls (Cs : List Addr) : Sp := fun vs H Q _ => ∃ (e : Addr) (i : Nat), vs = [.ref e] ∧ i < 22 ∧ ErrI H Cs i e ∧ ∀ p H', Same H H' → H p = none → H' p = some (.lst [.int (i : Int)]) → Q (.ref p) H'
theorem ok_cls {Cs : List Addr} {f : Addr} {fd : FuncData} (F : Fun K "_law_classes_of" "_law_classes_of" sCls f fd) (T : TxtB mg) (A0 : NamesC mg Cs) (PK : PairK K Cs) (EX : ExAll K Cs) : FnOk P w K mg base CX0 1 f fd ["error"] (spCls Cs) := by
  obtain ⟨C0, c0, m0⟩ := A0.n0
  obtain ⟨C1, c1, m1⟩ := A0.n1
  obtain ⟨C2, c2, m2⟩ := A0.n2
  obtain ⟨C3, c3, m3⟩ := A0.n3
  obtain ⟨C4, c4, m4⟩ := A0.n4
  obtain ⟨C5, c5, m5⟩ := A0.n5
  obtain ⟨C6, c6, m6⟩ := A0.n6
  obtain ⟨C7, c7, m7⟩ := A0.n7
  obtain ⟨C8, c8, m8⟩ := A0.n8
  obtain ⟨C9, c9, m9⟩ := A0.n9
  obtain ⟨C10, c10, m10⟩ := A0.n10
  obtain ⟨C11, c11, m11⟩ := A0.n11
  obtain ⟨C12, c12, m12⟩ := A0.n12
  obtain ⟨C13, c13, m13⟩ := A0.n13
  obtain ⟨C14, c14, m14⟩ := A0.n14
  obtain ⟨C15, c15, m15⟩ := A0.n15
  obtain ⟨C16, c16, m16⟩ := A0.n16
  obtain ⟨C17, c17, m17⟩ := A0.n17
  obtain ⟨C18, c18, m18⟩ := A0.n18
  obtain ⟨C19, c19, m19⟩ := A0.n19
  obtain ⟨C20, c20, m20⟩ := A0.n20
  obtain ⟨C21, c21, m21⟩ := A0.n21
  refine F.ok scCls2 (fun vs H Q E h => ?_) (fun cdv A outer s H vs Q E hr h => ?_)
  · obtain ⟨e, i, rfl, _⟩ := h
    rfl
  · obtain ⟨e, i, rfl, hi, hE, k⟩ := h
    refine ⟨_, (pss_cons (ps_set (i := 1) scCls2.nd rfl (Or.inr rfl) (pe_lst (pa_cons (pe_is (Cs := Cs) (j := 0) PK EX m0 c0 (by rfl) T.isin (pv 0)) (pa_cons (pe_is (Cs := Cs) (j := 1) PK EX m1 c1 (by rfl) T.isin (pv 0)) (pa_cons (pe_is (Cs := Cs) (j := 2) PK EX m2 c2 (by rfl) T.isin (pv 0)) pa_nil)))))
      (pss_cons (ps_expr (pe_bm PySem.F.plainAttrs_list PySem.F.slot_list_extend PySem.F.type_list_extend mt_extend (pv 1) (pa_cons (pe_lst (pa_cons (pe_is (Cs := Cs) (j := 3) PK EX m3 c3 (by rfl) T.isin (pv 0)) (pa_cons (pe_is (Cs := Cs) (j := 4) PK EX m4 c4 (by rfl) T.isin (pv 0)) (pa_cons (pe_is (Cs := Cs) (j := 5) PK EX m5 c5 (by rfl) T.isin (pv 0)) pa_nil)))) pa_nil)))
      (pss_cons (ps_expr (pe_bm PySem.F.plainAttrs_list PySem.F.slot_list_extend PySem.F.type_list_extend mt_extend (pv 1) (pa_cons (pe_lst (pa_cons (pe_is (Cs := Cs) (j := 6) PK EX m6 c6 (by rfl) T.isin (pv 0)) (pa_cons (pe_is (Cs := Cs) (j := 7) PK EX m7 c7 (by rfl) T.isin (pv 0)) (pa_cons (pe_is (Cs := Cs) (j := 8) PK EX m8 c8 (by rfl) T.isin (pv 0)) pa_nil)))) pa_nil)))
      (pss_cons (ps_expr (pe_bm PySem.F.plainAttrs_list PySem.F.slot_list_extend PySem.F.type_list_extend mt_extend (pv 1) (pa_cons (pe_lst (pa_cons (pe_is (Cs := Cs) (j := 9) PK EX m9 c9 (by rfl) T.isin (pv 0)) (pa_cons (pe_is (Cs := Cs) (j := 10) PK EX m10 c10 (by rfl) T.isin (pv 0)) (pa_cons (pe_is (Cs := Cs) (j := 11) PK EX m11 c11 (by rfl) T.isin (pv 0)) pa_nil)))) pa_nil)))
      (pss_cons (ps_expr (pe_bm PySem.F.plainAttrs_list PySem.F.slot_list_extend PySem.F.type_list_extend mt_extend (pv 1) (pa_cons (pe_lst (pa_cons (pe_is (Cs := Cs) (j := 12) PK EX m12 c12 (by rfl) T.isin (pv 0)) (pa_cons (pe_is (Cs := Cs) (j := 13) PK EX m13 c13 (by rfl) T.isin (pv 0)) (pa_cons (pe_is (Cs := Cs) (j := 14) PK EX m14 c14 (by rfl) T.isin (pv 0)) pa_nil)))) pa_nil)))
      (pss_cons (ps_expr (pe_bm PySem.F.plainAttrs_list PySem.F.slot_list_extend PySem.F.type_list_extend mt_extend (pv 1) (pa_cons (pe_lst (pa_cons (pe_is (Cs := Cs) (j := 15) PK EX m15 c15 (by rfl) T.isin (pv 0)) (pa_cons (pe_is (Cs := Cs) (j := 16) PK EX m16 c16 (by rfl) T.isin (pv 0)) (pa_cons (pe_is (Cs := Cs) (j := 17) PK EX m17 c17 (by rfl) T.isin (pv 0)) pa_nil)))) pa_nil)))
      (pss_cons (ps_expr (pe_bm PySem.F.plainAttrs_list PySem.F.slot_list_extend PySem.F.type_list_extend mt_extend (pv 1) (pa_cons (pe_lst (pa_cons (pe_is (Cs := Cs) (j := 18) PK EX m18 c18 (by rfl) T.isin (pv 0)) (pa_cons (pe_is (Cs := Cs) (j := 19) PK EX m19 c19 (by rfl) T.isin (pv 0)) (pa_cons (pe_is (Cs := Cs) (j := 20) PK EX m20 c20 (by rfl) T.isin (pv 0)) pa_nil)))) pa_nil)))
      (pss_cons (ps_expr (pe_bm PySem.F.plainAttrs_list PySem.F.slot_list_append PySem.F.type_list_append mt_append (pv 1) (pa_cons (pe_is (Cs := Cs) (j := 21) PK EX m21 c21 (by rfl) T.isin (pv 0)) pa_nil)))
      (pss_one (ps_ret (pe_lc (own := [("k", 2)]) (g := gName 2) (by rfl) scCls2.nd (pi_range1 rfl T.range (pa_cons (pe_callB call_len_seq (by rfl) T.len PySem.boot_len (pa_cons (pv 1) pa_nil)) pa_nil))
      (blkOk_by (own := [("k", 2)]) (N := ["error", "told", "k"]) (sc := defScope sCls) (by decide +kernel)) (fun _ _ _ _ _ => pg_name (i := 2) scCls2.nd rfl (Or.inl rfl)) (fun _ _ _ _ _ => pts_one (pt_val (pe_ix (r := rIxL K) ix_list (pv 1) (pv 2) (fun _ _ => rfl))))
      (fun _ _ _ _ _ => pv 2)))))))))))), ?_⟩
    have sz : ∀ {m : Nat}, m ≤ 900 → m ≤ sizeLine := fun h => Nat.le_of_lt (small1000 (by omega))
    refine ⟨e, i, rfl, hE.same Same.refl', e, i, rfl, hE.same Same.refl', e, i, rfl, hE.same Same.refl', by show 3 ≤ sizeLine; decide, fun l l0 => ?_⟩
    have s0 : Same H (upd H l (.lst [.bl (decide (i = 0)), .bl (decide (i = 1)), .bl (decide (i = 2))])) := same_upd l0
    have g0 : upd H l (.lst [.bl (decide (i = 0)), .bl (decide (i = 1)), .bl (decide (i = 2))]) l = some (.lst (tl i 3)) := by rw [upd_same]; exact congrArg (fun z => some (HO.lst z)) (tl3 i 0)
    generalize upd H l (.lst [.bl (decide (i = 0)), .bl (decide (i = 1)), .bl (decide (i = 2))]) = G0 at s0 g0 ⊢
    refine ⟨_, rfl, .inl ⟨rfl, _, SqL.of g0⟩, e, i, rfl, hE.same s0, e, i, rfl, hE.same s0, e, i, rfl, hE.same s0, by show 3 ≤ sizeLine; decide, fun q0 nq0 => ?_⟩
    have lq0 : l ≠ q0 := fun z => by rw [z] at g0; rw [g0] at nq0; cases nq0
    refine ⟨l, q0, _, _, rfl, rfl, by rw [upd_ne lq0]; exact g0, upd_same, sz (by rw [tl_len]; show 3 + 3 ≤ 900; decide), ?_⟩
    have s1 := grow (o := .lst (tl i 3 ++ [.bl (decide (i = 3)), .bl (decide (i = 4)), .bl (decide (i = 5))])) (KaG.Same.tr s0 (same_upd (o := .lst [.bl (decide (i = 3)), .bl (decide (i = 4)), .bl (decide (i = 5))]) nq0)) l0
    have g1 : upd (upd G0 q0 (.lst [.bl (decide (i = 3)), .bl (decide (i = 4)), .bl (decide (i = 5))])) l (.lst (tl i 3 ++ [.bl (decide (i = 3)), .bl (decide (i = 4)), .bl (decide (i = 5))])) l = some (.lst (tl i 6)) := by rw [upd_same]; exact congrArg (fun z => some (HO.lst z)) (tl3 i 3)
    generalize upd (upd G0 q0 (.lst [.bl (decide (i = 3)), .bl (decide (i = 4)), .bl (decide (i = 5))])) l (.lst (tl i 3 ++ [.bl (decide (i = 3)), .bl (decide (i = 4)), .bl (decide (i = 5))])) = G1 at s1 g1 ⊢
    refine ⟨_, rfl, .inl ⟨rfl, _, SqL.of g1⟩, e, i, rfl, hE.same s1, e, i, rfl, hE.same s1, e, i, rfl, hE.same s1, by show 3 ≤ sizeLine; decide, fun q1 nq1 => ?_⟩
    have lq1 : l ≠ q1 := fun z => by rw [z] at g1; rw [g1] at nq1; cases nq1
    refine ⟨l, q1, _, _, rfl, rfl, by rw [upd_ne lq1]; exact g1, upd_same, sz (by rw [tl_len]; show 6 + 3 ≤ 900; decide), ?_⟩
    have s2 := grow (o := .lst (tl i 6 ++ [.bl (decide (i = 6)), .bl (decide (i = 7)), .bl (decide (i = 8))])) (KaG.Same.tr s1 (same_upd (o := .lst [.bl (decide (i = 6)), .bl (decide (i = 7)), .bl (decide (i = 8))]) nq1)) l0
    have g2 : upd (upd G1 q1 (.lst [.bl (decide (i = 6)), .bl (decide (i = 7)), .bl (decide (i = 8))])) l (.lst (tl i 6 ++ [.bl (decide (i = 6)), .bl (decide (i = 7)), .bl (decide (i = 8))])) l = some (.lst (tl i 9)) := by rw [upd_same]; exact congrArg (fun z => some (HO.lst z)) (tl3 i 6)
    generalize upd (upd G1 q1 (.lst [.bl (decide (i = 6)), .bl (decide (i = 7)), .bl (decide (i = 8))])) l (.lst (tl i 6 ++ [.bl (decide (i = 6)), .bl (decide (i = 7)), .bl (decide (i = 8))])) = G2 at s2 g2 ⊢
    refine ⟨_, rfl, .inl ⟨rfl, _, SqL.of g2⟩, e, i, rfl, hE.same s2, e, i, rfl, hE.same s2, e, i, rfl, hE.same s2, by show 3 ≤ sizeLine; decide, fun q2 nq2 => ?_⟩
    have lq2 : l ≠ q2 := fun z => by rw [z] at g2; rw [g2] at nq2; cases nq2
    refine ⟨l, q2, _, _, rfl, rfl, by rw [upd_ne lq2]; exact g2, upd_same, sz (by rw [tl_len]; show 9 + 3 ≤ 900; decide), ?_⟩
    have s3 := grow (o := .lst (tl i 9 ++ [.bl (decide (i = 9)), .bl (decide (i = 10)), .bl (decide (i = 11))])) (KaG.Same.tr s2 (same_upd (o := .lst [.bl (decide (i = 9)), .bl (decide (i = 10)), .bl (decide (i = 11))]) nq2)) l0
    have g3 : upd (upd G2 q2 (.lst [.bl (decide (i = 9)), .bl (decide (i = 10)), .bl (decide (i = 11))])) l (.lst (tl i 9 ++ [.bl (decide (i = 9)), .bl (decide (i = 10)), .bl (decide (i = 11))])) l = some (.lst (tl i 12)) := by rw [upd_same]; exact congrArg (fun z => some (HO.lst z)) (tl3 i 9)
    generalize upd (upd G2 q2 (.lst [.bl (decide (i = 9)), .bl (decide (i = 10)), .bl (decide (i = 11))])) l (.lst (tl i 9 ++ [.bl (decide (i = 9)), .bl (decide (i = 10)), .bl (decide (i = 11))])) = G3 at s3 g3 ⊢
    refine ⟨_, rfl, .inl ⟨rfl, _, SqL.of g3⟩, e, i, rfl, hE.same s3, e, i, rfl, hE.same s3, e, i, rfl, hE.same s3, by show 3 ≤ sizeLine; decide, fun q3 nq3 => ?_⟩
    have lq3 : l ≠ q3 := fun z => by rw [z] at g3; rw [g3] at nq3; cases nq3
    refine ⟨l, q3, _, _, rfl, rfl, by rw [upd_ne lq3]; exact g3, upd_same, sz (by rw [tl_len]; show 12 + 3 ≤ 900; decide), ?_⟩
    have s4 := grow (o := .lst (tl i 12 ++ [.bl (decide (i = 12)), .bl (decide (i = 13)), .bl (decide (i = 14))])) (KaG.Same.tr s3 (same_upd (o := .lst [.bl (decide (i = 12)), .bl (decide (i = 13)), .bl (decide (i = 14))]) nq3)) l0
    have g4 : upd (upd G3 q3 (.lst [.bl (decide (i = 12)), .bl (decide (i = 13)), .bl (decide (i = 14))])) l (.lst (tl i 12 ++ [.bl (decide (i = 12)), .bl (decide (i = 13)), .bl (decide (i = 14))])) l = some (.lst (tl i 15)) := by rw [upd_same]; exact congrArg (fun z => some (HO.lst z)) (tl3 i 12)
    generalize upd (upd G3 q3 (.lst [.bl (decide (i = 12)), .bl (decide (i = 13)), .bl (decide (i = 14))])) l (.lst (tl i 12 ++ [.bl (decide (i = 12)), .bl (decide (i = 13)), .bl (decide (i = 14))])) = G4 at s4 g4 ⊢
    refine ⟨_, rfl, .inl ⟨rfl, _, SqL.of g4⟩, e, i, rfl, hE.same s4, e, i, rfl, hE.same s4, e, i, rfl, hE.same s4, by show 3 ≤ sizeLine; decide, fun q4 nq4 => ?_⟩
    have lq4 : l ≠ q4 := fun z => by rw [z] at g4; rw [g4] at nq4; cases nq4
    refine ⟨l, q4, _, _, rfl, rfl, by rw [upd_ne lq4]; exact g4, upd_same, sz (by rw [tl_len]; show 15 + 3 ≤ 900; decide), ?_⟩
    have s5 := grow (o := .lst (tl i 15 ++ [.bl (decide (i = 15)), .bl (decide (i = 16)), .bl (decide (i = 17))])) (KaG.Same.tr s4 (same_upd (o := .lst [.bl (decide (i = 15)), .bl (decide (i = 16)), .bl (decide (i = 17))]) nq4)) l0
    have g5 : upd (upd G4 q4 (.lst [.bl (decide (i = 15)), .bl (decide (i = 16)), .bl (decide (i = 17))])) l (.lst (tl i 15 ++ [.bl (decide (i = 15)), .bl (decide (i = 16)), .bl (decide (i = 17))])) l = some (.lst (tl i 18)) := by rw [upd_same]; exact congrArg (fun z => some (HO.lst z)) (tl3 i 15)
    generalize upd (upd G4 q4 (.lst [.bl (decide (i = 15)), .bl (decide (i = 16)), .bl (decide (i = 17))])) l (.lst (tl i 15 ++ [.bl (decide (i = 15)), .bl (decide (i = 16)), .bl (decide (i = 17))])) = G5 at s5 g5 ⊢
    refine ⟨_, rfl, .inl ⟨rfl, _, SqL.of g5⟩, e, i, rfl, hE.same s5, e, i, rfl, hE.same s5, e, i, rfl, hE.same s5, by show 3 ≤ sizeLine; decide, fun q5 nq5 => ?_⟩
    have lq5 : l ≠ q5 := fun z => by rw [z] at g5; rw [g5] at nq5; cases nq5
    refine ⟨l, q5, _, _, rfl, rfl, by rw [upd_ne lq5]; exact g5, upd_same, sz (by rw [tl_len]; show 18 + 3 ≤ 900; decide), ?_⟩
    have s6 := grow (o := .lst (tl i 18 ++ [.bl (decide (i = 18)), .bl (decide (i = 19)), .bl (decide (i = 20))])) (KaG.Same.tr s5 (same_upd (o := .lst [.bl (decide (i = 18)), .bl (decide (i = 19)), .bl (decide (i = 20))]) nq5)) l0
    have g6 : upd (upd G5 q5 (.lst [.bl (decide (i = 18)), .bl (decide (i = 19)), .bl (decide (i = 20))])) l (.lst (tl i 18 ++ [.bl (decide (i = 18)), .bl (decide (i = 19)), .bl (decide (i = 20))])) l = some (.lst (tl i 21)) := by rw [upd_same]; exact congrArg (fun z => some (HO.lst z)) (tl3 i 18)
    generalize upd (upd G5 q5 (.lst [.bl (decide (i = 18)), .bl (decide (i = 19)), .bl (decide (i = 20))])) l (.lst (tl i 18 ++ [.bl (decide (i = 18)), .bl (decide (i = 19)), .bl (decide (i = 20))])) = G6 at s6 g6 ⊢
    refine ⟨_, rfl, .inl ⟨rfl, _, SqL.of g6⟩, e, i, rfl, hE.same s6, l, _, .bl (decide (i = 21)), rfl, rfl, g6, small1000 (by rw [tl_len]; decide), ?_⟩
    have s7 := grow (o := .lst (tl i 21 ++ [.bl (decide (i = 21))])) s6 l0
    have g7 : upd G6 l (.lst (tl i 21 ++ [.bl (decide (i = 21))])) l = some (.lst (tl i 22)) := upd_same
    generalize upd G6 l (.lst (tl i 21 ++ [.bl (decide (i = 21))])) = G7 at s7 g7 ⊢
    have fin : ∀ D, G7 D = none → ∀ H', H' = upd G7 D (.lst (if i < 22 then [.int (i : Int)] else [])) → Q (.ref D) H' := fun D hD H' e => by
      subst e
      rw [if_pos hi]
      refine k D _ (KaG.Same.tr s7 (same_upd hD)) ?_ upd_same
      cases e : H D with
      | none => rfl
      | some u => rw [s7 _ _ e] at hD; cases hD
    refine ⟨_, rfl, _, _, rfl, .inl (SqL.of g7), ((tl i 22).length : Int), rfl, ?_⟩
    rw [tl_len]
    refine ⟨by decide, by decide, fun D hD => lc_range (lo := 0) (n := 22) (fun j H' => H' = upd G7 D (.lst (if i < j then [.int (i : Int)] else []))) ?_ ?_ ?_⟩
    · rw [if_neg (Nat.not_lt_zero i)]
    · rintro j H' hj rfl
      have nl : l ≠ D := fun z => by rw [z] at g7; rw [g7] at hD; cases hD
      have gl : upd G7 D (.lst (if i < j then [.int (i : Int)] else [])) l = some (.lst (tl i 22)) := by rw [upd_ne nl]; exact g7
      have ga : atI (tl i 22) ((0 : Int) + (j : Int)) = some (.bl (decide (i = j))) := by
        rw [Int.zero_add]
        exact atI_nat (tl_get i 22 j hj)
      refine ⟨rfl, _, rfl, _, rfl, l, tl i 22, _, _, rfl, rfl, SqL.of gl, ga, _, rfl, ?_⟩
      by_cases hij : i = j
      · subst hij
        rw [decide_eq_true rfl, if_pos rfl]
        refine ⟨_, rfl, _, upd_same, ?_, ?_⟩
        · rw [if_neg (Nat.lt_irrefl i)]; exact small1000 (by decide)
        · rw [upd_upd, if_neg (Nat.lt_irrefl i), if_pos (Nat.lt_succ_self i), Int.zero_add]
          rfl
      · rw [decide_eq_false hij]
        dsimp only
        rw [if_neg Bool.false_ne_true]
        by_cases h2 : i < j
        · rw [if_pos h2, if_pos (by omega)]
        · rw [if_neg h2, if_neg (by omega)]
    · rintro H' rfl
      exact fin D hD _ rfl
end
end KaG


set_option maxRecDepth 100000
set_option maxHeartbeats 1000000
namespace KaG
open PySem PySem.Spec PyProof.Rows L2
section
variable {X : Cx}
/-- raise C(), C without an __init__ -/
theorem pmk_none {C : Addr} {x : Str} {p pos : Pos} (q : PySem.W.excIn X.K C bmVE "ValueError.__new__" = true) (gC : X.mg x = some (.ref C)) (kC : PySem.W.keepIn X.K (.ref C) = true) (r : Raises X (.ref C)) (hg : Gl X x) (hdb : (x == ("__debug__" : Str)) = false := by decide) :
    PMk X (.Call (.Name x p) [] [] pos) (fun _ H Q => Q (.ref C) none H) := by
  intro pins s σ H Q I h
  refine wpAny_Call_Name_kw (ld_glob I hg gC ?_ hdb)
  refine PySem.W.callWith_K0 I.kIn kC ?_
  obtain ⟨bm, N, nm, qn, bs, hdct, sn, sub, ab, col, dd, k0, k1, k2, k3, k5, mN, hC, hN, hni, T⟩ := exc_obj I.kIn q
  refine wpAny_call_exc_subT F.excBase_ValueError T hC hN hni (fun h' e hm => ?_) (Nat.zero_le _)
  exact mk_of I hm r h (I.hok.gone hm.new)
end
/-- for a raise: the first store, by what the library tells of an exception that is being made -/
def spRz1 (K : PySem.W.Frag) (f : Str) (C : Addr) : Sp := fun vs H Q _ => ∃ (a : Addr) (v : V), vs = [.ref a, v] ∧ H a = some (exo a C none) ∧ OexC K C ∧ PySem.W.findIn K (.ref C) f = some none ∧
  ∀ dx, H dx = none → dx ≠ a → Q .non (upd (upd H dx (exd dx [(f, v)])) a (exo a C (some dx)))
def spRz2 (K : PySem.W.Frag) (C : Addr) : Sp := fun vs H Q _ => ∃ (a : Addr) (v o : V), vs = [.ref a, v, o] ∧ H a = some (exo a C none) ∧ OexC K C ∧ PySem.W.findIn K (.ref C) "index" = some none ∧ PySem.W.findIn K (.ref C) "paper" = some none ∧
  ∀ dx, H dx = none → dx ≠ a → Q .non (upd (upd (upd H dx (exd dx [("index", v)])) a (exo a C (some dx))) dx (exd dx [("paper", o), ("index", v)]))
section
variable {P : Program} {w : World} {K : PySem.W.Frag} {mg : Str → Option Value} {base : Heap}
theorem ok_rz1 {f : Str} {C : Addr} {qual : Str} {st : Stmt} {fI : Addr} {fd : FuncData} {p1 p2 p3 p4 : Pos} (F : Fun K "__init__" qual st fI fd) (sc : FnScope ["self", f] ["self", f] (defScope st)) (hb : defBody st = [.Assign [.Attribute (.Name "self" p1) f p2] (.Name f p3) p4])
    (h1 : (f == ("__debug__" : Str)) = false) (h2 : (f == ("__classdict__" : Str)) = false) : FnOk P w K mg base CX0 1 fI fd ["self", f] (spRz1 K f C) := by
  refine F.ok sc (fun vs H Q E h => ?_) (fun cdv A outer s H vs Q E hr h => ?_)
  · obtain ⟨a, v, rfl, _⟩ := h
    rfl
  · obtain ⟨a, v, rfl, ea, T, nf, k⟩ := h
    rw [hb]
    have vis : ∀ x, x ∈ (["self", f] : List Str) → Vis (defScope st) x := fun x m => (sc.par x m).elim .inl fun z => .inr (.inl z)
    refine ⟨_, pss_one (ps_ost (pe_var (i := 0) rfl (vis _ (by simp))) (pe_var (i := 1) rfl (vis _ (by simp)) h1 h2)), ?_⟩
    exact ⟨_, rfl, _, rfl, a, C, rfl, T, nf, .inl ⟨ea, fun dx n ne => k dx n ne⟩⟩
theorem ok_rz2 {C : Addr} {qual : Str} {st : Stmt} {fI : Addr} {fd : FuncData} {p1 p2 p3 p4 q1 q2 q3 q4 : Pos} (F : Fun K "__init__" qual st fI fd) (sc : FnScope ["self", "index", "paper"] ["self", "index", "paper"] (defScope st))
    (hb : defBody st = [.Assign [.Attribute (.Name "self" p1) "index" p2] (.Name "index" p3) p4, .Assign [.Attribute (.Name "self" q1) "paper" q2] (.Name "paper" q3) q4]) : FnOk P w K mg base CX0 1 fI fd ["self", "index", "paper"] (spRz2 K C) := by
  refine F.ok sc (fun vs H Q E h => ?_) (fun cdv A outer s H vs Q E hr h => ?_)
  · obtain ⟨a, v, o, rfl, _⟩ := h
    rfl
  · obtain ⟨a, v, o, rfl, ea, T, nf, np, k⟩ := h
    rw [hb]
    have vis : ∀ x, x ∈ (["self", "index", "paper"] : List Str) → Vis (defScope st) x := fun x m => (sc.par x m).elim .inl fun z => .inr (.inl z)
    refine ⟨_, pss_cons (ps_ost (pe_var (i := 0) rfl (vis _ (by simp))) (pe_var (i := 1) rfl (vis _ (by simp)))) (pss_one (ps_ost (pe_var (i := 0) rfl (vis _ (by simp))) (pe_var (i := 2) rfl (vis _ (by simp))))), ?_⟩
    refine ⟨_, rfl, _, rfl, a, C, rfl, T, nf, .inl ⟨ea, fun dx n ne => ?_⟩⟩
    exact ⟨_, rfl, _, rfl, a, C, rfl, T, np, .inr ⟨dx, _, upd_same, by rw [upd_ne ne, upd_same], by show 1 ≤ 900; decide, k dx n ne⟩⟩
/-- what the handlers ask of the classes -/
structure CaughtT (P : Program) (w : World) (K : PySem.W.Frag) (mg : Str → Option Value) (base : Heap) (G C14 C11 C16 : Addr) : Prop where
  gG : mg "GoneError" = some (.ref G)
  u : ∃ f d, Ini P w K mg base "Untold" "last" C14 f d ∧ FnOk P w K mg base CX0 1 f d ["self", "last"] (spRz1 K "last" C14)
  h : ∃ f d, Ini2 P w K mg base "NotHeld" C11 f d ∧ FnOk P w K mg base CX0 1 f d ["self", "index", "paper"] (spRz2 K C11)
  n : Ini0 K mg "NoCommand" C16
  x1 : PySem.W.exmOne K (.ref C14) (.ref G) = some true
  x2 : PySem.W.exmOne K (.ref C11) (.ref C11) = some true
  x3 : PySem.W.exmOne K (.ref C16) (.ref G) = some true
  k1 : PySem.W.kitOne K (.ref C14) (.ref C14) = some true
  k2 : PySem.W.kitOne K (.ref C16) (.type "ValueError") = some true
  k3 : PySem.W.kitOne K (.ref C16) (.ref C16) = some true
def spCaught (CW : Addr) (NW : Str) : Sp := fun vs H Q _ => ∃ (v : V) (as : List Addr) (d : Nat) (t : Str), vs = [v] ∧ Sh H CW NW as d v t ∧ d ≤ 10 ∧ t.length ≤ 10000 ∧ (∀ b ∈ as, H b ≠ none) ∧ ∀ H', Same H H' → Q (.bl true) H'
theorem GR.mark {k : Nat} {A : Around} (r : GR k A) (v : Value) : GR k (A.mark (some v)) := ⟨by first | exact r.gd | (cases A; exact r.gd), by first | exact r.dp | (cases A; exact r.dp), by first | exact r.un | (cases A; exact r.un)⟩
theorem mk_same {H : Hp} {a C dx : Addr} {fs : List (Str × V)} (n1 : H a = none) (n2 : upd H a (exo a C none) dx = none) (ne : dx ≠ a) (o : HO) : Same H (upd (del (upd (upd (upd H a (exo a C none)) dx o) a (exo a C (some dx))) a) dx (.xd fs)) := fun b u e => by
  rw [upd_ne ne] at n2
  rw [upd_ne (ne_of_none e n2), del_ne (ne_of_none e n1), upd_ne (ne_of_none e n1), upd_ne (ne_of_none e n2), upd_ne (ne_of_none e n1)]
  exact e
def ts1 (K : PySem.W.Frag) (CW : Addr) (NW : Str) (C : Addr) : Addr → Value → Option Addr → TS := fun a cls d => tDrop (tBM K "list" rAppend (tVar 1) (tCons (tAndV (tCB (rIsS K cls a d) (tCons (tVar 2) (tCons (tC (.ref C)) tNil))) (tCall (spAlike CW NW K) [] E0 (tCons (tXf a cls d C "last" (tVar 2)) (tCons (tVar 0) tNil)))) tNil))
def ts2 (K : PySem.W.Frag) (CW : Addr) (NW : Str) (C : Addr) : Addr → Value → Option Addr → TS := fun a cls d => tDrop (tBM K "list" rAppend (tVar 1) (tCons (tCall (spAlike CW NW K) [] E0 (tCons (tLst (tCons (tXf a cls d C "index" (tVar 2)) (tCons (tXf a cls d C "paper" (tVar 2)) tNil))) (tCons (tLst (tCons (tVar 0) (tCons (tC (.int 7)) tNil))) tNil))) tNil))
def ts3 (K : PySem.W.Frag) (C : Addr) : Addr → Value → Option Addr → TS := fun a cls d => tDrop (tBM K "list" rAppend (tVar 1) (tCons (tAndV (tCB (rIsS K cls a d) (tCons (tVar 2) (tCons (tC (.ty "ValueError")) tNil))) (tCB (rIsS K cls a d) (tCons (tVar 2) (tCons (tC (.ref C)) tNil)))) tNil))
theorem grow' {H G : Hp} {l : Addr} {o : HO} (s : Same H G) (l0 : H l = none) : Same H (upd G l o) := fun b u e => by
  rw [upd_ne (ne_of_none e l0)]
  exact s b u e
theorem mk_same2 {H : Hp} {a C dx : Addr} {fs : List (Str × V)} (n1 : H a = none) (n2 : upd H a (exo a C none) dx = none) (ne : dx ≠ a) (o o2 : HO) : Same H (upd (del (upd (upd (upd (upd H a (exo a C none)) dx o) a (exo a C (some dx))) dx o2) a) dx (.xd fs)) := fun b u e => by
  rw [upd_ne ne] at n2
  rw [upd_ne (ne_of_none e n2), del_ne (ne_of_none e n1), upd_ne (ne_of_none e n2), upd_ne (ne_of_none e n1), upd_ne (ne_of_none e n2), upd_ne (ne_of_none e n1)]
  exact e
theorem sh_list {CW : Addr} {NW : Str} {H H' : Hp} {as : List Addr} {d : Nat} {vs : List V} {ts : List Str} {p : Addr} (hA : ShA H CW NW as d vs ts) (tr : ∀ b ∈ as, H b ≠ none) (hp : H p = none) (s : Same H H') (e : H' p = some (.lst vs)) : Sh H' CW NW (p :: as) (d + 1) (.ref p) (listText ts) :=
  .lst e (List.mem_cons_self ..) (fun b z => List.mem_cons_of_mem _ z) (fun z => tr p z hp) (hA.same s tr)
theorem ok_caught {CW : Addr} {NW : Str} {f G C14 C11 C16 fA : Addr} {fd fdA : FuncData} (F : Fun K "_law_are_caught" "_law_are_caught" sCaught f fd) (T : TxtB mg) (Z : CaughtT P w K mg base G C14 C11 C16) (GA : FnG false P w K mg base CX0 1 fA fdA ["found", "due"] (spAlike CW NW K)) (mA : mg "_law_alike" = some (.ref fA)) (kA : PySem.W.keepIn K (.ref fA) = true) (bA : Binds K fdA ["found", "due"] []) :
    FnG true P w K mg base CX0 3 f fd ["value"] (spCaught CW NW) := by
  obtain ⟨gG, ⟨fu, du, Iu, Ru⟩, ⟨fh, dh, Ih, Rh⟩, In, x1, x2, x3, k1, k2, k3⟩ := Z
  refine fnG_of F scCaught (fun vs H Q E h => ?_) (fun cdv A outer s H vs Q E hr hc h => ?_)
  · obtain ⟨v, as, d, t, rfl, _⟩ := h
    rfl
  · obtain ⟨v, as, d, t, rfl, hS, hd, ht, hA, k⟩ := h
    have hR : Room 2 (A.deeper (envOfC "_law_are_caught" (defScope sCaught) s.heap.objs.size f cdv)) := hr.room (hc rfl)
    have u64 : (A.deeper (envOfC "_law_are_caught" (defScope sCaught) s.heap.objs.size f cdv)).units + 64 < cLine := by have := hr.un; omega
    have gS : ∀ a : Addr, GR 1 ((A.deeper (envOfC "_law_are_caught" (defScope sCaught) s.heap.objs.size f cdv)).mark (some (.ref a))) := fun a => (hr.low (by decide)).mark _
    refine ⟨_, pss_cons (ps_set (i := 1) scCaught.nd rfl (Or.inl rfl) (pe_lst pa_nil))
      (pss_cons (ps_try_as (i := 2) (ts := ts1 K CW NW C14) (Wout := fun _ _ _ _ => False) rfl rfl scCaught.nd rfl rfl ⟨rfl, by decide, .inl gG⟩ takes0
          (fun W pn xe tk _ => pss_one (ps_raise rfl tk (pmk_oex Iu.o Iu.iC Iu.tI Ru hR Iu.b .nil pass0 (by rfl) Iu.m (pa_cons (pv 0) pa_nil))))
          (fun a oe cls d pn hz hf => pss_one (ps_expr (by exact (pe_bm PySem.F.plainAttrs_list PySem.F.slot_list_append PySem.F.type_list_append mt_append (pv 1) (pa_cons
            (pe_and (pe_callB (call_isS (X := (cxG true CX0 P w K mg base ["value", "caught", "error"] "_law_are_caught" (defScope sCaught) f cdv A outer s H E)) (a := a) (oe := oe) (pn := pn) hz hf) (by rfl) T.isin (by decide +kernel) (pa_cons (pv 2) (pa_cons (pe_glob (v := .ref C14) (by rfl) Iu.m rfl) pa_nil)))
              (pe_one (pe_callG (X := Cx.suite (cxG true CX0 P w K mg base ["value", "caught", "error"] "_law_are_caught" (defScope sCaught) f cdv A outer s H E) a ((a, oe) :: pn)) GA (gS a) (by intro z; cases z) (by rfl) mA kA bA (pa_cons (pe_xf (X := (cxG true CX0 P w K mg base ["value", "caught", "error"] "_law_are_caught" (defScope sCaught) f cdv A outer s H E)) (a := a) (oe := oe) (pn := pn) Iu.xf Iu.nf hz hf (pv 2)) (pa_cons (pv 0) pa_nil))))) pa_nil))))))
      (pss_cons (ps_try_as (i := 2) (ts := ts2 K CW NW C11) (Wout := fun _ _ _ _ => False) rfl rfl scCaught.nd rfl rfl ⟨rfl, by decide, .inl Ih.m⟩ takes0
          (fun W pn xe tk _ => pss_one (ps_raise rfl tk (pmk_oex Ih.o Ih.iC Ih.tI Rh hR Ih.b .nil pass0 (by rfl) Ih.m (pa_cons (pv 0) (pa_cons pe_int pa_nil)))))
          (fun a oe cls d pn hz hf => pss_one (ps_expr (by exact (pe_bm PySem.F.plainAttrs_list PySem.F.slot_list_append PySem.F.type_list_append mt_append (pv 1) (pa_cons
            (pe_callG (X := Cx.suite (cxG true CX0 P w K mg base ["value", "caught", "error"] "_law_are_caught" (defScope sCaught) f cdv A outer s H E) a ((a, oe) :: pn)) GA (gS a) (by intro z; cases z) (by rfl) mA kA bA (pa_cons (pe_lst (pa_cons (pe_xf (X := (cxG true CX0 P w K mg base ["value", "caught", "error"] "_law_are_caught" (defScope sCaught) f cdv A outer s H E)) (a := a) (oe := oe) (pn := pn) Ih.xf Ih.nf hz hf (pv 2)) (pa_cons (pe_xf (X := (cxG true CX0 P w K mg base ["value", "caught", "error"] "_law_are_caught" (defScope sCaught) f cdv A outer s H E)) (a := a) (oe := oe) (pn := pn) Ih.xf Ih.np hz hf (pv 2)) pa_nil))) (pa_cons (pe_lst (pa_cons (pv 0) (pa_cons pe_int pa_nil))) pa_nil))) pa_nil))))))
      (pss_cons (ps_try_as (i := 2) (ts := ts3 K C16) (Wout := fun _ _ _ _ => False) rfl rfl scCaught.nd rfl rfl ⟨rfl, by decide, .inl gG⟩ takes0
          (fun W pn xe tk _ => pss_one (ps_raise rfl tk (pmk_none In.q In.m In.kC (raises_own In.ex.hs In.ty) (by rfl))))
          (fun a oe cls d pn hz hf => pss_one (ps_expr (by exact (pe_bm PySem.F.plainAttrs_list PySem.F.slot_list_append PySem.F.type_list_append mt_append (pv 1) (pa_cons
            (pe_and (pe_callB (call_isS (X := (cxG true CX0 P w K mg base ["value", "caught", "error"] "_law_are_caught" (defScope sCaught) f cdv A outer s H E)) (a := a) (oe := oe) (pn := pn) hz hf) (by rfl) T.isin (by decide +kernel) (pa_cons (pv 2) (pa_cons (pe_bltn (v := .ty "ValueError") (by rfl) T.verr (by decide +kernel) rfl) pa_nil)))
              (pe_one (pe_callB (call_isS (X := (cxG true CX0 P w K mg base ["value", "caught", "error"] "_law_are_caught" (defScope sCaught) f cdv A outer s H E)) (a := a) (oe := oe) (pn := pn) hz hf) (by rfl) T.isin (by decide +kernel) (pa_cons (pv 2) (pa_cons (pe_glob (v := .ref C16) (by rfl) In.m rfl) pa_nil))))) pa_nil))))))
      (pss_one (ps_ret (pe_cmpR (op_eqD u64) (pv 1) (pe_lst (pa_cons pe_bl (pa_cons pe_bl (pa_cons pe_bl pa_nil)))) (nomark _))))))), ?_⟩
    refine ⟨Nat.zero_le _, fun l l0 => ?_⟩
    have S1 : Same H (upd H l (.lst [])) := same_upd l0
    have g1 : upd H l (.lst []) l = some (.lst []) := upd_same
    generalize upd H l (.lst []) = H1 at S1 g1 ⊢
    -- raise Untold(value)
    refine ⟨_, rfl, by show 1 ≤ 1000; decide, fun a na => ⟨a, v, rfl, upd_same, Iu.o, Iu.nf, fun dx nd ne => ⟨rfl, dx, [("last", v)], upd_same, by rw [upd_ne ne, upd_same], by rw [upd_ne ne] at nd; exact nd, ?_⟩⟩⟩
    have S2 := KaG.Same.tr S1 (mk_same (fs := [("last", v)]) na nd ne (exd dx [("last", v)]))
    have g2 := (mk_same (fs := [("last", v)]) na nd ne (exd dx [("last", v)])) _ _ g1
    have x2' : upd (del (upd (upd (upd H1 a (exo a C14 none)) dx (exd dx [("last", v)])) a (exo a C14 (some dx))) a) dx (.xd [("last", v)]) dx = some (.xd [("last", v)]) := upd_same
    generalize upd (del (upd (upd (upd H1 a (exo a C14 none)) dx (exd dx [("last", v)])) a (exo a C14 (some dx))) a) dx (.xd [("last", v)]) = H2 at S2 g2 x2' ⊢
    refine ⟨true, x1, fun _ a' na' => ?_, fun q => nomatch q⟩
    have hS2 := hS.same S2 hA
    refine ⟨_, rfl, .inl ⟨rfl, _, SqL.of g2⟩, _, rfl, C14, .ref C14, .ref C14, true, rfl, Iu.ex, rfl, .own _, fun b z => by cases z; exact ⟨_, x2'⟩, k1, true, rfl, ?_⟩
    refine iteT ⟨_, rfl, rfl, rfl, dx, _, v, rfl, x2', by simp [List.lookup], _, rfl, v, v, as, as, d, d, t, rfl, .inr ⟨rfl, as, d, t, hS2⟩, hS2, hS2, by omega, by omega, Nat.le_of_lt (Nat.lt_of_le_of_lt ht (by rw [sizeLine_eq]; decide)), ?_⟩
    refine ⟨l, _, .bl true, rfl, rfl, g2, by rw [sizeLine_eq]; decide, ?_⟩
    have S3 : Same H (upd H2 l (.lst ([] ++ [.bl true]))) := grow' S2 l0
    have g3 : upd H2 l (.lst ([] ++ [.bl true])) l = some (.lst [.bl true]) := upd_same
    generalize upd H2 l (.lst ([] ++ [.bl true])) = H3 at S3 g3 ⊢
    clear S2 g2 x2' hS2 na' na nd
    -- raise NotHeld(value, 7)
    refine ⟨_, rfl, by show 2 ≤ 1000; decide, fun a na => ⟨a, v, .int 7, rfl, upd_same, Ih.o, Ih.nf, Ih.np, fun dx nd ne => ⟨rfl, dx, [("paper", .int 7), ("index", v)], by rw [upd_ne ne.symm, upd_same], upd_same, by rw [upd_ne ne] at nd; exact nd, ?_⟩⟩⟩
    have S4 := KaG.Same.tr S3 (mk_same2 (fs := [("paper", .int 7), ("index", v)]) na nd ne (exd dx [("index", v)]) (exd dx [("paper", .int 7), ("index", v)]))
    have g4 := (mk_same2 (fs := [("paper", .int 7), ("index", v)]) na nd ne (exd dx [("index", v)]) (exd dx [("paper", .int 7), ("index", v)])) _ _ g3
    have x4' : upd (del (upd (upd (upd (upd H3 a (exo a C11 none)) dx (exd dx [("index", v)])) a (exo a C11 (some dx))) dx (exd dx [("paper", .int 7), ("index", v)])) a) dx (.xd [("paper", .int 7), ("index", v)]) dx = some (.xd [("paper", .int 7), ("index", v)]) := upd_same
    generalize upd (del (upd (upd (upd (upd H3 a (exo a C11 none)) dx (exd dx [("index", v)])) a (exo a C11 (some dx))) dx (exd dx [("paper", .int 7), ("index", v)])) a) dx (.xd [("paper", .int 7), ("index", v)]) = H4 at S4 g4 x4' ⊢
    refine ⟨true, x2, fun _ a' na' => ?_, fun q => nomatch q⟩
    have hA4 : ∀ b ∈ as, H4 b ≠ none := fun b z w => by
      cases q : H b with
      | none => exact hA b z q
      | some u => rw [S4 b u q] at w; cases w
    have hL4 : ShA H4 CW NW as d [v, .int 7] [t, ((toString (7 : Int) : String) : Str)] := .cons (hS.same S4 hA) (.cons (.int 7 (by decide)) .nil)
    have hlen : (listText [t, ((toString (7 : Int) : String) : Str)]).length ≤ sizeLine := by
      refine Nat.le_trans (listText_le _) ?_
      have e7 : ((toString (7 : Int) : String) : Str).length ≤ 10 := by decide +kernel
      rw [piled_cons, piled_cons, piled_nil, sizeLine_eq]
      omega
    refine ⟨_, rfl, .inl ⟨rfl, _, SqL.of g4⟩, _, rfl, rfl, rfl, dx, _, v, rfl, x4', rfl, _, rfl, rfl, rfl, dx, _, .int 7, rfl, x4', rfl, by show 2 ≤ sizeLine; decide, fun p1 np1 => ?_⟩
    refine ⟨_, rfl, by show 2 ≤ sizeLine; decide, fun p2 np2 => ?_⟩
    have s41 : Same H4 (upd H4 p1 (.lst [v, .int 7])) := same_upd np1
    have s42 : Same H4 (upd (upd H4 p1 (.lst [v, .int 7])) p2 (.lst [v, .int 7])) := KaG.Same.tr s41 (same_upd np2)
    have n12 : p1 ≠ p2 := fun z => by rw [← z, upd_same] at np2; cases np2
    have ep1 : upd (upd H4 p1 (.lst [v, .int 7])) p2 (.lst [v, .int 7]) p1 = some (.lst [v, .int 7]) := by rw [upd_ne n12, upd_same]
    have ep2 : upd (upd H4 p1 (.lst [v, .int 7])) p2 (.lst [v, .int 7]) p2 = some (.lst [v, .int 7]) := upd_same
    have np2' : H4 p2 = none := by rw [upd_ne n12.symm] at np2; exact np2
    have S5 := KaG.Same.tr S4 s42
    have g5 := s42 _ _ g4
    generalize upd (upd H4 p1 (.lst [v, .int 7])) p2 (.lst [v, .int 7]) = H5 at s42 ep1 ep2 S5 g5 ⊢
    refine ⟨.ref p1, .ref p2, p1 :: as, p2 :: as, d + 1, d + 1, _, rfl, .inl ⟨p1, p2, _, rfl, rfl, ep1, ep2, shA_flat hL4⟩, sh_list hL4 hA4 np1 s42 ep1, sh_list hL4 hA4 np2' s42 ep2, by omega, by omega, hlen, ?_⟩
    refine ⟨l, _, .bl true, rfl, rfl, g5, by rw [sizeLine_eq]; show 1 < _; decide, ?_⟩
    have S6 : Same H (upd H5 l (.lst ([.bl true] ++ [.bl true]))) := grow' S5 l0
    have g6 : upd H5 l (.lst ([.bl true] ++ [.bl true])) l = some (.lst [.bl true, .bl true]) := upd_same
    generalize upd H5 l (.lst ([.bl true] ++ [.bl true])) = H6 at S6 g6 ⊢
    clear S4 g4 x4' S5 g5 ep1 ep2 s42 s41
    -- raise NoCommand()
    refine ⟨true, x3, fun _ a3 na3 => ?_, fun q => nomatch q⟩
    refine ⟨_, rfl, .inl ⟨rfl, _, SqL.of g6⟩, _, rfl, C16, .ty "ValueError", .type "ValueError", true, rfl, In.ex, rfl, .ty _, (fun b z => nomatch z), k2, true, rfl, ?_⟩
    refine iteT ⟨_, rfl, C16, .ref C16, .ref C16, true, rfl, In.ex, rfl, .own _, (fun b z => nomatch z), k3, ?_⟩
    refine ⟨l, _, .bl true, rfl, rfl, g6, by rw [sizeLine_eq]; show 2 < _; decide, ?_⟩
    have S7 : Same H (upd H6 l (.lst ([.bl true, .bl true] ++ [.bl true]))) := grow' S6 l0
    have g7 : upd H6 l (.lst ([.bl true, .bl true] ++ [.bl true])) l = some (.lst [.bl true, .bl true, .bl true]) := upd_same
    generalize upd H6 l (.lst ([.bl true, .bl true] ++ [.bl true])) = H7 at S7 g7 ⊢
    refine ⟨_, rfl, by show 3 ≤ sizeLine; decide, fun p np => ?_⟩
    have s8 : Same H7 (upd H7 p (.lst [.bl true, .bl true, .bl true])) := same_upd np
    have dall : ∀ G : Hp, DpAll K G [.bl true, .bl true, .bl true] [.bool true, .bool true, .bool true] := fun G => .cons (.bl true) (.cons (.bl true) (.cons (.bl true) .nil))
    refine ⟨.list [.bool true, .bool true, .bool true], .list [.bool true, .bool true, .bool true], .lst (SqL.of (s8 _ _ g7)) (dall _), .lst (SqL.of upd_same) (dall _), by decide +kernel, by decide +kernel, ?_⟩
    have e : PyData.eqv (.list [.bool true, .bool true, .bool true]) (.list [.bool true, .bool true, .bool true]) = true := by decide +kernel
    rw [e]
    exact k _ (KaG.Same.tr S7 s8)
end
end KaG


set_option maxRecDepth 100000
set_option maxHeartbeats 1000000
namespace KaG
open PySem PySem.Spec PyProof.Rows L2
section
variable {X : Cx} {CW : Addr} {NW : Str} {bg : Addr} {e : Expr} {es : List Expr} {p pos p2 : Pos}
theorem pe_godd {fO : Addr} {fdO : FuncData} (C : Ct X.prog X.w X.K X.mg X.base "_law_odd" 3 ["bag"] (spOdd CW NW) fO fdO) (hr : Room 3 X.A) (hg : Gl X "_law_odd") (he : PE X e (tVar 1)) (hs : starEach (e :: []) X.env = (false, eval e X.env) :: starEach [] X.env := by rfl) :
    PE X (.Call (.Name "_law_odd" p) [e] [] pos) (tG CW NW 1 bg 3 200) := by
  refine pe_imp (pe_call C.G hr hg C.m C.kp C.b .nil pass0 (pa_cons he pa_nil hs) (by decide) hs (by rfl)) fun σ H Q z => ?_
  obtain ⟨⟨b, s1⟩, k⟩ := z
  exact ⟨_, s1, bg, rfl, b, fun v H' as t E s l n => k v H' as t E s l n⟩
theorem pe_gwrong {fI : Addr} {fd : FuncData} (I : Ini X.prog X.w X.K X.mg X.base "Wrong" "place" CW fI fd) (hN : NW.length ≤ 20) (hr : Room 2 X.A) (hg : Gl X "Wrong") {j k : _} (hs : starEach [Expr.Constant (.int 0) j k] X.env = (false, eval (Expr.Constant (.int 0) j k) X.env) :: starEach [] X.env := by rfl) :
    PE X (.Call (.Name "Wrong" p) [.Constant (.int 0) j k] [] pos) (tG CW NW 1 bg 2 30) := by
  refine pe_imp (pe_ini I hr hg pe_int mo_c (by decide) hs) fun σ H Q z => ?_
  obtain ⟨⟨b, s1⟩, q⟩ := z
  intro a dx t1 H2 M
  refine q (.ref a) H2 [a, t1, dx] _ (Ext.of_same b M.same) (.exc (as := []) M.ea M.et (List.mem_cons_self ..) (List.mem_cons_of_mem _ (List.mem_cons_self ..)) (fun b z => by cases z; exact ⟨List.mem_cons_of_mem _ (List.mem_cons_of_mem _ (List.mem_cons_self ..)), _, M.ed⟩) (fun _ z => nomatch z) (.int 0 (by decide))) ?_ (fun x hx => ?_)
  · rw [strLen_append, strLen_append, strLen_append]
    have e1 : (Str.ofString "(").length = 1 := by decide +kernel
    have e2 : (Str.ofString ")").length = 1 := by decide +kernel
    have e3 : ((toString (0 : Int) : String) : Str).length = 1 := by decide +kernel
    omega
  · rcases List.mem_cons.mp hx with h | h
    · rw [h]; exact ⟨M.na, by rw [M.ea]; exact fun z => nomatch z⟩
    · rcases List.mem_cons.mp h with h | h
      · rw [h]; exact ⟨M.nt, by rw [M.et]; exact fun z => nomatch z⟩
      · rw [List.mem_singleton.mp h]; exact ⟨M.nd, by rw [M.ed]; exact fun z => nomatch z⟩
theorem pe_gpick {fS : Addr} {fdS : FuncData} {m d n : Nat} (C : Ct X.prog X.w X.K X.mg X.base "_law_some" 2 ["bag", "things"] spSome fS fdS) (hr : Room 2 X.A) (hg : Gl X "_law_some") (hm : 0 < m ∧ m ≤ 900) (he : PE X e (tVar 1)) (hl : PA X es (tGs CW NW 1 bg d n m))
    (hs : starEach [e, .List es p2] X.env = (false, eval e X.env) :: starEach [.List es p2] X.env := by rfl) (hs2 : starEach [.List es p2] X.env = (false, eval (.List es p2) X.env) :: starEach [] X.env := by rfl) (hpl : (backTo pos (starEach [.List es p2] X.env)).any (·.1) = false := by rfl) :
    PE X (.Call (.Name "_law_some" p) [e, .List es p2] [] pos) (tG CW NW 1 bg d n) := by
  refine pe_imp (pe_call C.G hr hg C.m C.kp C.b .nil pass0 (pa_cons he (pa_cons (pe_lst hl) pa_nil hs2) hs) (by decide) hs hpl) fun σ H Q z => ?_
  obtain ⟨⟨b, s1⟩, k⟩ := z
  refine ⟨_, s1, ⟨b, s1⟩, fun vs H1 as ts E s l hm' n1 => ⟨Nat.le_of_lt (small1000 (by omega)), fun l0 nl => ?_⟩⟩
  have E1 : Ext bg H (upd H1 l0 (.lst vs)) := E.new nl
  refine ⟨bg, l0, vs, rfl, E1.bag, fun z => E.bag.there (z ▸ nl), upd_same, by omega, by omega, fun i v H2 hi E2 => ?_⟩
  obtain ⟨t, mt, st⟩ := s.get hi
  have Ea : Ext bg H1 H2 := ((Ext.of_same E.bag Same.refl').new nl).trans E2
  exact k v H2 as t (E1.trans E2) (st.ext (n1.out b.there) Ea fun x hx => (n1 x hx).2) (l t mt) (n1.ext Ea)
/-- isinstance(x, c), x any of the values -/
theorem call_isAny : CallR X (.builtin "isinstance") (fun xs H Q => rIsi X.K xs H Q ∨ rIsW X.K xs H Q) := by
  intro pins s σ H xs us Q I r h
  rcases h with h | h
  · exact call_isi pins s σ H xs us Q I r h
  · exact call_isW pins s σ H xs us Q I r h
/-- is a good value a list? -/
theorem isl {H : Hp} {as : List Addr} {d : Nat} {v : V} {t : Str} (h : Sh H CW NW as d v t) (EX : L2.ExcC X.K CW) (hk : PySem.W.kitOne X.K (.ref CW) (.type "list") = some false) :
    ∃ b : Bool, (∀ Q : VK, Q (.bl b) H → (rIsi X.K [v, .ty "list"] H Q ∨ rIsW X.K [v, .ty "list"] H Q)) ∧ (b = true → ∃ a xs ts as0 d0, v = .ref a ∧ d = d0 + 1 ∧ H a = some (.lst xs) ∧ a ∈ as ∧ (∀ x ∈ as0, x ∈ as) ∧ a ∉ as0 ∧ ShA H CW NW as0 d0 xs ts ∧ t = listText ts) := by
  cases h with
  | non => exact ⟨false, fun Q q => .inl ⟨_, _, _, _, false, rfl, .ty _, .base .non, kit_ty (by decide +kernel), q⟩, fun z => nomatch z⟩
  | bl b => exact ⟨false, fun Q q => .inl ⟨_, _, _, _, false, rfl, .ty _, .base (.bl b), kit_ty (by decide +kernel), q⟩, fun z => nomatch z⟩
  | int i hi => exact ⟨false, fun Q q => .inl ⟨_, _, _, _, false, rfl, .ty _, .base (.int i), kit_ty (by decide +kernel), q⟩, fun z => nomatch z⟩
  | str x => exact ⟨false, fun Q q => .inl ⟨_, _, _, _, false, rfl, .ty _, .base (.str x), kit_ty (by decide +kernel), q⟩, fun z => nomatch z⟩
  | lst e ha hs hn hi => exact ⟨true, fun Q q => .inl ⟨_, _, _, _, true, rfl, .ty _, .base (.lst e), kit_ty (by decide +kernel), q⟩, fun _ => ⟨_, _, _, _, _, rfl, rfl, e, ha, hs, hn, hi, rfl⟩⟩
  | tup e ha hs hn hi => exact ⟨false, fun Q q => .inl ⟨_, _, _, _, false, rfl, .ty _, .base (.tup e), kit_ty (by decide +kernel), q⟩, fun z => nomatch z⟩
  | dct e ha hs hn hi => exact ⟨false, fun Q q => .inl ⟨_, _, _, _, false, rfl, .ty _, .base (.dK e), kit_ty (by decide +kernel), q⟩, fun z => nomatch z⟩
  | exc e et ha ht hd hs hi => exact ⟨false, fun Q q => .inr ⟨_, CW, _, _, _, _, false, rfl, .ty _, EX, e, fun b z => (hd b z).2, hk, q⟩, fun z => nomatch z⟩
end
end KaG


set_option maxRecDepth 100000
set_option maxHeartbeats 2000000
namespace KaG
open PySem PySem.Spec PyProof.Rows L2
def dsR (n : Nat) : List PyData := (List.range n).map fun i : Nat => PyData.list [.int (i : Int)]
theorem dp_rows {K : PySem.W.Frag} {H : Hp} : ∀ {ps : List Addr} {o : Nat}, (∀ (i : Nat) (p : Addr), ps[i]? = some p → H p = some (.lst [.int ((o + i : Nat) : Int)])) → DpAll K H (ps.map V.ref) ((List.range ps.length).map fun i : Nat => PyData.list [.int ((o + i : Nat) : Int)])
  | [], o, _ => .nil
  | p :: r, o, h => by
    rw [List.length_cons, List.range_succ_eq_map, List.map_cons, List.map_cons, List.map_map]
    refine .cons (.lst (SqL.of (h 0 p rfl)) (.cons (.int _) .nil)) ?_
    have q := dp_rows (K := K) (H := H) (ps := r) (o := o + 1) fun i p hi => by
      have := h (i + 1) p hi
      rwa [show o + (i + 1) = o + 1 + i by omega] at this
    have e : (fun i => PyData.list [.int ((o + i : Nat) : Int)]) ∘ Nat.succ = fun i => PyData.list [.int ((o + 1 + i : Nat) : Int)] := by
      funext i
      show PyData.list [.int ((o + (i + 1) : Nat) : Int)] = _
      rw [show o + (i + 1) = o + 1 + i by omega]
    rw [e]
    exact q
theorem dp_22 {K : PySem.W.Frag} {H : Hp} {ps : List Addr} {D : Addr} (hD : H D = some (.lst (ps.map V.ref))) (hl : ps.length = 22) (h : ∀ (i : Nat) (p : Addr), ps[i]? = some p → H p = some (.lst [.int (i : Int)])) : Dp K H (.ref D) (.list (dsR 22)) := by
  have q := dp_rows (K := K) (o := 0) (fun i p hi => by rw [Nat.zero_add]; exact h i p hi)
  rw [hl] at q
  have e : (fun i => PyData.list [.int ((0 + i : Nat) : Int)]) = fun i => PyData.list [.int ((i : Nat) : Int)] := by
    funext i
    rw [Nat.zero_add]
  rw [e] at q
  exact .lst (SqL.of hD) q
theorem ds_shaped : SeqAt.shaped (.list (dsR 22)) = true := by decide +kernel
theorem ds_eq : (!PyData.eqv (.list (dsR 22)) (.list (dsR 22))) = false := by decide +kernel
/-- the two values of a turn -/
structure VO (CW : Addr) (NW : Str) (H : Hp) (v o : V) (av ao : List Addr) (m : Nat) : Prop where
  v : ∃ t, Sh H CW NW av 5 v t ∧ t.length ≤ m
  o : ∃ t, Sh H CW NW ao 5 o t ∧ t.length ≤ m
  tv : ∀ b ∈ av, H b ≠ none
  to : ∀ b ∈ ao, H b ≠ none
  dj : ∀ b ∈ av, b ∉ ao
section
variable {CW : Addr} {NW : Str} {H H' : Hp} {v o : V} {av ao : List Addr} {m : Nat}
theorem trk_same {as : List Addr} (h : ∀ b ∈ as, H b ≠ none) (s : Same H H') : ∀ b ∈ as, H' b ≠ none := fun b m z => by
  cases e : H b with
  | none => exact h b m e
  | some u => rw [s b u e] at z; cases z
theorem VO.same (h : VO CW NW H v o av ao m) (s : Same H H') : VO CW NW H' v o av ao m := by
  obtain ⟨⟨t, h1, h2⟩, ⟨u, h3, h4⟩, h5, h6, h7⟩ := h
  exact ⟨⟨t, h1.same s h5, h2⟩, ⟨u, h3.same s h6, h4⟩, trk_same h5 s, trk_same h6 s, h7⟩
theorem VO.two (h : VO CW NW H v o av ao m) : ∃ tv to, Sh H CW NW (av ++ ao) 5 v tv ∧ tv.length ≤ m ∧ Sh H CW NW (av ++ ao) 5 o to ∧ to.length ≤ m ∧ ∀ b ∈ av ++ ao, H b ≠ none := by
  obtain ⟨⟨t, h1, h2⟩, ⟨u, h3, h4⟩, h5, h6, h7⟩ := h
  refine ⟨t, u, h1.wide (fun _ z => List.mem_append_left _ z) (Nat.le_refl _), h2, h3.wide (fun _ z => List.mem_append_right _ z) (Nat.le_refl _), h4, fun b z => ?_⟩
  rcases List.mem_append.mp z with q | q
  · exact h5 b q
  · exact h6 b q
theorem text_le {ts : List Str} {n : Nat} (h : ∀ t ∈ ts, t.length ≤ n) (hl : ts.length ≤ 10) (hn : n ≤ 2000) : (listText ts).length ≤ sizeLine := by
  have h1 := listText_le ts
  have h2 := piled_le h
  have h3 : ts.length * (n + 2) ≤ 10 * 2002 := Nat.mul_le_mul hl (by omega)
  rw [sizeLine_eq]
  omega
/-- two lists of the same good things are alike -/
theorem alike_pair (K : PySem.W.Frag) {as : List Addr} {xs : List V} {ts : List Str} {p q : Addr} (hA : ShA H CW NW as 5 xs ts) (hp : H p = some (.lst xs)) (hq : H q = some (.lst xs)) (np : p ∉ as) (nq : q ∉ as) :
    ∃ (a1 b1 : List Addr) (d1 e1 : Nat), Alk CW NW K H (.ref p) (.ref q) ∧ Sh H CW NW a1 d1 (.ref p) (listText ts) ∧ Sh H CW NW b1 e1 (.ref q) (listText ts) ∧ d1 ≤ 20 ∧ e1 ≤ 20 :=
  ⟨p :: as, q :: as, 6, 6, .inl ⟨p, q, xs, rfl, rfl, hp, hq, shA_flat hA⟩, .lst hp (List.mem_cons_self ..) (fun b z => List.mem_cons_of_mem _ z) np hA, .lst hq (List.mem_cons_self ..) (fun b z => List.mem_cons_of_mem _ z) nq hA, by decide, by decide⟩
theorem hel_sh (h : VO CW NW H v o av ao m) (hm : m ≤ 2000) (i : Nat) : ∃ ts, ShA H CW NW (av ++ ao) 5 (hel v o i) ts ∧ (listText ts).length ≤ sizeLine := by
  obtain ⟨tv, to, h1, h2, h3, h4, _⟩ := h.two
  unfold hel
  by_cases c : i = 11
  · rw [if_pos c]
    refine ⟨[tv, to], .cons h1 (.cons h3 .nil), text_le (n := 2000) (fun t z => ?_) (by simp) (by decide)⟩
    simp only [List.mem_cons, List.mem_nil_iff, or_false] at z
    rcases z with z | z
    · rw [z]; omega
    · rw [z]; omega
  · rw [if_neg c]
    by_cases c2 : i < 16
    · rw [if_pos c2]
      refine ⟨[tv], .cons h1 .nil, text_le (n := 2000) (fun t z => ?_) (by simp) (by decide)⟩
      simp only [List.mem_cons, List.mem_nil_iff, or_false] at z
      rw [z]; omega
    · rw [if_neg c2]
      exact ⟨[], .nil, by rw [listText_nil]; decide⟩
/-- v.append('more') -/
theorem Sh.more {as as0 : List Addr} {d0 : Nat} {a : Addr} {xs : List V} {ts : List Str} (ha : a ∈ as) (hs : ∀ x ∈ as0, x ∈ as) (hn : a ∉ as0) (hi : ShA H CW NW as0 d0 xs ts) (hz : (listText ts).length ≤ m) :
    ∃ t, Sh (upd H a (.lst (xs ++ [.str "more"]))) CW NW as (d0 + 1) (.ref a) t ∧ t.length ≤ m + 100 := by
  refine ⟨listText (ts ++ [reprText "more"]), .lst upd_same ha hs hn ((hi.fr fun b z => upd_ne fun w => hn (by rw [← w]; exact z)).app (.cons (.str _) .nil)), ?_⟩
  have h1 := piled_le_listText ts
  have h2 := listText_le (ts ++ [reprText "more"])
  have h3 : (reprText "more").length ≤ 20 := by decide +kernel
  rw [piled_append, piled_cons, piled_nil] at h2
  omega
end

theorem ifF {c : Bool} {a b : Prop} (h : c = false) (q : b) : if c = true then a else b := by rw [if_neg (by rw [h]; decide)]; exact q
theorem ifT {c : Bool} {a b : Prop} (h : c = true) (q : a) : if c = true then a else b := by rw [if_pos h]; exact q
theorem two_piled : ∀ ts : List Str, 2 * ts.length ≤ piled ts
  | [] => by rw [piled_nil]; exact Nat.le_refl _
  | t :: r => by
    have := two_piled r
    rw [piled_cons, List.length_cons]
    omega
section
variable {CW : Addr} {NW : Str} {H H' : Hp} {v o : V} {av ao : List Addr} {m : Nat}
theorem VO.swap (h : VO CW NW H v o av ao m) : VO CW NW H o v ao av m := ⟨h.o, h.v, h.to, h.tv, fun b m1 m2 => h.dj b m2 m1⟩
/-- only what lies in as may be otherwise -/
structure Chg (as : List Addr) (H H' : Hp) : Prop where
  keep : ∀ b, b ∉ as → H' b = H b
  there : ∀ b, H b ≠ none → H' b ≠ none
theorem Chg.refl {as : List Addr} {H : Hp} : Chg as H H := ⟨fun _ _ => rfl, fun _ z => z⟩
theorem Chg.trans {as : List Addr} {H H1 H2 : Hp} (a : Chg as H H1) (b : Chg as H1 H2) : Chg as H H2 := ⟨fun x n => (b.keep x n).trans (a.keep x n), fun x n => b.there x (a.there x n)⟩
theorem VO.more {X : Cx} (h : VO CW NW H v o av ao m) (hm : m ≤ 2000) (EX : L2.ExcC X.K CW) (hk : PySem.W.kitOne X.K (.ref CW) (.type "list") = some false) :
    ∃ b : Bool, (∀ Q : VK, Q (.bl b) H → (rIsi X.K [v, .ty "list"] H Q ∨ rIsW X.K [v, .ty "list"] H Q)) ∧ (b = true → ∃ a xs, v = .ref a ∧ H a = some (.lst xs) ∧ xs.length < sizeLine ∧ a ∈ av ∧
      VO CW NW (upd H a (.lst (xs ++ [.str "more"]))) v o av ao (m + 100) ∧ Chg (av ++ ao) H (upd H a (.lst (xs ++ [.str "more"])))) := by
  obtain ⟨⟨t, h1, h2⟩, ⟨u, h3, h4⟩, h5, h6, h7⟩ := h
  obtain ⟨b, kb, kt⟩ := isl (X := X) h1 EX hk
  refine ⟨b, kb, fun z => ?_⟩
  obtain ⟨a, xs, ts, as0, d0, rfl, hd, ha, ma, ms, na, hi, rfl⟩ := kt z
  have e1 := piled_le_listText ts
  have e2 := two_piled ts
  have e3 := hi.len
  have th : ∀ b, H b ≠ none → upd H a (.lst (xs ++ [.str "more"])) b ≠ none := fun b z => by
    by_cases e : b = a
    · rw [e, upd_same]; exact fun y => nomatch y
    · rw [upd_ne e]; exact z
  obtain ⟨t', s1, s2⟩ := Sh.more (m := m) ma ms na hi h2
  refine ⟨a, xs, rfl, ha, by rw [sizeLine_eq]; omega, ma, ⟨⟨t', hd ▸ s1, s2⟩, ⟨u, h3.fr fun b z => upd_ne fun w => h7 a ma (w ▸ z), by omega⟩, fun b z => th b (h5 b z), fun b z => th b (h6 b z), h7⟩, ⟨fun b n => upd_ne fun w => n (List.mem_append_left _ (w ▸ ma)), th⟩⟩
theorem Bag.chg {bg b0 : Addr} {as : List Addr} (h : Bag H bg) (i : Inn H bg b0) (c : Chg as H H') (n1 : bg ∉ as) (n2 : b0 ∉ as) : Bag H' bg ∧ Inn H' bg b0 := by
  obtain ⟨p, q, r, e⟩ := i
  obtain ⟨c1, st, i, b, ns, e1, e2, e3⟩ := h
  rw [e] at e1
  cases e1
  exact ⟨⟨_, _, _, b0, ns, (c.keep _ n1).trans e, (c.keep _ n2).trans e2, e3⟩, ⟨_, _, _, (c.keep _ n1).trans e⟩⟩
end
section
variable {K : PySem.W.Frag} {N : Addr → Prop} {H H' : Hp} {Cs : List Addr} {v o : V} {l : Addr}
theorem RowsOk.ch {n : Nat} (R : RowsOk N H Cs v o l n) (s : NSame N H H') (e : H' l = H l) : RowsOk N H' Cs v o l n := by
  obtain ⟨rs, e1, e2, e3⟩ := R
  exact ⟨⟨rs, e.trans e1, e2, fun i r z => (e3 i r z).ns s⟩⟩
theorem RowsOk.sm {n : Nat} (R : RowsOk N H Cs v o l n) (s : Same H H') : RowsOk N H' Cs v o l n := by
  obtain ⟨rs, e1, e2, e3⟩ := R
  exact ⟨⟨rs, s _ _ e1, e2, fun i r z => (e3 i r z).ns (NSame.of s)⟩⟩
/-- rows[i][0].f -/
theorem xw_row {σ : L2.St} {Q : VK} {n : Nat} {f : Str} {z : V} {j : Int} (R : RowsOk N H Cs v o l n) (i : Nat) (hi : i < n) (h16 : i < 16) (hj : j = (i : Int)) (hf : (fnm i = f ∧ z = v) ∨ (i = 11 ∧ f = "paper" ∧ z = o))
    (XF : ∀ (i : Nat) (C : Addr), Cs[i]? = some C → i < 16 → XfC K C ∧ PySem.W.findIn K (.ref C) (fnm i) = some none) (NP : ∀ C, Cs[11]? = some C → PySem.W.findIn K (.ref C) "paper" = some none)
    (h5 : σ[5]? = some (some (.ref l))) (q : Q z H) : tXw K f (tOp (rIxT K) (tOp (rIxL K) (tVar 5) (tC (.int j))) (tC (.int 0))) σ H Q := by
  subst hj
  obtain ⟨rs, e1, e2, e3⟩ := R
  have hr : rs[i]? = some rs[i] := by simp [e2, hi]
  obtain ⟨e, h, d, n1, n2, n3, er, eh, ed, ek⟩ := e3 i _ hr
  obtain ⟨ne, C, t1, hC, hw⟩ := ek
  have ei : atI (rs.map V.ref) (i : Int) = some (.ref rs[i]) :=
    atI_nat (by rw [List.getElem?_map, hr]; rfl)
  refine ⟨_, h5, l, _, (i : Int), _, rfl, rfl, SqL.of e1, ei, _, _, 0, .ref e, rfl, rfl, SqT.of er, rfl, ?_⟩
  obtain ⟨xf, nf⟩ := XF i C hC h16
  rcases hw with ⟨_, dx, fs, nd, w1, w2, w3, w4⟩ | ⟨w1, _⟩
  · rcases hf with ⟨rfl, rfl⟩ | ⟨rfl, rfl, rfl⟩
    · exact ⟨e, C, t1, dx, fs, _, rfl, xf, nf, w1, w2, w3, q⟩
    · exact ⟨e, C, t1, dx, fs, _, rfl, xf, NP C hC, w1, w2, w4 rfl, q⟩
  · omega
end
end KaG


set_option maxRecDepth 100000
set_option maxHeartbeats 2000000
namespace KaG
open PySem PySem.Spec PyProof.Rows L2
section
variable {P : Program} {w : World} {K : PySem.W.Frag} {mg : Str → Option Value} {base : Heap}
theorem scLaw : FnScope ["script", "bag", "turn", "value", "other", "rows", "error", "held", "due", "again", "one", "two", "row", "k"] ["script"] (defScope sLaw) := ⟨rfl, rfl, rfl, by decide +kernel, rfl, by decide +kernel, by decide +kernel⟩
def spLaw (K : PySem.W.Frag) : Sp := fun vs H Q _ => ∃ (a : Addr) (ns : List Int), vs = [.ref a] ∧ SqL K H a (ns.map V.int) ∧ ns.length ≤ 63 ∧ ∀ H', Q (.bl true) H'
structure GnG (c : Bool) (P : Program) (w : World) (K : PySem.W.Frag) (mg : Str → Option Value) (base : Heap) (x : Str) (k : Nat) (ps : List Str) (sp : Sp) (f : Addr) (fd : FuncData) : Prop where
  G : FnG c P w K mg base CX0 k f fd ps sp
  m : mg x = some (.ref f)
  kp : PySem.W.keepIn K (.ref f) = true
  b : Binds K fd ps []
structure LawT (P : Program) (w : World) (K : PySem.W.Frag) (mg : Str → Option Value) (base : Heap) (Cs : List Addr) (CW : Addr) (NW : Str) (G : Addr) : Prop where
  T : TxtB mg
  bag : ∃ f d, Ct P w K mg base "_law_bag" 1 ["script"] (spBag K) f d
  pick : ∃ f d, Ct P w K mg base "_law_some" 2 ["bag", "things"] spSome f d
  odd : ∃ f d, Ct P w K mg base "_law_odd" 3 ["bag"] (spOdd CW NW) f d
  wf : ∃ f d, Ct P w K mg base "_law_with_fields" 3 ["value", "other"] (spWith Cs) f d
  cls : ∃ f d, Ct P w K mg base "_law_classes_of" 1 ["error"] (spCls Cs) f d
  alike : ∃ f d, GnG false P w K mg base "_law_alike" 1 ["found", "due"] (spAlike CW NW K) f d
  caught : ∃ f d, GnG true P w K mg base "_law_are_caught" 3 ["value"] (spCaught CW NW) f d
  wr : ∃ f d, Ini P w K mg base "Wrong" "place" CW f d
  tm : ∃ C f d, Ini P w K mg base "TooMany" "most" C f d
  len : NW.length ≤ 20
  gG : mg "GoneError" = some (.ref G)
  ex : ExAll K Cs
  exW : L2.ExcC K CW
  xf : ∀ (i : Nat) (C : Addr), Cs[i]? = some C → i < 16 → XfC K C ∧ PySem.W.findIn K (.ref C) (fnm i) = some none
  np : ∀ C, Cs[11]? = some C → PySem.W.findIn K (.ref C) "paper" = some none
  kG : ∀ (i : Nat) (C : Addr), Cs[i]? = some C → PySem.W.kitOne K (.ref C) (.ref G) = some true
  kV : ∀ (i : Nat) (C : Addr), Cs[i]? = some C → PySem.W.kitOne K (.ref C) (.type "ValueError") = some true
  kL : PySem.W.kitOne K (.ref CW) (.type "list") = some false
theorem ok_law {Cs : List Addr} {CW : Addr} {NW : Str} {G : Addr} {f : Addr} {fd : FuncData} (hlen : Cs.length = 22) (F : Fun K "law" "law" sLaw f fd) (Z : LawT P w K mg base Cs CW NW G) : FnG true P w K mg base CX0 6 f fd ["script"] (spLaw K) := by
  obtain ⟨T, ⟨fB, dB, CB⟩, ⟨fS, dS, CS⟩, ⟨fO, dO, CO⟩, ⟨fF, dF, CWF⟩, ⟨fC, dC, CC⟩, ⟨fA, dA, GA, mA, kA, bA⟩, ⟨fG, dG, GC, mC, kC, bC⟩, ⟨fw, dw, Iw⟩, ⟨Ct, ft, dt, It⟩, hNW, gG, EX, EW, XF, NP, KG, KV, KL⟩ := Z
  refine fnG_of F scLaw (fun vs H Q E h => ?_) (fun cdv A outer s H vs Q E hr hc h => ?_)
  · obtain ⟨a, ns, rfl, _⟩ := h
    rfl
  · obtain ⟨a, ns, rfl, hS, hn, k⟩ := h
    have hA : (A.deeper (envOfC "law" (defScope sLaw) s.heap.objs.size f cdv)).handled = none := hc rfl
    have hR3 : Room 3 (A.deeper (envOfC "law" (defScope sLaw) s.heap.objs.size f cdv)) := (hr.room hA).mono (by decide)
    have hR2 := hR3.mono (show 2 ≤ 3 by decide)
    have hR1 := hR3.mono (show 1 ≤ 3 by decide)
    have gr1 := hr.low (show 1 ≤ 5 by decide)
    have gr3 := hr.low (show 3 ≤ 5 by decide)
    have u64 : (A.deeper (envOfC "law" (defScope sLaw) s.heap.objs.size f cdv)).units + 64 < cLine := by have := hr.un; omega
    refine ⟨_, L2.PSs.nox ((pss_cons (ps_set (i := 1) scLaw.nd rfl (Or.inl rfl) (pe_call CB.G hR1 (by rfl) CB.m CB.kp CB.b .nil pass0 (pa_cons (pv 0) pa_nil)))
      (pss_cons (ps_for PassesOwn.never rfl (pi_range1 rfl T.range (pa_cons pe_int pa_nil)) (pg_name (i := 2) scLaw.nd rfl (Or.inl rfl))
          (pss_cons (ps_set (i := 3) scLaw.nd rfl (Or.inl rfl) (pe_ex fun bg => pe_gpick (CW := CW) (NW := NW) (bg := bg) (d := 5) (n := 1000) CS hR2 (by rfl) (by decide) (pv 1) (pa_g1 (pe_glstL (d := 0) (n := 30) (d' := 5) (n' := 1000) (pa_g1 (pe_gleaf pe_int (fun _ => .int 1 (by decide)) (by decide +kernel)) pa_g0)) (pa_g1 (pe_gw (pe_godd CO hR3 (by rfl) (pv 1))) (pa_g1 (pe_glstL (d := 3) (n := 200) (d' := 5) (n' := 1000) (pa_g1 (pe_godd CO hR3 (by rfl) (pv 1)) pa_g0)) (pa_g1 (pe_gw (pe_gd1 (d := 1) (n := 30) (pe_glstL (d := 0) (n := 20) (d' := 1) (n' := 30) pa_g0) (by decide +kernel))) (pa_g1 (pe_gtupL (d := 1) (n := 30) (d' := 5) (n' := 1000) (pa_g1 (pe_gleaf pe_int (fun _ => .int 0 (by decide)) (by decide +kernel)) (pa_g1 (pe_glstL (d := 0) (n := 20) (d' := 1) (n' := 30) (pa_g1 (pe_gleaf pe_int (fun _ => .int 2 (by decide)) (by decide +kernel)) pa_g0)) pa_g0))) (pa_g1 (pe_gw (pe_gwrong Iw hNW hR2 (by rfl))) pa_g0))))))))
          (pss_cons (ps_set (i := 4) scLaw.nd rfl (Or.inl rfl) (pe_ex fun bg => pe_gpick (CW := CW) (NW := NW) (bg := bg) (d := 5) (n := 1000) CS hR2 (by rfl) (by decide) (pv 1) (pa_g1 (pe_glstL (d := 0) (n := 30) (d' := 5) (n' := 1000) (pa_g1 (pe_gleaf pe_str (fun _ => .str _) (by decide +kernel)) pa_g0)) (pa_g1 (pe_gw (pe_godd CO hR3 (by rfl) (pv 1))) (pa_g1 (pe_glstL (d := 3) (n := 200) (d' := 5) (n' := 1000) (pa_g1 (pe_glstL (d := 0) (n := 20) (d' := 3) (n' := 200) pa_g0) (pa_g1 (pe_godd CO hR3 (by rfl) (pv 1)) pa_g0))) (pa_g1 (pe_gleaf pe_non (fun _ => .non) (by decide +kernel)) pa_g0))))))
          (pss_cons (ps_set (i := 5) scLaw.nd rfl (Or.inl rfl) (pe_call CWF.G hR3 (by rfl) CWF.m CWF.kp CWF.b .nil pass0 (pa_cons (pv 3) (pa_cons (pv 4) pa_nil))))
          (pss_cons (ps_if (PW.pt (pw_or (pt_cmpR (op_neD u64) (pe_lc (own := [("row", 12)]) (g := gName 12) (by rfl) scLaw.nd (pi_list (pv 5)) (blkOk_by (own := [("row", 12)]) (N := ["script", "bag", "turn", "value", "other", "rows", "error", "held", "due", "again", "one", "two", "row", "k"]) (sc := defScope sLaw) (by decide +kernel)) (fun _ _ _ _ _ => pg_name (i := 12) scLaw.nd rfl (Or.inl rfl)) (fun _ _ _ _ _ => pts_nil) (fun _ _ _ _ _ => pe_call CC.G hR1 (by rfl) CC.m CC.kp CC.b .nil pass0 (pa_cons (pe_ix (r := rIxT K) ix_tup (pv 12) pe_int (fun _ _ => rfl)) pa_nil))) (pe_lc (own := [("k", 13)]) (g := gName 13) (by rfl) scLaw.nd (pi_range1 rfl T.range (pa_cons pe_int pa_nil)) (blkOk_by (own := [("k", 13)]) (N := ["script", "bag", "turn", "value", "other", "rows", "error", "held", "due", "again", "one", "two", "row", "k"]) (sc := defScope sLaw) (by decide +kernel)) (fun _ _ _ _ _ => pg_name (i := 13) scLaw.nd rfl (Or.inl rfl)) (fun _ _ _ _ _ => pts_nil) (fun _ _ _ _ _ => pe_lst (pa_cons (pv 13) pa_nil))) (nomark _)) (pw_or1 (pt_not (pt_val (pe_callG GC gr3 (fun _ => hA) (by rfl) mC kC bC (pa_cons (pv 3) pa_nil))))))) (pss_one (ps_ret pe_bl)) pss_nil)
          (pss_cons (ps_for PassesOwn.never rfl (pi_list (pv 5)) (pg_tup (by rfl) (pgs_cons (pg_name (i := 6) scLaw.nd rfl (Or.inl rfl)) (pgs_cons (pg_name (i := 7) scLaw.nd rfl (Or.inl rfl)) (pgs_cons (pg_name (i := 8) scLaw.nd rfl (Or.inl rfl)) pgs_nil)))) (pss_one (ps_if (PW.pt (pw_or (pt_not (pt_val (pe_callG GA gr1 (by intro z; cases z) (by rfl) mA kA bA (pa_cons (pv 7) (pa_cons (pv 8) pa_nil))))) (pw_or (pt_not (pt_val (pe_callB call_isW (by rfl) T.isin (by decide +kernel) (pa_cons (pv 6) (pa_cons (pe_glob (v := .ref G) (by rfl) gG rfl) pa_nil))))) (pw_or1 (pt_not (pt_val (pe_callB call_isW (by rfl) T.isin (by decide +kernel) (pa_cons (pv 6) (pa_cons (pe_bltn (v := .ty "ValueError") (by rfl) T.verr (by decide +kernel) rfl) pa_nil))))))))) (pss_one (ps_ret pe_bl)) pss_nil)))
          (pss_cons (ps_if (pt_val (pe_callB call_isAny (by rfl) T.isin (by decide +kernel) (pa_cons (pv 3) (pa_cons (pe_bltn (v := .ty "list") (by rfl) T.list (by decide +kernel) rfl) pa_nil)))) (pss_one (ps_expr (pe_bm PySem.F.plainAttrs_list PySem.F.slot_list_append PySem.F.type_list_append mt_append (pv 3) (pa_cons pe_str pa_nil)))) pss_nil)
          (pss_cons (ps_if (pt_val (pe_callB call_isAny (by rfl) T.isin (by decide +kernel) (pa_cons (pv 4) (pa_cons (pe_bltn (v := .ty "list") (by rfl) T.list (by decide +kernel) rfl) pa_nil)))) (pss_one (ps_expr (pe_bm PySem.F.plainAttrs_list PySem.F.slot_list_append PySem.F.type_list_append mt_append (pv 4) (pa_cons pe_str pa_nil)))) pss_nil)
          (pss_cons (ps_if (pt_cmpR (op_neD u64) (pe_lc (own := [("row", 12)]) (g := gName 12) (by rfl) scLaw.nd (pi_list (pv 5)) (blkOk_by (own := [("row", 12)]) (N := ["script", "bag", "turn", "value", "other", "rows", "error", "held", "due", "again", "one", "two", "row", "k"]) (sc := defScope sLaw) (by decide +kernel)) (fun _ _ _ _ _ => pg_name (i := 12) scLaw.nd rfl (Or.inl rfl)) (fun _ _ _ _ _ => pts_one (pt_not (pt_val (pe_callG GA gr1 (by intro z; cases z) (by rfl) mA kA bA (pa_cons (pe_ix (r := rIxT K) ix_tup (pv 12) pe_int (fun _ _ => rfl)) (pa_cons (pe_ix (r := rIxT K) ix_tup (pv 12) pe_int (fun _ _ => rfl)) pa_nil)))))) (fun _ _ _ _ _ => pv 12)) (pe_lst pa_nil) (nomark _)) (pss_one (ps_ret pe_bl)) pss_nil)
          (pss_cons (ps_set (i := 9) scLaw.nd rfl (Or.inl rfl) (pe_lst (pa_cons (pe_xw (pe_ix (r := rIxT K) ix_tup (pe_ix (r := rIxL K) ix_list (pv 5) pe_int (fun _ _ => rfl)) pe_int (fun _ _ => rfl))) (pa_cons (pe_xw (pe_ix (r := rIxT K) ix_tup (pe_ix (r := rIxL K) ix_list (pv 5) pe_int (fun _ _ => rfl)) pe_int (fun _ _ => rfl))) (pa_cons (pe_xw (pe_ix (r := rIxT K) ix_tup (pe_ix (r := rIxL K) ix_list (pv 5) pe_int (fun _ _ => rfl)) pe_int (fun _ _ => rfl))) (pa_cons (pe_xw (pe_ix (r := rIxT K) ix_tup (pe_ix (r := rIxL K) ix_list (pv 5) pe_int (fun _ _ => rfl)) pe_int (fun _ _ => rfl))) (pa_cons (pe_xw (pe_ix (r := rIxT K) ix_tup (pe_ix (r := rIxL K) ix_list (pv 5) pe_int (fun _ _ => rfl)) pe_int (fun _ _ => rfl))) pa_nil)))))))
          (pss_cons (ps_if (pt_not (pt_val (pe_callG GA gr1 (by intro z; cases z) (by rfl) mA kA bA (pa_cons (pv 9) (pa_cons (pe_lst (pa_cons (pv 3) (pa_cons (pv 3) (pa_cons (pv 3) (pa_cons (pv 4) (pa_cons (pv 3) pa_nil)))))) pa_nil))))) (pss_one (ps_ret pe_bl)) pss_nil)
          (pss_cons (ps_par (i := 10) (j := 11) rfl scLaw.nd rfl rfl (by decide) (by rfl) (by rfl) (pa_cons (pe_ini It hR2 (by rfl) (pe_lstS (pa_cons pe_int pa_nil) (mo_cons mo_c mo_nil)) (mo_lstS (mo_cons mo_c mo_nil))) (pa_cons (pe_ini It hR2 (by rfl) (pe_lstS (pa_cons pe_int pa_nil) (mo_cons mo_c mo_nil)) (mo_lstS (mo_cons mo_c mo_nil))) pa_nil)) (by rfl))
          (pss_one (ps_if (PW.pt (pw_or (pt_cmpR (op_neD u64) (pe_xw (pv 10)) (pe_lst (pa_cons pe_int pa_nil)) (nomark _)) (pw_or1 (pt_cmpR (op_neD u64) (pe_xw (pv 11)) (pe_lst (pa_cons pe_int pa_nil)) (nomark _))))) (pss_one (ps_ret pe_bl)) pss_nil))))))))))))))
      (pss_one (ps_ret pe_bl))))), ?_⟩
    refine ⟨_, rfl, a, ns, rfl, hS, hn, fun bg H1 s1 n1 B1 => ?_⟩
    refine ⟨3, rfl, by decide, by decide, for_range (fun _ σ' H' => (∃ x2 x3 x4 x5 x6 x7 x8 x9 x10 x11 x12 x13 : Option V, σ' = [some (.ref a), some (.ref bg), x2, x3, x4, x5, x6, x7, x8, x9, x10, x11, x12, x13]) ∧ Bag H' bg) ?_ ?_ ?_⟩
    · exact ⟨⟨_, _, _, _, _, _, _, _, _, _, _, _, rfl⟩, B1⟩
    · rintro i σ' H0 _ ⟨⟨x2, x3, x4, x5, x6, x7, x8, x9, x10, x11, x12, x13, rfl⟩, hB⟩
      obtain ⟨b0, hI⟩ : ∃ b0, Inn H0 bg b0 := by
        obtain ⟨c, st, i, b, ns, e1, _⟩ := hB
        exact ⟨b, c, st, i, e1⟩
      have hb0 : H0 b0 ≠ none := by
        obtain ⟨c, st, i, b, ns, e1, e2, _⟩ := hB
        obtain ⟨c', st', i', e⟩ := hI
        rw [e1] at e
        cases e
        rw [e2]
        exact fun z => nomatch z
      refine ⟨bg, ⟨hB, rfl⟩, fun v H2 av tv E1 sv lv nv => ?_⟩
      refine ⟨bg, ⟨E1.bag, rfl⟩, fun o H3 ao to E2 so lo no => ?_⟩
      have hV : VO CW NW H3 v o av ao 1000 := ⟨⟨tv, sv.ext (nv.out hB.there) E2 (fun b m => (nv b m).2), lv⟩, ⟨to, so, lo⟩, fun b m => E2.stay (nv b m).2, fun b m => (no b m).2, fun b m m2 => (nv b m).2 (no b m2).1⟩
      have hN : ∀ b ∈ av ++ ao, H0 b = none := fun b m => by
        rcases List.mem_append.mp m with q | q
        · exact (nv b q).1
        · exact (no.before E1 b q).1
      have hT : ∀ b ∈ av ++ ao, H3 b ≠ none := fun b m => by
        rcases List.mem_append.mp m with q | q
        · exact hV.tv b q
        · exact hV.to b q
      have B3 : Bag H3 bg := E2.bag
      have I3 : Inn H3 bg b0 := E2.inn _ (E1.inn _ hI)
      have nbg : bg ∉ av ++ ao := fun m => hB.there (hN bg m)
      have nb0 : b0 ∉ av ++ ao := fun m => hb0 (hN b0 m)
      clear sv so lv lo nv no E1 E2 tv to
      refine ⟨_, rfl, _, rfl, v, o, rfl, fun l H4 s34 l0 R4 => ?_⟩
      have nl : l ∉ av ++ ao := fun m => hT l m l0
      obtain ⟨rs, rl, rn, rk⟩ := id R4
      have V4 := hV.same s34
      have B4 := B3.same s34
      clear hV
      have sz : ∀ {m : Nat}, m ≤ 900 → m ≤ sizeLine := fun h => Nat.le_of_lt (small1000 (by omega))
      have sz2 : ∀ {m : Nat}, m ≤ 900 → m < sizeLine := fun h => small1000 (by omega)
      -- [_law_classes_of(row[0]) for row in rows] != [[k] for k in range(22)]
      refine ⟨_, rfl, l, rfl, ⟨_, SqL.of rl⟩, fun D hD => lc_list (K := K) (a := l) (xs := rs.map V.ref) (fun i G => Same H4 G ∧ ∃ ps : List Addr, ps.length = i ∧ G D = some (.lst (ps.map V.ref)) ∧ ∀ (j : Nat) (p : Addr), ps[j]? = some p → p ≠ D ∧ G p = some (.lst [.int (j : Int)])) ?_ ?_ ?_ ?_⟩
      · exact ⟨same_upd hD, [], rfl, upd_same, fun j p z => by simp at z⟩
      · rintro i G _ ⟨S, _⟩
        exact SqL.of (S _ _ rl)
      · rintro i x G hx ⟨S, ps, pl, pD, pk⟩
        rw [List.getElem?_map] at hx
        obtain ⟨r, hr, rfl⟩ := Option.map_eq_some_iff.mp hx
        have hi : i < 22 := by
          have := (List.getElem?_eq_some_iff.mp hr).1
          omega
        obtain ⟨e, h, d, _, _, _, er, eh, ed, ek⟩ := rk i r hr
        refine ⟨rfl, ?_⟩
        unfold tYes
        dsimp only
        refine iteT ⟨_, rfl, r, _, 0, .ref e, rfl, rfl, SqT.of (S _ _ er), rfl, e, i, rfl, hi, (ek.toI).same S, fun p G2 s2 np ep => ?_⟩
        have pD2 : p ≠ D := fun z => by rw [z, pD] at np; cases np
        refine ⟨ps.map V.ref, s2 _ _ pD, sz2 (by rw [List.length_map, pl]; omega), grow (KaG.Same.tr S s2) hD, ps ++ [p], by rw [List.length_append, pl]; rfl, by rw [upd_same, List.map_append]; rfl, fun j q z => ?_⟩
        by_cases hj : j < ps.length
        · rw [List.getElem?_append_left hj] at z
          obtain ⟨z1, z2⟩ := pk j q z
          exact ⟨z1, by rw [upd_ne z1]; exact s2 _ _ z2⟩
        · have hj2 : j = i := by
            have := (List.getElem?_eq_some_iff.mp z).1
            rw [List.length_append] at this
            have e1 : ([p] : List Addr).length = 1 := rfl
            omega
          subst hj2
          rw [List.getElem?_append_right (by omega), pl, Nat.sub_self] at z
          cases z
          exact ⟨pD2, by rw [upd_ne pD2]; exact ep⟩
      · rintro G5 ⟨S5, ps, pl, pD, pk⟩
        rw [List.length_map, rn] at pl
        refine ⟨22, rfl, by decide, by decide, fun D2 hD2 => lc_range (fun i G => Same G5 G ∧ ∃ qs : List Addr, qs.length = i ∧ G D2 = some (.lst (qs.map V.ref)) ∧ ∀ (j : Nat) (p : Addr), qs[j]? = some p → p ≠ D2 ∧ G p = some (.lst [.int (j : Int)])) ?_ ?_ ?_⟩
        · exact ⟨same_upd hD2, [], rfl, upd_same, fun j p z => by simp at z⟩
        · rintro i G hi ⟨S, qs, ql, qD, qk⟩
          refine ⟨rfl, ?_⟩
          unfold tYes
          dsimp only
          refine iteT ⟨_, rfl, by show 1 ≤ sizeLine; exact sz (by decide), fun p np => ?_⟩
          have hi' : i < 22 := hi
          have pD2 : p ≠ D2 := fun z => by rw [z, qD] at np; cases np
          have s2 : Same G (upd G p (.lst [.int (0 + (i : Int))])) := same_upd np
          refine ⟨qs.map V.ref, s2 _ _ qD, sz2 (by rw [List.length_map, ql]; omega), grow (KaG.Same.tr S s2) hD2, qs ++ [p], by rw [List.length_append, ql]; rfl, by rw [upd_same, List.map_append]; rfl, fun j q z => ?_⟩
          by_cases hj : j < qs.length
          · rw [List.getElem?_append_left hj] at z
            obtain ⟨z1, z2⟩ := qk j q z
            exact ⟨z1, by rw [upd_ne z1]; exact s2 _ _ z2⟩
          · have hj2 : j = i := by
              have := (List.getElem?_eq_some_iff.mp z).1
              rw [List.length_append] at this
              have e1 : ([p] : List Addr).length = 1 := rfl
              omega
            subst hj2
            rw [List.getElem?_append_right (by omega), ql, Nat.sub_self] at z
            cases z
            exact ⟨pD2, by rw [upd_ne pD2, upd_same, Int.zero_add]⟩
        · rintro G6 ⟨S6, qs, ql, qD, qk⟩
          refine ⟨.list (dsR 22), .list (dsR 22), dp_22 (S6 _ _ pD) pl (fun j p z => S6 _ _ (pk j p z).2), dp_22 qD ql (fun j p z => (qk j p z).2), ds_shaped, ds_shaped, _, rfl, ?_⟩
          refine ifF ds_eq ?_
          have S46 := KaG.Same.tr S5 S6
          clear pk qk qD pD hD hD2
          -- not _law_are_caught(value)
          obtain ⟨⟨t5, sv5, lv5⟩, _, tv5, _⟩ := V4.same S46
          refine ⟨_, rfl, v, av, 5, t5, rfl, sv5, by decide, by omega, tv5, fun H7 s7 => ⟨true, rfl, ?_⟩⟩
          refine ifF rfl ?_
          have S47 := KaG.Same.tr S46 s7
          clear S46 s7 S5 S6 sv5 lv5 tv5 pl ql
          have V7 := V4.same S47
          have R7 := R4.sm S47
          have B7 := B4.same S47
          have I7 : Inn H7 bg b0 := by
            obtain ⟨c, st, i', e⟩ := I3
            exact ⟨c, st, i', S47 _ _ (s34 _ _ e)⟩
          have hT7 : ∀ b ∈ av ++ ao, H7 b ≠ none := fun b m => trk_same hT (KaG.Same.tr s34 S47) b m
          clear V4 R4 B4 I3 rl rn rk S47
          -- for error, held, due in rows
          obtain ⟨rs, rl, rn, rk⟩ := id R7
          refine ⟨_, rfl, l, rfl, ⟨_, SqL.of rl⟩, for_list (K := K) (a := l) (xs := rs.map V.ref) (fun _ σ' J => J = H7 ∧ ∃ y6 y7 y8 : Option V, σ' = [some (.ref a), some (.ref bg), some (.int (0 + (i : Int))), some v, some o, some (.ref l), y6, y7, y8, x9, x10, x11, x12, x13]) ?_ ?_ ?_ ?_⟩
          · exact ⟨rfl, _, _, _, rfl⟩
          · rintro j σ' G5 _ ⟨rfl, _⟩
            exact SqL.of rl
          · rintro j x σ' G5 hx ⟨rfl, y6, y7, y8, rfl⟩
            rw [List.getElem?_map] at hx
            obtain ⟨r, hr, rfl⟩ := Option.map_eq_some_iff.mp hx
            obtain ⟨e, h, d, nr, nh, nd, er, eh, ed, ek⟩ := rk j r hr
            obtain ⟨ts, hs1, hs2⟩ := hel_sh V7 (by decide) j
            obtain ⟨C, t1, dd, hC, ee, ed1⟩ := ek.toI
            refine ⟨r, _, rfl, SqT.of er, by rfl, _, _, rfl, _, _, rfl, _, _, rfl, rfl, ?_⟩
            obtain ⟨a1, b1, d1, d2, A1, A2, A3, A4, A5⟩ := alike_pair K hs1 eh ed (fun m => hT h m nh.1) (fun m => hT d m nd.1)
            refine ⟨_, rfl, _, rfl, .ref h, .ref d, a1, b1, d1, d2, _, rfl, A1, A2, A3, A4, A5, hs2, true, rfl, ?_⟩
            · refine ifF rfl ?_
              refine ⟨_, rfl, e, C, t1, dd, .ref G, .ref G, true, rfl, .own _, EX j C hC, ee, ed1, KG j C hC, true, rfl, ?_⟩
              refine ifF rfl ?_
              refine ⟨_, rfl, e, C, t1, dd, .ty "ValueError", .type "ValueError", true, rfl, .ty _, EX j C hC, ee, ed1, KV j C hC, true, rfl, ?_⟩
              exact ifF rfl ⟨rfl, _, _, _, rfl⟩
          · rintro σ' G5 ⟨rfl, y6, y7, y8, rfl⟩
            clear rl rn rk rs
            -- value.append("more")
            obtain ⟨c1, k1, g1⟩ := V7.more (X := (cxG true CX0 P w K mg base ["script", "bag", "turn", "value", "other", "rows", "error", "held", "due", "again", "one", "two", "row", "k"] "law" (defScope sLaw) f cdv A outer s H E)) (by decide) EW KL
            have hb : ∀ b : Addr, H3 b = none → b ∉ av ++ ao := fun b z m => hT b m z
            dsimp only
            refine seqGo (fun b' D => ∀ G6 : Hp, VO CW NW G6 v o av ao 1100 → Chg (av ++ ao) G5 G6 → b' D [some (.ref a), some (.ref bg), some (.int (0 + (i : Int))), some v, some o, some (.ref l), y6, y7, y8, x9, x10, x11, x12, x13] G6) (fun G6 V8 C8 => ?_) (fun rest => ?_)
            · obtain ⟨c2, k2, g2⟩ := V8.swap.more (X := (cxG true CX0 P w K mg base ["script", "bag", "turn", "value", "other", "rows", "error", "held", "due", "again", "one", "two", "row", "k"] "law" (defScope sLaw) f cdv A outer s H E)) (by decide) EW KL
              refine seqGo (fun b' D => ∀ G6 : Hp, VO CW NW G6 v o av ao 1200 → Chg (av ++ ao) G5 G6 → b' D [some (.ref a), some (.ref bg), some (.int (0 + (i : Int))), some v, some o, some (.ref l), y6, y7, y8, x9, x10, x11, x12, x13] G6) (fun G7 V9 C9 => ?_) (fun rest => ?_)
              · have R9 := R7.ch (H' := G7) (fun b u z e => (C9.keep b (hb b z.1)).trans e) (C9.keep l nl)
                obtain ⟨B9, I9⟩ := B7.chg I7 C9 nbg nb0
                have hT9 : ∀ b ∈ av ++ ao, G7 b ≠ none := fun b m => C9.there b (hT7 b m)
                clear V8 C8 C9 k2 g2 k1 g1 V7 R7 B7 I7 hT7
                -- [row for row in rows if not _law_alike(row[1], row[2])] != []
                obtain ⟨rs, rl, rn, rk⟩ := id R9
                refine ⟨_, rfl, l, rfl, ⟨_, SqL.of rl⟩, fun D hD => lc_list (K := K) (a := l) (xs := rs.map V.ref) (fun _ J => J = upd G7 D (.lst [])) rfl ?_ ?_ ?_⟩
                · rintro j J _ rfl
                  exact SqL.of (same_upd hD _ _ rl)
                · rintro j x J hx rfl
                  rw [List.getElem?_map] at hx
                  obtain ⟨r, hr, rfl⟩ := Option.map_eq_some_iff.mp hx
                  have sD : Same G7 (upd G7 D (.lst [])) := same_upd hD
                  obtain ⟨e, h, d, nr, nh, nd, er, eh, ed, ek⟩ := (rk j r hr).ns (NSame.of sD)
                  obtain ⟨ts, hs1, hs2⟩ := hel_sh (V9.same sD) (by decide) j
                  obtain ⟨a1, b1, d1, d2, A1, A2, A3, A4, A5⟩ := alike_pair K hs1 eh ed (hb h nh.1) (hb d nd.1)
                  refine ⟨rfl, ?_⟩
                  refine ⟨_, rfl, r, _, 1, .ref h, rfl, rfl, SqT.of er, rfl, _, rfl, r, _, 2, .ref d, rfl, rfl, SqT.of er, rfl, .ref h, .ref d, a1, b1, d1, d2, _, rfl, A1, A2, A3, A4, A5, hs2, true, rfl, ?_⟩
                  exact ifF rfl rfl
                · rintro J rfl
                  refine ⟨Nat.zero_le _, fun p np => ?_⟩
                  have sD : Same G7 (upd G7 D (.lst [])) := same_upd hD
                  have sp : Same (upd G7 D (.lst [])) (upd (upd G7 D (.lst [])) p (.lst [])) := same_upd np
                  refine ⟨.list [], .list [], .lst (SqL.of (sp _ _ upd_same)) .nil, .lst (SqL.of upd_same) .nil, by decide +kernel, by decide +kernel, _, rfl, ?_⟩
                  refine ifF (by decide +kernel) ?_
                  have S8 := KaG.Same.tr sD sp
                  have V10 := V9.same S8
                  have R10 := R9.sm S8
                  have B10 := B9.same S8
                  have trk10 := trk_same hT9 S8
                  clear S8
                  generalize upd (upd G7 D (.lst [])) p (.lst []) = G8 at V10 R10 B10 trk10 ⊢
                  clear sD sp rl rn rk rs V9 R9 B9 hT9 I9
                  -- again = [rows[0][0].index, ..]
                  refine xw_row (z := v) R10 0 (by decide) (by decide) rfl (.inl ⟨rfl, rfl⟩) XF NP rfl ?_
                  refine xw_row (z := v) R10 3 (by decide) (by decide) rfl (.inl ⟨rfl, rfl⟩) XF NP rfl ?_
                  refine xw_row (z := v) R10 11 (by decide) (by decide) rfl (.inl ⟨rfl, rfl⟩) XF NP rfl ?_
                  refine xw_row (z := o) R10 11 (by decide) (by decide) rfl (.inr ⟨rfl, rfl, rfl⟩) XF NP rfl ?_
                  refine xw_row (z := v) R10 14 (by decide) (by decide) rfl (.inl ⟨rfl, rfl⟩) XF NP rfl ?_
                  refine ⟨by show 5 ≤ sizeLine; exact sz (by decide), fun p9 np9 => ?_⟩
                  refine ⟨_, rfl, _, rfl, _, rfl, _, rfl, _, rfl, _, rfl, by show 5 ≤ sizeLine; exact sz (by decide), fun q9 nq9 => ?_⟩
                  have sp : Same G8 (upd G8 p9 (.lst [v, v, v, o, v])) := same_upd np9
                  have sq : Same (upd G8 p9 (.lst [v, v, v, o, v])) (upd (upd G8 p9 (.lst [v, v, v, o, v])) q9 (.lst [v, v, v, o, v])) := same_upd nq9
                  have ep := sq _ _ (upd_same (H := G8) (a := p9) (o := .lst [v, v, v, o, v]))
                  have eq9 : upd (upd G8 p9 (.lst [v, v, v, o, v])) q9 (.lst [v, v, v, o, v]) q9 = some (.lst [v, v, v, o, v]) := upd_same
                  have S9 := KaG.Same.tr sp sq
                  have V11 := V10.same S9
                  have B11 := B10.same S9
                  have np9' : p9 ∉ av ++ ao := fun m => trk10 p9 m np9
                  have nq9' : q9 ∉ av ++ ao := fun m => trk10 q9 m (by
                    cases e : G8 q9 with
                    | none => rfl
                    | some u => rw [sp _ _ e] at nq9; cases nq9)
                  generalize upd (upd G8 p9 (.lst [v, v, v, o, v])) q9 (.lst [v, v, v, o, v]) = G9 at ep eq9 V11 B11 ⊢
                  obtain ⟨tv, to, h1, h2, h3, h4, _⟩ := V11.two
                  have hL : ShA G9 CW NW (av ++ ao) 5 [v, v, v, o, v] [tv, tv, tv, to, tv] := .cons h1 (.cons h1 (.cons h1 (.cons h3 (.cons h1 .nil))))
                  obtain ⟨a1, b1, d1, d2, A1, A2, A3, A4, A5⟩ := alike_pair K hL ep eq9 np9' nq9'
                  refine ⟨.ref p9, .ref q9, a1, b1, d1, d2, _, rfl, A1, A2, A3, A4, A5, text_le (n := 2000) (fun t z => ?_) (by simp) (by decide), true, rfl, ?_⟩
                  · simp only [List.mem_cons, List.mem_nil_iff, or_false] at z
                    rcases z with z | z | z | z | z <;> rw [z] <;> omega
                  refine ifF rfl ?_
                  clear A1 A2 A3 A4 A5 hL h1 h2 h3 h4 V11 V10 R10 B10 ep eq9 sp sq S9
                  -- one, two = TooMany([1]), TooMany([2])
                  refine ⟨by show 1 ≤ 1000; decide, fun q1 J1 u1 m1 e1 => fun a1 dx1 t1 J2 M1 => ⟨by show 1 ≤ 1000; decide, fun q2 J3 u2 m2 e2 => fun a2 dx2 t2 J4 M2 => ⟨_, _, rfl, ?_⟩⟩⟩
                  have w1 := KaG.Same.tr u2 M2.same
                  have w0 := KaG.Same.tr M1.same w1
                  have f1 := w1 _ _ M1.ea
                  have f2 := w1 _ _ M1.ed
                  have f3 := w0 _ _ e1
                  have g3 := M2.same _ _ e2
                  have B12 := B11.same (KaG.Same.tr u1 w0)
                  -- if one.most != [1] or two.most != [2]
                  refine ⟨_, rfl, a1, Ct, t1, dx1, _, .ref q1, rfl, It.xf, It.nf, f1, f2, rfl, by show 1 ≤ sizeLine; exact sz (by decide), fun p np => ?_⟩
                  have sp : Same J4 (upd J4 p (.lst [.int 1])) := same_upd np
                  refine ⟨.list [.int 1], .list [.int 1], .lst (SqL.of (sp _ _ f3)) (.cons (.int _) .nil), .lst (SqL.of upd_same) (.cons (.int _) .nil), by decide +kernel, by decide +kernel, _, rfl, ?_⟩
                  refine ifF (by decide +kernel) ?_
                  refine ⟨_, rfl, a2, Ct, t2, dx2, _, .ref q2, rfl, It.xf, It.nf, sp _ _ M2.ea, sp _ _ M2.ed, rfl, by show 1 ≤ sizeLine; exact sz (by decide), fun p' np' => ?_⟩
                  have sp' := KaG.Same.tr sp (same_upd (o := .lst [.int 2]) np')
                  refine ⟨.list [.int 2], .list [.int 2], .lst (SqL.of (sp' _ _ g3)) (.cons (.int _) .nil), .lst (SqL.of upd_same) (.cons (.int _) .nil), by decide +kernel, by decide +kernel, _, rfl, ?_⟩
                  refine ifF (by decide +kernel) ?_
                  exact ⟨⟨_, _, _, _, _, _, _, _, _, _, _, _, rfl⟩, B12.same sp'⟩
              · refine ⟨_, rfl, k2 _ ⟨c2, rfl, ?_⟩⟩
                cases c2 with
                | false => exact ifF rfl (rest G6 ⟨let ⟨t, p, q⟩ := V8.v; ⟨t, p, Nat.le_trans q (by decide)⟩, let ⟨t, p, q⟩ := V8.o; ⟨t, p, Nat.le_trans q (by decide)⟩, V8.tv, V8.to, V8.dj⟩ C8)
                | true =>
                  obtain ⟨p, xs, rfl, e1, e2, e3, e4, e5⟩ := g2 rfl
                  exact ifT rfl ⟨_, rfl, .inl ⟨rfl, _, SqL.of e1⟩, p, xs, _, rfl, rfl, e1, e2, rest _ e4.swap (C8.trans ⟨fun b n => e5.keep b fun m => n (List.mem_append.mpr (List.mem_append.mp m).symm), e5.there⟩)⟩
            · refine ⟨_, rfl, k1 _ ⟨c1, rfl, ?_⟩⟩
              cases c1 with
              | false => exact ifF rfl (rest G5 ⟨let ⟨t, p, q⟩ := V7.v; ⟨t, p, Nat.le_trans q (by decide)⟩, let ⟨t, p, q⟩ := V7.o; ⟨t, p, Nat.le_trans q (by decide)⟩, V7.tv, V7.to, V7.dj⟩ Chg.refl)
              | true =>
                obtain ⟨p, xs, rfl, e1, e2, e3, e4, e5⟩ := g1 rfl
                exact ifT rfl ⟨_, rfl, .inl ⟨rfl, _, SqL.of e1⟩, p, xs, _, rfl, rfl, e1, e2, rest _ e4 e5⟩
    · rintro σ' H' _
      exact k H'
end
end KaG


set_option maxRecDepth 100000
set_option maxHeartbeats 2000000
namespace KaG
open PySem PySem.Spec PyProof.Rows L2
/-! ### the classes, checked at once -/
def clB (K : PySem.W.Frag) (C : Addr) : Bool :=
  decide (PySem.W.findIn K (.ref C) "__setattr__" = some (some (.builtin "object.__setattr__"))) && (decide (PySem.W.subIn K (.ref C) (.type "BaseException") = some true) && (decide (PySem.W.typeIn K (.ref C) = some (.type "type")) && (PySem.W.keepIn K (.ref C) && (xfB K C &&
  (decide (PySem.W.findIn K (.ref C) "__class__" = some (some (.builtin "object.__class__"))) && (decide (PySem.W.specialIn K (.builtin "object.__class__") "__get__" = some (some (.builtin "getset_descriptor.__get__"))) && (decide (PySem.W.takesIn K (.builtin "object.__class__") = some true) && decide (PySem.W.mroIn K C (.type "object") = some true))))))))
structure ClF (K : PySem.W.Frag) (C : Addr) : Prop where
  sa : PySem.W.findIn K (.ref C) "__setattr__" = some (some (.builtin "object.__setattr__"))
  exC : PySem.W.subIn K (.ref C) (.type "BaseException") = some true
  tyC : PySem.W.typeIn K (.ref C) = some (.type "type")
  kC : PySem.W.keepIn K (.ref C) = true
  xf : XfC K C
  ex : L2.ExcC K C
theorem clB_ok {K : PySem.W.Frag} {C : Addr} (h : clB K C = true) : ClF K C := by
  unfold clB at h
  simp only [Bool.and_eq_true, decide_eq_true_eq] at h
  obtain ⟨h1, h2, h3, h4, h5, h6, h7, h8, h9⟩ := h
  have x := xfB_ok h5
  exact ⟨h1, h2, h3, h4, x, ⟨x.ga, x.gg, x.exC, x.hdC, h6, h7, h8, h9⟩⟩
def pairB (K : PySem.W.Frag) (Cs : List Addr) : Bool := (List.range Cs.length).all fun i => (List.range Cs.length).all fun j => PySem.W.kitOne K (.ref (Cs.getD i 0)) (.ref (Cs.getD j 0)) == some (decide (i = j))
theorem getD_of {Cs : List Addr} {i : Nat} {C : Addr} (h : Cs[i]? = some C) : Cs.getD i 0 = C := by simp [h]
theorem lt_of {Cs : List Addr} {i : Nat} {C : Addr} (h : Cs[i]? = some C) : i < Cs.length := (List.getElem?_eq_some_iff.mp h).1
theorem pairB_ok {K : PySem.W.Frag} {Cs : List Addr} (h : pairB K Cs = true) : PairK K Cs := by
  intro i j Ci Cj hi hj
  unfold pairB at h
  rw [List.all_eq_true] at h
  have h1 := h i (List.mem_range.mpr (lt_of hi))
  rw [List.all_eq_true] at h1
  have h2 := h1 j (List.mem_range.mpr (lt_of hj))
  rw [getD_of hi, getD_of hj] at h2
  exact beq_iff_eq.mp h2
def upB (K : PySem.W.Frag) (Cs : List Addr) (u : Value) : Bool := Cs.all fun C => PySem.W.kitOne K (.ref C) u == some true
theorem upB_ok {K : PySem.W.Frag} {Cs : List Addr} {u : Value} (h : upB K Cs u = true) (i : Nat) (C : Addr) (hi : Cs[i]? = some C) : PySem.W.kitOne K (.ref C) u = some true := by
  unfold upB at h
  rw [List.all_eq_true] at h
  exact beq_iff_eq.mp (h C (List.mem_of_getElem? hi))
def wrB (K : PySem.W.Frag) (C : Addr) (NW : Str) : Bool := (match PySem.W.clsIn K C with | some cd => decide (Str.ofString ((cd.name.toString.cutAt '.').getLastD "") = NW) | none => false) &&
  (decide (PySem.W.findIn K (.ref C) "__repr__" = some (some (.builtin "BaseException.__repr__"))) && (decide (PySem.W.findIn K (.ref C) "__eq__" = some (some (.builtin "object.__eq__"))) && decide (PySem.W.subIn K (.ref C) (.type "object") = some true)))
theorem wrB_ok {K : PySem.W.Frag} {C : Addr} {NW : Str} (h : wrB K C NW = true) (e : PySem.W.subIn K (.ref C) (.type "BaseException") = some true) : WrK K C NW := by
  unfold wrB at h
  rw [Bool.and_eq_true] at h
  obtain ⟨h1, h2⟩ := h
  simp only [Bool.and_eq_true, decide_eq_true_eq] at h2
  obtain ⟨h3, h4, h5⟩ := h2
  split at h1
  · rename_i cd hc
    exact ⟨⟨cd, hc, of_decide_eq_true h1⟩, e, h3, h4, h5⟩
  · cases h1
section
variable {P : Program} {w : World} {K : PySem.W.Frag} {mg : Str → Option Value} {base : Heap}
theorem oexC_of {C : Addr} {nm q : Str} {N : Addr} {bs bm : List Value} {sn : List Str} {sub : List Value} {ab : Bool} {col : Option Bool} {dd : Option Addr} {m0 m1 m2 m3 m5 : Option Value} (F : ClF K C)
    (xL : K.lookup C = some (excClassObj nm q C N bs bm true sn sub ab col dd m0 m1 m2 m3 m5 "ValueError.__new__")) (hb : PySem.HandSPX.refsVE bm = true) : OexC K C := ⟨⟨nm, q, N, bs, bm, sn, sub, ab, col, dd, m0, m1, m2, m3, m5, xL, hb⟩, F.sa, F.exC, F.tyC, F.kC⟩
theorem ini_of {x f qual : Str} {st : Stmt} {C fI : Addr} {fd : FuncData} {p1 p2 p3 p4 : Pos} (m : mg x = some (.ref C)) (F : ClF K C) (o : OexC K C) (nf : PySem.W.findIn K (.ref C) f = some none) (iC : PySem.W.findIn K (.ref C) "__init__" = some (some (.ref fI))) (tI : PySem.W.typeIn K (.ref fI) = some (.type "function"))
    (Fn : Fun K "__init__" qual st fI fd) (b : Binds K fd ["self", f] []) (sc : FnScope ["self", f] ["self", f] (defScope st)) (hb : defBody st = [.Assign [.Attribute (.Name "self" p1) f p2] (.Name f p3) p4]) (h1 : (f == ("__debug__" : Str)) = false) (h2 : (f == ("__classdict__" : Str)) = false) :
    Ini P w K mg base x f C fI fd := ⟨m, o, F.xf, F.ex, nf, iC, tI, ok_init1 Fn sc hb h1 h2, b⟩
end

abbrev sI0 : Stmt := inClass (top 2) 0
abbrev sI1 : Stmt := inClass (top 7) 0
abbrev sI2 : Stmt := inClass (top 8) 0
abbrev sI3 : Stmt := inClass (top 9) 0
abbrev sI4 : Stmt := inClass (top 11) 0
abbrev sI5 : Stmt := inClass (top 14) 0
abbrev sI6 : Stmt := inClass (top 21) 0
abbrev sI7 : Stmt := inClass (top 3) 0
abbrev sI8 : Stmt := inClass (top 6) 0
abbrev sI9 : Stmt := inClass (top 10) 0
abbrev sI10 : Stmt := inClass (top 13) 0
abbrev sI11 : Stmt := inClass (top 15) 0
abbrev sI12 : Stmt := inClass (top 16) 0
abbrev sI13 : Stmt := inClass (top 20) 0
abbrev sI14 : Stmt := inClass (top 22) 0
abbrev sI15 : Stmt := inClass (top 23) 0
theorem scI0 : FnScope ["self", "index"] ["self", "index"] (defScope sI0) := ⟨rfl, rfl, rfl, by decide +kernel, rfl, by decide +kernel, by decide +kernel⟩
theorem scI1 : FnScope ["self", "index"] ["self", "index"] (defScope sI1) := ⟨rfl, rfl, rfl, by decide +kernel, rfl, by decide +kernel, by decide +kernel⟩
theorem scI2 : FnScope ["self", "index"] ["self", "index"] (defScope sI2) := ⟨rfl, rfl, rfl, by decide +kernel, rfl, by decide +kernel, by decide +kernel⟩
theorem scI3 : FnScope ["self", "name"] ["self", "name"] (defScope sI3) := ⟨rfl, rfl, rfl, by decide +kernel, rfl, by decide +kernel, by decide +kernel⟩
theorem scI4 : FnScope ["self", "name"] ["self", "name"] (defScope sI4) := ⟨rfl, rfl, rfl, by decide +kernel, rfl, by decide +kernel, by decide +kernel⟩
theorem scI5 : FnScope ["self", "name"] ["self", "name"] (defScope sI5) := ⟨rfl, rfl, rfl, by decide +kernel, rfl, by decide +kernel, by decide +kernel⟩
theorem scI6 : FnScope ["self", "name"] ["self", "name"] (defScope sI6) := ⟨rfl, rfl, rfl, by decide +kernel, rfl, by decide +kernel, by decide +kernel⟩
theorem scI7 : FnScope ["self", "until"] ["self", "until"] (defScope sI7) := ⟨rfl, rfl, rfl, by decide +kernel, rfl, by decide +kernel, by decide +kernel⟩
theorem scI8 : FnScope ["self", "dial"] ["self", "dial"] (defScope sI8) := ⟨rfl, rfl, rfl, by decide +kernel, rfl, by decide +kernel, by decide +kernel⟩
theorem scI9 : FnScope ["self", "rows"] ["self", "rows"] (defScope sI9) := ⟨rfl, rfl, rfl, by decide +kernel, rfl, by decide +kernel, by decide +kernel⟩
theorem scI10 : FnScope ["self", "line"] ["self", "line"] (defScope sI10) := ⟨rfl, rfl, rfl, by decide +kernel, rfl, by decide +kernel, by decide +kernel⟩
theorem scI12 : FnScope ["self", "place"] ["self", "place"] (defScope sI12) := ⟨rfl, rfl, rfl, by decide +kernel, rfl, by decide +kernel, by decide +kernel⟩
theorem scI13 : FnScope ["self", "most"] ["self", "most"] (defScope sI13) := ⟨rfl, rfl, rfl, by decide +kernel, rfl, by decide +kernel, by decide +kernel⟩
theorem scI14 : FnScope ["self", "last"] ["self", "last"] (defScope sI14) := ⟨rfl, rfl, rfl, by decide +kernel, rfl, by decide +kernel, by decide +kernel⟩
theorem scI15 : FnScope ["self", "place"] ["self", "place"] (defScope sI15) := ⟨rfl, rfl, rfl, by decide +kernel, rfl, by decide +kernel, by decide +kernel⟩
theorem scI11 : FnScope ["self", "index", "paper"] ["self", "index", "paper"] (defScope sI11) := ⟨rfl, rfl, rfl, by decide +kernel, rfl, by decide +kernel, by decide +kernel⟩
section
variable {P : Program} {w : World} {K : PySem.W.Frag} {mg : Str → Option Value} {h : Heap}
theorem all_mk {fa G : Addr} {C0 : Addr} {C1 : Addr} {C2 : Addr} {C3 : Addr} {C4 : Addr} {C5 : Addr} {C6 : Addr} {C7 : Addr} {C8 : Addr} {C9 : Addr} {C10 : Addr} {C11 : Addr} {C12 : Addr} {C13 : Addr} {C14 : Addr} {C15 : Addr} {C16 : Addr} {C17 : Addr} {C18 : Addr} {C19 : Addr} {C20 : Addr} {C21 : Addr} {f0 N0 : Addr} {nm0 q0 : Str} {bs0 bm0 : List Value} {sn0 : List Str} {sub0 : List Value} {ab0 : Bool} {col0 : Option Bool} {dd0 od0 an0 : Option Addr} {u0 v0 w0 x0 y0 oc0 kV0 dc0 pm0 cd0 ct0 : _} {sl0 : Array (Option Value)} {f1 N1 : Addr} {nm1 q1 : Str} {bs1 bm1 : List Value} {sn1 : List Str} {sub1 : List Value} {ab1 : Bool} {col1 : Option Bool} {dd1 od1 an1 : Option Addr} {u1 v1 w1 x1 y1 oc1 kV1 dc1 pm1 cd1 ct1 : _} {sl1 : Array (Option Value)} {f2 N2 : Addr} {nm2 q2 : Str} {bs2 bm2 : List Value} {sn2 : List Str} {sub2 : List Value} {ab2 : Bool} {col2 : Option Bool} {dd2 od2 an2 : Option Addr} {u2 v2 w2 x2 y2 oc2 kV2 dc2 pm2 cd2 ct2 : _} {sl2 : Array (Option Value)} {f3 N3 : Addr} {nm3 q3 : Str} {bs3 bm3 : List Value} {sn3 : List Str} {sub3 : List Value} {ab3 : Bool} {col3 : Option Bool} {dd3 od3 an3 : Option Addr} {u3 v3 w3 x3 y3 oc3 kV3 dc3 pm3 cd3 ct3 : _} {sl3 : Array (Option Value)} {f4 N4 : Addr} {nm4 q4 : Str} {bs4 bm4 : List Value} {sn4 : List Str} {sub4 : List Value} {ab4 : Bool} {col4 : Option Bool} {dd4 od4 an4 : Option Addr} {u4 v4 w4 x4 y4 oc4 kV4 dc4 pm4 cd4 ct4 : _} {sl4 : Array (Option Value)} {f5 N5 : Addr} {nm5 q5 : Str} {bs5 bm5 : List Value} {sn5 : List Str} {sub5 : List Value} {ab5 : Bool} {col5 : Option Bool} {dd5 od5 an5 : Option Addr} {u5 v5 w5 x5 y5 oc5 kV5 dc5 pm5 cd5 ct5 : _} {sl5 : Array (Option Value)} {f6 N6 : Addr} {nm6 q6 : Str} {bs6 bm6 : List Value} {sn6 : List Str} {sub6 : List Value} {ab6 : Bool} {col6 : Option Bool} {dd6 od6 an6 : Option Addr} {u6 v6 w6 x6 y6 oc6 kV6 dc6 pm6 cd6 ct6 : _} {sl6 : Array (Option Value)} {f7 N7 : Addr} {nm7 q7 : Str} {bs7 bm7 : List Value} {sn7 : List Str} {sub7 : List Value} {ab7 : Bool} {col7 : Option Bool} {dd7 od7 an7 : Option Addr} {u7 v7 w7 x7 y7 oc7 kV7 dc7 pm7 cd7 ct7 : _} {sl7 : Array (Option Value)} {f8 N8 : Addr} {nm8 q8 : Str} {bs8 bm8 : List Value} {sn8 : List Str} {sub8 : List Value} {ab8 : Bool} {col8 : Option Bool} {dd8 od8 an8 : Option Addr} {u8 v8 w8 x8 y8 oc8 kV8 dc8 pm8 cd8 ct8 : _} {sl8 : Array (Option Value)} {f9 N9 : Addr} {nm9 q9 : Str} {bs9 bm9 : List Value} {sn9 : List Str} {sub9 : List Value} {ab9 : Bool} {col9 : Option Bool} {dd9 od9 an9 : Option Addr} {u9 v9 w9 x9 y9 oc9 kV9 dc9 pm9 cd9 ct9 : _} {sl9 : Array (Option Value)} {f10 N10 : Addr} {nm10 q10 : Str} {bs10 bm10 : List Value} {sn10 : List Str} {sub10 : List Value} {ab10 : Bool} {col10 : Option Bool} {dd10 od10 an10 : Option Addr} {u10 v10 w10 x10 y10 oc10 kV10 dc10 pm10 cd10 ct10 : _} {sl10 : Array (Option Value)} {f11 N11 : Addr} {nm11 q11 : Str} {bs11 bm11 : List Value} {sn11 : List Str} {sub11 : List Value} {ab11 : Bool} {col11 : Option Bool} {dd11 od11 an11 : Option Addr} {u11 v11 w11 x11 y11 oc11 kV11 dc11 pm11 cd11 ct11 : _} {sl11 : Array (Option Value)} {f12 N12 : Addr} {nm12 q12 : Str} {bs12 bm12 : List Value} {sn12 : List Str} {sub12 : List Value} {ab12 : Bool} {col12 : Option Bool} {dd12 od12 an12 : Option Addr} {u12 v12 w12 x12 y12 oc12 kV12 dc12 pm12 cd12 ct12 : _} {sl12 : Array (Option Value)} {f13 N13 : Addr} {nm13 q13 : Str} {bs13 bm13 : List Value} {sn13 : List Str} {sub13 : List Value} {ab13 : Bool} {col13 : Option Bool} {dd13 od13 an13 : Option Addr} {u13 v13 w13 x13 y13 oc13 kV13 dc13 pm13 cd13 ct13 : _} {sl13 : Array (Option Value)} {f14 N14 : Addr} {nm14 q14 : Str} {bs14 bm14 : List Value} {sn14 : List Str} {sub14 : List Value} {ab14 : Bool} {col14 : Option Bool} {dd14 od14 an14 : Option Addr} {u14 v14 w14 x14 y14 oc14 kV14 dc14 pm14 cd14 ct14 : _} {sl14 : Array (Option Value)} {f15 N15 : Addr} {nm15 q15 : Str} {bs15 bm15 : List Value} {sn15 : List Str} {sub15 : List Value} {ab15 : Bool} {col15 : Option Bool} {dd15 od15 an15 : Option Addr} {u15 v15 w15 x15 y15 oc15 kV15 dc15 pm15 cd15 ct15 : _} {sl15 : Array (Option Value)} {g0 : Addr} {god0 gan0 : Option Addr} {gsl0 : Array (Option Value)} {goc0 gkV0 gdc0 gpm0 gcd0 gct0 : Value} {g1 : Addr} {god1 gan1 : Option Addr} {gsl1 : Array (Option Value)} {goc1 gkV1 gdc1 gpm1 gcd1 gct1 : Value} {g2 : Addr} {god2 gan2 : Option Addr} {gsl2 : Array (Option Value)} {goc2 gkV2 gdc2 gpm2 gcd2 gct2 : Value} {g3 : Addr} {god3 gan3 : Option Addr} {gsl3 : Array (Option Value)} {goc3 gkV3 gdc3 gpm3 gcd3 gct3 : Value} {g4 : Addr} {god4 gan4 : Option Addr} {gsl4 : Array (Option Value)} {goc4 gkV4 gdc4 gpm4 gcd4 gct4 : Value} {g5 : Addr} {god5 gan5 : Option Addr} {gsl5 : Array (Option Value)} {goc5 gkV5 gdc5 gpm5 gcd5 gct5 : Value} {g6 : Addr} {god6 gan6 : Option Addr} {gsl6 : Array (Option Value)} {goc6 gkV6 gdc6 gpm6 gcd6 gct6 : Value} {g7 : Addr} {god7 gan7 : Option Addr} {gsl7 : Array (Option Value)} {goc7 gkV7 gdc7 gpm7 gcd7 gct7 : Value} {g8 : Addr} {god8 gan8 : Option Addr} {gsl8 : Array (Option Value)} {goc8 gkV8 gdc8 gpm8 gcd8 gct8 : Value} (X : K.In h) (Gm : h.Ns mainGlobals mg) (hfa : mg "law" = some (.ref fa))
    (babs : PySem.W.nsIn K mainGlobals "abs" = some none)
    (blen : PySem.W.nsIn K mainGlobals "len" = some none)
    (bint : PySem.W.nsIn K mainGlobals "int" = some none)
    (brepr : PySem.W.nsIn K mainGlobals "repr" = some none)
    (bisinstance : PySem.W.nsIn K mainGlobals "isinstance" = some none)
    (brange : PySem.W.nsIn K mainGlobals "range" = some none)
    (blist : PySem.W.nsIn K mainGlobals "list" = some none)
    (bValueError : PySem.W.nsIn K mainGlobals "ValueError" = some none)
    (aG : PySem.W.nsIn K mainGlobals "GoneError" = some (some (.ref G)))
    (a0 : PySem.W.nsIn K mainGlobals "BadDeed" = some (some (.ref C0)))
    (a1 : PySem.W.nsIn K mainGlobals "NoGround" = some (some (.ref C1)))
    (a2 : PySem.W.nsIn K mainGlobals "NoIndex" = some (some (.ref C2)))
    (a3 : PySem.W.nsIn K mainGlobals "NoKind" = some (some (.ref C3)))
    (a4 : PySem.W.nsIn K mainGlobals "NoName" = some (some (.ref C4)))
    (a5 : PySem.W.nsIn K mainGlobals "NotEver" = some (some (.ref C5)))
    (a6 : PySem.W.nsIn K mainGlobals "Unlike" = some (some (.ref C6)))
    (a7 : PySem.W.nsIn K mainGlobals "Barred" = some (some (.ref C7)))
    (a8 : PySem.W.nsIn K mainGlobals "NoDial" = some (some (.ref C8)))
    (a9 : PySem.W.nsIn K mainGlobals "NoLot" = some (some (.ref C9)))
    (a10 : PySem.W.nsIn K mainGlobals "NoText" = some (some (.ref C10)))
    (a11 : PySem.W.nsIn K mainGlobals "NotHeld" = some (some (.ref C11)))
    (a12 : PySem.W.nsIn K mainGlobals "NotMet" = some (some (.ref C12)))
    (a13 : PySem.W.nsIn K mainGlobals "TooMany" = some (some (.ref C13)))
    (a14 : PySem.W.nsIn K mainGlobals "Untold" = some (some (.ref C14)))
    (a15 : PySem.W.nsIn K mainGlobals "Wrong" = some (some (.ref C15)))
    (a16 : PySem.W.nsIn K mainGlobals "NoCommand" = some (some (.ref C16)))
    (a17 : PySem.W.nsIn K mainGlobals "NoDeed" = some (some (.ref C17)))
    (a18 : PySem.W.nsIn K mainGlobals "NoNews" = some (some (.ref C18)))
    (a19 : PySem.W.nsIn K mainGlobals "NotMorning" = some (some (.ref C19)))
    (a20 : PySem.W.nsIn K mainGlobals "NotTimed" = some (some (.ref C20)))
    (a21 : PySem.W.nsIn K mainGlobals "Nothing" = some (some (.ref C21)))
    (xL0 : K.lookup C0 = some (excClassObj nm0 q0 C0 N0 bs0 bm0 true sn0 sub0 ab0 col0 dd0 u0 v0 w0 x0 y0 "ValueError.__new__"))
    (i0 : PySem.W.findIn K (.ref C0) "__init__" = some (some (.ref f0)))
    (t0 : PySem.W.typeIn K (.ref f0) = some (.type "function"))
    (l0 : K.lookup f0 = some ⟨oc0, od0, .func (PySem.W.fnOf "__init__" "BadDeed.__init__" (defArgs sI0) (defBody sI0) (defScope sI0) .none kV0 dc0 pm0 an0 cd0 ct0), sl0⟩)
    (c0 : PySem.W.codeIn K cd0 "BadDeed.__init__" = true)
    (k0 : PySem.W.keepIn K (.ref f0) = true)
    (r0 : PySem.HandSPX.refsVE bm0 = true)
    (n0 : PySem.W.findIn K (.ref C0) "index" = some none)
    (xL1 : K.lookup C1 = some (excClassObj nm1 q1 C1 N1 bs1 bm1 true sn1 sub1 ab1 col1 dd1 u1 v1 w1 x1 y1 "ValueError.__new__"))
    (i1 : PySem.W.findIn K (.ref C1) "__init__" = some (some (.ref f1)))
    (t1 : PySem.W.typeIn K (.ref f1) = some (.type "function"))
    (l1 : K.lookup f1 = some ⟨oc1, od1, .func (PySem.W.fnOf "__init__" "NoGround.__init__" (defArgs sI1) (defBody sI1) (defScope sI1) .none kV1 dc1 pm1 an1 cd1 ct1), sl1⟩)
    (c1 : PySem.W.codeIn K cd1 "NoGround.__init__" = true)
    (k1 : PySem.W.keepIn K (.ref f1) = true)
    (r1 : PySem.HandSPX.refsVE bm1 = true)
    (n1 : PySem.W.findIn K (.ref C1) "index" = some none)
    (xL2 : K.lookup C2 = some (excClassObj nm2 q2 C2 N2 bs2 bm2 true sn2 sub2 ab2 col2 dd2 u2 v2 w2 x2 y2 "ValueError.__new__"))
    (i2 : PySem.W.findIn K (.ref C2) "__init__" = some (some (.ref f2)))
    (t2 : PySem.W.typeIn K (.ref f2) = some (.type "function"))
    (l2 : K.lookup f2 = some ⟨oc2, od2, .func (PySem.W.fnOf "__init__" "NoIndex.__init__" (defArgs sI2) (defBody sI2) (defScope sI2) .none kV2 dc2 pm2 an2 cd2 ct2), sl2⟩)
    (c2 : PySem.W.codeIn K cd2 "NoIndex.__init__" = true)
    (k2 : PySem.W.keepIn K (.ref f2) = true)
    (r2 : PySem.HandSPX.refsVE bm2 = true)
    (n2 : PySem.W.findIn K (.ref C2) "index" = some none)
    (xL3 : K.lookup C3 = some (excClassObj nm3 q3 C3 N3 bs3 bm3 true sn3 sub3 ab3 col3 dd3 u3 v3 w3 x3 y3 "ValueError.__new__"))
    (i3 : PySem.W.findIn K (.ref C3) "__init__" = some (some (.ref f3)))
    (t3 : PySem.W.typeIn K (.ref f3) = some (.type "function"))
    (l3 : K.lookup f3 = some ⟨oc3, od3, .func (PySem.W.fnOf "__init__" "NoKind.__init__" (defArgs sI3) (defBody sI3) (defScope sI3) .none kV3 dc3 pm3 an3 cd3 ct3), sl3⟩)
    (c3 : PySem.W.codeIn K cd3 "NoKind.__init__" = true)
    (k3 : PySem.W.keepIn K (.ref f3) = true)
    (r3 : PySem.HandSPX.refsVE bm3 = true)
    (n3 : PySem.W.findIn K (.ref C3) "name" = some none)
    (xL4 : K.lookup C4 = some (excClassObj nm4 q4 C4 N4 bs4 bm4 true sn4 sub4 ab4 col4 dd4 u4 v4 w4 x4 y4 "ValueError.__new__"))
    (i4 : PySem.W.findIn K (.ref C4) "__init__" = some (some (.ref f4)))
    (t4 : PySem.W.typeIn K (.ref f4) = some (.type "function"))
    (l4 : K.lookup f4 = some ⟨oc4, od4, .func (PySem.W.fnOf "__init__" "NoName.__init__" (defArgs sI4) (defBody sI4) (defScope sI4) .none kV4 dc4 pm4 an4 cd4 ct4), sl4⟩)
    (c4 : PySem.W.codeIn K cd4 "NoName.__init__" = true)
    (k4 : PySem.W.keepIn K (.ref f4) = true)
    (r4 : PySem.HandSPX.refsVE bm4 = true)
    (n4 : PySem.W.findIn K (.ref C4) "name" = some none)
    (xL5 : K.lookup C5 = some (excClassObj nm5 q5 C5 N5 bs5 bm5 true sn5 sub5 ab5 col5 dd5 u5 v5 w5 x5 y5 "ValueError.__new__"))
    (i5 : PySem.W.findIn K (.ref C5) "__init__" = some (some (.ref f5)))
    (t5 : PySem.W.typeIn K (.ref f5) = some (.type "function"))
    (l5 : K.lookup f5 = some ⟨oc5, od5, .func (PySem.W.fnOf "__init__" "NotEver.__init__" (defArgs sI5) (defBody sI5) (defScope sI5) .none kV5 dc5 pm5 an5 cd5 ct5), sl5⟩)
    (c5 : PySem.W.codeIn K cd5 "NotEver.__init__" = true)
    (k5 : PySem.W.keepIn K (.ref f5) = true)
    (r5 : PySem.HandSPX.refsVE bm5 = true)
    (n5 : PySem.W.findIn K (.ref C5) "name" = some none)
    (xL6 : K.lookup C6 = some (excClassObj nm6 q6 C6 N6 bs6 bm6 true sn6 sub6 ab6 col6 dd6 u6 v6 w6 x6 y6 "ValueError.__new__"))
    (i6 : PySem.W.findIn K (.ref C6) "__init__" = some (some (.ref f6)))
    (t6 : PySem.W.typeIn K (.ref f6) = some (.type "function"))
    (l6 : K.lookup f6 = some ⟨oc6, od6, .func (PySem.W.fnOf "__init__" "Unlike.__init__" (defArgs sI6) (defBody sI6) (defScope sI6) .none kV6 dc6 pm6 an6 cd6 ct6), sl6⟩)
    (c6 : PySem.W.codeIn K cd6 "Unlike.__init__" = true)
    (k6 : PySem.W.keepIn K (.ref f6) = true)
    (r6 : PySem.HandSPX.refsVE bm6 = true)
    (n6 : PySem.W.findIn K (.ref C6) "name" = some none)
    (xL7 : K.lookup C7 = some (excClassObj nm7 q7 C7 N7 bs7 bm7 true sn7 sub7 ab7 col7 dd7 u7 v7 w7 x7 y7 "ValueError.__new__"))
    (i7 : PySem.W.findIn K (.ref C7) "__init__" = some (some (.ref f7)))
    (t7 : PySem.W.typeIn K (.ref f7) = some (.type "function"))
    (l7 : K.lookup f7 = some ⟨oc7, od7, .func (PySem.W.fnOf "__init__" "Barred.__init__" (defArgs sI7) (defBody sI7) (defScope sI7) .none kV7 dc7 pm7 an7 cd7 ct7), sl7⟩)
    (c7 : PySem.W.codeIn K cd7 "Barred.__init__" = true)
    (k7 : PySem.W.keepIn K (.ref f7) = true)
    (r7 : PySem.HandSPX.refsVE bm7 = true)
    (n7 : PySem.W.findIn K (.ref C7) "until" = some none)
    (xL8 : K.lookup C8 = some (excClassObj nm8 q8 C8 N8 bs8 bm8 true sn8 sub8 ab8 col8 dd8 u8 v8 w8 x8 y8 "ValueError.__new__"))
    (i8 : PySem.W.findIn K (.ref C8) "__init__" = some (some (.ref f8)))
    (t8 : PySem.W.typeIn K (.ref f8) = some (.type "function"))
    (l8 : K.lookup f8 = some ⟨oc8, od8, .func (PySem.W.fnOf "__init__" "NoDial.__init__" (defArgs sI8) (defBody sI8) (defScope sI8) .none kV8 dc8 pm8 an8 cd8 ct8), sl8⟩)
    (c8 : PySem.W.codeIn K cd8 "NoDial.__init__" = true)
    (k8 : PySem.W.keepIn K (.ref f8) = true)
    (r8 : PySem.HandSPX.refsVE bm8 = true)
    (n8 : PySem.W.findIn K (.ref C8) "dial" = some none)
    (xL9 : K.lookup C9 = some (excClassObj nm9 q9 C9 N9 bs9 bm9 true sn9 sub9 ab9 col9 dd9 u9 v9 w9 x9 y9 "ValueError.__new__"))
    (i9 : PySem.W.findIn K (.ref C9) "__init__" = some (some (.ref f9)))
    (t9 : PySem.W.typeIn K (.ref f9) = some (.type "function"))
    (l9 : K.lookup f9 = some ⟨oc9, od9, .func (PySem.W.fnOf "__init__" "NoLot.__init__" (defArgs sI9) (defBody sI9) (defScope sI9) .none kV9 dc9 pm9 an9 cd9 ct9), sl9⟩)
    (c9 : PySem.W.codeIn K cd9 "NoLot.__init__" = true)
    (k9 : PySem.W.keepIn K (.ref f9) = true)
    (r9 : PySem.HandSPX.refsVE bm9 = true)
    (n9 : PySem.W.findIn K (.ref C9) "rows" = some none)
    (xL10 : K.lookup C10 = some (excClassObj nm10 q10 C10 N10 bs10 bm10 true sn10 sub10 ab10 col10 dd10 u10 v10 w10 x10 y10 "ValueError.__new__"))
    (i10 : PySem.W.findIn K (.ref C10) "__init__" = some (some (.ref f10)))
    (t10 : PySem.W.typeIn K (.ref f10) = some (.type "function"))
    (l10 : K.lookup f10 = some ⟨oc10, od10, .func (PySem.W.fnOf "__init__" "NoText.__init__" (defArgs sI10) (defBody sI10) (defScope sI10) .none kV10 dc10 pm10 an10 cd10 ct10), sl10⟩)
    (c10 : PySem.W.codeIn K cd10 "NoText.__init__" = true)
    (k10 : PySem.W.keepIn K (.ref f10) = true)
    (r10 : PySem.HandSPX.refsVE bm10 = true)
    (n10 : PySem.W.findIn K (.ref C10) "line" = some none)
    (xL11 : K.lookup C11 = some (excClassObj nm11 q11 C11 N11 bs11 bm11 true sn11 sub11 ab11 col11 dd11 u11 v11 w11 x11 y11 "ValueError.__new__"))
    (i11 : PySem.W.findIn K (.ref C11) "__init__" = some (some (.ref f11)))
    (t11 : PySem.W.typeIn K (.ref f11) = some (.type "function"))
    (l11 : K.lookup f11 = some ⟨oc11, od11, .func (PySem.W.fnOf "__init__" "NotHeld.__init__" (defArgs sI11) (defBody sI11) (defScope sI11) .none kV11 dc11 pm11 an11 cd11 ct11), sl11⟩)
    (c11 : PySem.W.codeIn K cd11 "NotHeld.__init__" = true)
    (k11 : PySem.W.keepIn K (.ref f11) = true)
    (r11 : PySem.HandSPX.refsVE bm11 = true)
    (n11 : PySem.W.findIn K (.ref C11) "index" = some none)
    (p11 : PySem.W.findIn K (.ref C11) "paper" = some none)
    (xL12 : K.lookup C12 = some (excClassObj nm12 q12 C12 N12 bs12 bm12 true sn12 sub12 ab12 col12 dd12 u12 v12 w12 x12 y12 "ValueError.__new__"))
    (i12 : PySem.W.findIn K (.ref C12) "__init__" = some (some (.ref f12)))
    (t12 : PySem.W.typeIn K (.ref f12) = some (.type "function"))
    (l12 : K.lookup f12 = some ⟨oc12, od12, .func (PySem.W.fnOf "__init__" "NotMet.__init__" (defArgs sI12) (defBody sI12) (defScope sI12) .none kV12 dc12 pm12 an12 cd12 ct12), sl12⟩)
    (c12 : PySem.W.codeIn K cd12 "NotMet.__init__" = true)
    (k12 : PySem.W.keepIn K (.ref f12) = true)
    (r12 : PySem.HandSPX.refsVE bm12 = true)
    (n12 : PySem.W.findIn K (.ref C12) "place" = some none)
    (xL13 : K.lookup C13 = some (excClassObj nm13 q13 C13 N13 bs13 bm13 true sn13 sub13 ab13 col13 dd13 u13 v13 w13 x13 y13 "ValueError.__new__"))
    (i13 : PySem.W.findIn K (.ref C13) "__init__" = some (some (.ref f13)))
    (t13 : PySem.W.typeIn K (.ref f13) = some (.type "function"))
    (l13 : K.lookup f13 = some ⟨oc13, od13, .func (PySem.W.fnOf "__init__" "TooMany.__init__" (defArgs sI13) (defBody sI13) (defScope sI13) .none kV13 dc13 pm13 an13 cd13 ct13), sl13⟩)
    (c13 : PySem.W.codeIn K cd13 "TooMany.__init__" = true)
    (k13 : PySem.W.keepIn K (.ref f13) = true)
    (r13 : PySem.HandSPX.refsVE bm13 = true)
    (n13 : PySem.W.findIn K (.ref C13) "most" = some none)
    (xL14 : K.lookup C14 = some (excClassObj nm14 q14 C14 N14 bs14 bm14 true sn14 sub14 ab14 col14 dd14 u14 v14 w14 x14 y14 "ValueError.__new__"))
    (i14 : PySem.W.findIn K (.ref C14) "__init__" = some (some (.ref f14)))
    (t14 : PySem.W.typeIn K (.ref f14) = some (.type "function"))
    (l14 : K.lookup f14 = some ⟨oc14, od14, .func (PySem.W.fnOf "__init__" "Untold.__init__" (defArgs sI14) (defBody sI14) (defScope sI14) .none kV14 dc14 pm14 an14 cd14 ct14), sl14⟩)
    (c14 : PySem.W.codeIn K cd14 "Untold.__init__" = true)
    (k14 : PySem.W.keepIn K (.ref f14) = true)
    (r14 : PySem.HandSPX.refsVE bm14 = true)
    (n14 : PySem.W.findIn K (.ref C14) "last" = some none)
    (xL15 : K.lookup C15 = some (excClassObj nm15 q15 C15 N15 bs15 bm15 true sn15 sub15 ab15 col15 dd15 u15 v15 w15 x15 y15 "ValueError.__new__"))
    (i15 : PySem.W.findIn K (.ref C15) "__init__" = some (some (.ref f15)))
    (t15 : PySem.W.typeIn K (.ref f15) = some (.type "function"))
    (l15 : K.lookup f15 = some ⟨oc15, od15, .func (PySem.W.fnOf "__init__" "Wrong.__init__" (defArgs sI15) (defBody sI15) (defScope sI15) .none kV15 dc15 pm15 an15 cd15 ct15), sl15⟩)
    (c15 : PySem.W.codeIn K cd15 "Wrong.__init__" = true)
    (k15 : PySem.W.keepIn K (.ref f15) = true)
    (r15 : PySem.HandSPX.refsVE bm15 = true)
    (n15 : PySem.W.findIn K (.ref C15) "place" = some none)
    (ga0 : PySem.W.nsIn K mainGlobals "_law_bag" = some (some (.ref g0)))
    (gl0 : K.lookup g0 = some ⟨goc0, god0, .func (PySem.W.fnOf "_law_bag" "_law_bag" (defArgs sBag) (defBody sBag) (defScope sBag) .none gkV0 gdc0 gpm0 gan0 gcd0 gct0), gsl0⟩)
    (gc0 : PySem.W.codeIn K gcd0 "_law_bag" = true)
    (gk0 : PySem.W.keepIn K (.ref g0) = true)
    (ga1 : PySem.W.nsIn K mainGlobals "_law_take" = some (some (.ref g1)))
    (gl1 : K.lookup g1 = some ⟨goc1, god1, .func (PySem.W.fnOf "_law_take" "_law_take" (defArgs sTake) (defBody sTake) (defScope sTake) .none gkV1 gdc1 gpm1 gan1 gcd1 gct1), gsl1⟩)
    (gc1 : PySem.W.codeIn K gcd1 "_law_take" = true)
    (gk1 : PySem.W.keepIn K (.ref g1) = true)
    (ga2 : PySem.W.nsIn K mainGlobals "_law_some" = some (some (.ref g2)))
    (gl2 : K.lookup g2 = some ⟨goc2, god2, .func (PySem.W.fnOf "_law_some" "_law_some" (defArgs sSome) (defBody sSome) (defScope sSome) .none gkV2 gdc2 gpm2 gan2 gcd2 gct2), gsl2⟩)
    (gc2 : PySem.W.codeIn K gcd2 "_law_some" = true)
    (gk2 : PySem.W.keepIn K (.ref g2) = true)
    (ga3 : PySem.W.nsIn K mainGlobals "_law_alike" = some (some (.ref g3)))
    (gl3 : K.lookup g3 = some ⟨goc3, god3, .func (PySem.W.fnOf "_law_alike" "_law_alike" (defArgs sAlike) (defBody sAlike) (defScope sAlike) .none gkV3 gdc3 gpm3 gan3 gcd3 gct3), gsl3⟩)
    (gc3 : PySem.W.codeIn K gcd3 "_law_alike" = true)
    (gk3 : PySem.W.keepIn K (.ref g3) = true)
    (ga4 : PySem.W.nsIn K mainGlobals "_law_odd" = some (some (.ref g4)))
    (gl4 : K.lookup g4 = some ⟨goc4, god4, .func (PySem.W.fnOf "_law_odd" "_law_odd" (defArgs sOdd) (defBody sOdd) (defScope sOdd) .none gkV4 gdc4 gpm4 gan4 gcd4 gct4), gsl4⟩)
    (gc4 : PySem.W.codeIn K gcd4 "_law_odd" = true)
    (gk4 : PySem.W.keepIn K (.ref g4) = true)
    (ga5 : PySem.W.nsIn K mainGlobals "_law_with_fields" = some (some (.ref g5)))
    (gl5 : K.lookup g5 = some ⟨goc5, god5, .func (PySem.W.fnOf "_law_with_fields" "_law_with_fields" (defArgs sWith) (defBody sWith) (defScope sWith) .none gkV5 gdc5 gpm5 gan5 gcd5 gct5), gsl5⟩)
    (gc5 : PySem.W.codeIn K gcd5 "_law_with_fields" = true)
    (gk5 : PySem.W.keepIn K (.ref g5) = true)
    (ga6 : PySem.W.nsIn K mainGlobals "_law_classes_of" = some (some (.ref g6)))
    (gl6 : K.lookup g6 = some ⟨goc6, god6, .func (PySem.W.fnOf "_law_classes_of" "_law_classes_of" (defArgs sCls) (defBody sCls) (defScope sCls) .none gkV6 gdc6 gpm6 gan6 gcd6 gct6), gsl6⟩)
    (gc6 : PySem.W.codeIn K gcd6 "_law_classes_of" = true)
    (gk6 : PySem.W.keepIn K (.ref g6) = true)
    (ga7 : PySem.W.nsIn K mainGlobals "_law_are_caught" = some (some (.ref g7)))
    (gl7 : K.lookup g7 = some ⟨goc7, god7, .func (PySem.W.fnOf "_law_are_caught" "_law_are_caught" (defArgs sCaught) (defBody sCaught) (defScope sCaught) .none gkV7 gdc7 gpm7 gan7 gcd7 gct7), gsl7⟩)
    (gc7 : PySem.W.codeIn K gcd7 "_law_are_caught" = true)
    (gk7 : PySem.W.keepIn K (.ref g7) = true)
    (ga8 : PySem.W.nsIn K mainGlobals "law" = some (some (.ref g8)))
    (gl8 : K.lookup g8 = some ⟨goc8, god8, .func (PySem.W.fnOf "law" "law" (defArgs sLaw) (defBody sLaw) (defScope sLaw) .none gkV8 gdc8 gpm8 gan8 gcd8 gct8), gsl8⟩)
    (gc8 : PySem.W.codeIn K gcd8 "law" = true)
    (gk8 : PySem.W.keepIn K (.ref g8) = true)
    (B1 : ([C0, C1, C2, C3, C4, C5, C6, C7, C8, C9, C10, C11, C12, C13, C14, C15, C16, C17, C18, C19, C20, C21] : List Addr).all (clB K) = true)
    (B2 : pairB K [C0, C1, C2, C3, C4, C5, C6, C7, C8, C9, C10, C11, C12, C13, C14, C15, C16, C17, C18, C19, C20, C21] = true)
    (B3 : upB K [C0, C1, C2, C3, C4, C5, C6, C7, C8, C9, C10, C11, C12, C13, C14, C15, C16, C17, C18, C19, C20, C21] (.ref G) = true)
    (B4 : upB K [C0, C1, C2, C3, C4, C5, C6, C7, C8, C9, C10, C11, C12, C13, C14, C15, C16, C17, C18, C19, C20, C21] (.type "ValueError") = true)
    (B5 : (PySem.W.kitOne K (.ref C15) (.type "list") == some false) = true)
    (B6 : wrB K C15 "Wrong" = true)
    (B7 : ([C16, C17, C18, C19, C20, C21] : List Addr).all (fun C => PySem.W.excIn K C bmVE "ValueError.__new__") = true)
    (B8 : ((PySem.W.exmOne K (.ref C14) (.ref G) == some true) && ((PySem.W.exmOne K (.ref C11) (.ref C11) == some true) && (PySem.W.exmOne K (.ref C16) (.ref G) == some true))) = true) :
    ∃ fd : FuncData, (∀ (s : Shared) (u : Value), BindsTo s fd ⟨[u], []⟩ [("script", u)]) ∧ ∀ base : Heap, K.In base → base.Ns mainGlobals mg → FnG true P w K mg base CX0 6 fa fd ["script"] (spLaw K) := by
  have e := hfa.symm.trans (PySem.W.mg_of X Gm ga8)
  cases e
  have T : TxtB mg := ⟨PySem.W.mg_none_of X Gm babs, PySem.W.mg_none_of X Gm blen, PySem.W.mg_none_of X Gm bint, PySem.W.mg_none_of X Gm brepr, PySem.W.mg_none_of X Gm bisinstance, PySem.W.mg_none_of X Gm brange, PySem.W.mg_none_of X Gm blist, PySem.W.mg_none_of X Gm bValueError⟩
  have cl : ∀ C, C ∈ ([C0, C1, C2, C3, C4, C5, C6, C7, C8, C9, C10, C11, C12, C13, C14, C15, C16, C17, C18, C19, C20, C21] : List Addr) → ClF K C := fun C m => clB_ok (List.all_eq_true.mp B1 C m)
  have F0 : ClF K C0 := cl C0 (by simp)
  have F1 : ClF K C1 := cl C1 (by simp)
  have F2 : ClF K C2 := cl C2 (by simp)
  have F3 : ClF K C3 := cl C3 (by simp)
  have F4 : ClF K C4 := cl C4 (by simp)
  have F5 : ClF K C5 := cl C5 (by simp)
  have F6 : ClF K C6 := cl C6 (by simp)
  have F7 : ClF K C7 := cl C7 (by simp)
  have F8 : ClF K C8 := cl C8 (by simp)
  have F9 : ClF K C9 := cl C9 (by simp)
  have F10 : ClF K C10 := cl C10 (by simp)
  have F11 : ClF K C11 := cl C11 (by simp)
  have F12 : ClF K C12 := cl C12 (by simp)
  have F13 : ClF K C13 := cl C13 (by simp)
  have F14 : ClF K C14 := cl C14 (by simp)
  have F15 : ClF K C15 := cl C15 (by simp)
  have F16 : ClF K C16 := cl C16 (by simp)
  have F17 : ClF K C17 := cl C17 (by simp)
  have F18 : ClF K C18 := cl C18 (by simp)
  have F19 : ClF K C19 := cl C19 (by simp)
  have F20 : ClF K C20 := cl C20 (by simp)
  have F21 : ClF K C21 := cl C21 (by simp)
  have xs := B7
  simp only [List.all_cons, List.all_nil, Bool.and_true, Bool.and_eq_true] at xs
  obtain ⟨e16, e17, e18, e19, e20, e21⟩ := xs
  simp only [Bool.and_eq_true, beq_iff_eq] at B8
  obtain ⟨z1, z2, z3⟩ := B8
  have U0 := fun_mk (st := sI0) l0 c0 k0
  have U1 := fun_mk (st := sI1) l1 c1 k1
  have U2 := fun_mk (st := sI2) l2 c2 k2
  have U3 := fun_mk (st := sI3) l3 c3 k3
  have U4 := fun_mk (st := sI4) l4 c4 k4
  have U5 := fun_mk (st := sI5) l5 c5 k5
  have U6 := fun_mk (st := sI6) l6 c6 k6
  have U7 := fun_mk (st := sI7) l7 c7 k7
  have U8 := fun_mk (st := sI8) l8 c8 k8
  have U9 := fun_mk (st := sI9) l9 c9 k9
  have U10 := fun_mk (st := sI10) l10 c10 k10
  have U11 := fun_mk (st := sI11) l11 c11 k11
  have U12 := fun_mk (st := sI12) l12 c12 k12
  have U13 := fun_mk (st := sI13) l13 c13 k13
  have U14 := fun_mk (st := sI14) l14 c14 k14
  have U15 := fun_mk (st := sI15) l15 c15 k15
  have V0 := fun_mk (st := sBag) gl0 gc0 gk0
  have V1 := fun_mk (st := sTake) gl1 gc1 gk1
  have V2 := fun_mk (st := sSome) gl2 gc2 gk2
  have V3 := fun_mk (st := sAlike) gl3 gc3 gk3
  have V4 := fun_mk (st := sOdd) gl4 gc4 gk4
  have V5 := fun_mk (st := sWith) gl5 gc5 gk5
  have V6 := fun_mk (st := sCls) gl6 gc6 gk6
  have V7 := fun_mk (st := sCaught) gl7 gc7 gk7
  have V8 := fun_mk (st := sLaw) gl8 gc8 gk8
  have D0 := U0.binds (ps := ["self", "index"]) fun _ _ _ _ _ _ us hl => match us, hl with | [_, _], _ => rfl
  have D1 := U1.binds (ps := ["self", "index"]) fun _ _ _ _ _ _ us hl => match us, hl with | [_, _], _ => rfl
  have D2 := U2.binds (ps := ["self", "index"]) fun _ _ _ _ _ _ us hl => match us, hl with | [_, _], _ => rfl
  have D3 := U3.binds (ps := ["self", "name"]) fun _ _ _ _ _ _ us hl => match us, hl with | [_, _], _ => rfl
  have D4 := U4.binds (ps := ["self", "name"]) fun _ _ _ _ _ _ us hl => match us, hl with | [_, _], _ => rfl
  have D5 := U5.binds (ps := ["self", "name"]) fun _ _ _ _ _ _ us hl => match us, hl with | [_, _], _ => rfl
  have D6 := U6.binds (ps := ["self", "name"]) fun _ _ _ _ _ _ us hl => match us, hl with | [_, _], _ => rfl
  have D7 := U7.binds (ps := ["self", "until"]) fun _ _ _ _ _ _ us hl => match us, hl with | [_, _], _ => rfl
  have D8 := U8.binds (ps := ["self", "dial"]) fun _ _ _ _ _ _ us hl => match us, hl with | [_, _], _ => rfl
  have D9 := U9.binds (ps := ["self", "rows"]) fun _ _ _ _ _ _ us hl => match us, hl with | [_, _], _ => rfl
  have D10 := U10.binds (ps := ["self", "line"]) fun _ _ _ _ _ _ us hl => match us, hl with | [_, _], _ => rfl
  have D11 := U11.binds (ps := ["self", "index", "paper"]) fun _ _ _ _ _ _ us hl => match us, hl with | [_, _, _], _ => rfl
  have D12 := U12.binds (ps := ["self", "place"]) fun _ _ _ _ _ _ us hl => match us, hl with | [_, _], _ => rfl
  have D13 := U13.binds (ps := ["self", "most"]) fun _ _ _ _ _ _ us hl => match us, hl with | [_, _], _ => rfl
  have D14 := U14.binds (ps := ["self", "last"]) fun _ _ _ _ _ _ us hl => match us, hl with | [_, _], _ => rfl
  have D15 := U15.binds (ps := ["self", "place"]) fun _ _ _ _ _ _ us hl => match us, hl with | [_, _], _ => rfl
  have W0 := V0.binds (ps := ["script"]) fun _ _ _ _ _ _ us hl => match us, hl with | [_], _ => rfl
  have W1 := V1.binds (ps := ["bag", "upto"]) fun _ _ _ _ _ _ us hl => match us, hl with | [_, _], _ => rfl
  have W2 := V2.binds (ps := ["bag", "things"]) fun _ _ _ _ _ _ us hl => match us, hl with | [_, _], _ => rfl
  have W3 := V3.binds (ps := ["found", "due"]) fun _ _ _ _ _ _ us hl => match us, hl with | [_, _], _ => rfl
  have W4 := V4.binds (ps := ["bag"]) fun _ _ _ _ _ _ us hl => match us, hl with | [_], _ => rfl
  have W5 := V5.binds (ps := ["value", "other"]) fun _ _ _ _ _ _ us hl => match us, hl with | [_, _], _ => rfl
  have W6 := V6.binds (ps := ["error"]) fun _ _ _ _ _ _ us hl => match us, hl with | [_], _ => rfl
  have W7 := V7.binds (ps := ["value"]) fun _ _ _ _ _ _ us hl => match us, hl with | [_], _ => rfl
  have W8 := V8.binds (ps := ["script"]) fun _ _ _ _ _ _ us hl => match us, hl with | [_], _ => rfl
  have O0 : OexC K C0 := oexC_of F0 xL0 r0
  have O1 : OexC K C1 := oexC_of F1 xL1 r1
  have O2 : OexC K C2 := oexC_of F2 xL2 r2
  have O3 : OexC K C3 := oexC_of F3 xL3 r3
  have O4 : OexC K C4 := oexC_of F4 xL4 r4
  have O5 : OexC K C5 := oexC_of F5 xL5 r5
  have O6 : OexC K C6 := oexC_of F6 xL6 r6
  have O7 : OexC K C7 := oexC_of F7 xL7 r7
  have O8 : OexC K C8 := oexC_of F8 xL8 r8
  have O9 : OexC K C9 := oexC_of F9 xL9 r9
  have O10 : OexC K C10 := oexC_of F10 xL10 r10
  have O11 : OexC K C11 := oexC_of F11 xL11 r11
  have O12 : OexC K C12 := oexC_of F12 xL12 r12
  have O13 : OexC K C13 := oexC_of F13 xL13 r13
  have O14 : OexC K C14 := oexC_of F14 xL14 r14
  have O15 : OexC K C15 := oexC_of F15 xL15 r15
  have wr : WrK K C15 "Wrong" := wrB_ok B6 F15.exC
  have PK : PairK K [C0, C1, C2, C3, C4, C5, C6, C7, C8, C9, C10, C11, C12, C13, C14, C15, C16, C17, C18, C19, C20, C21] := pairB_ok B2
  have EX : ExAll K [C0, C1, C2, C3, C4, C5, C6, C7, C8, C9, C10, C11, C12, C13, C14, C15, C16, C17, C18, C19, C20, C21] := fun i C hi => (cl C (List.mem_of_getElem? hi)).ex
  refine ⟨PySem.W.fnOf "law" "law" (defArgs sLaw) (defBody sLaw) (defScope sLaw) .none gkV8 gdc8 gpm8 gan8 gcd8 gct8, fun s u => .of_eq rfl, fun base _ _ => ?_⟩
  have I0 : Ini P w K mg base "BadDeed" "index" C0 f0 _ := ini_of (PySem.W.mg_of X Gm a0) F0 O0 n0 i0 t0 U0 D0 scI0 rfl (by decide) (by decide)
  have I1 : Ini P w K mg base "NoGround" "index" C1 f1 _ := ini_of (PySem.W.mg_of X Gm a1) F1 O1 n1 i1 t1 U1 D1 scI1 rfl (by decide) (by decide)
  have I2 : Ini P w K mg base "NoIndex" "index" C2 f2 _ := ini_of (PySem.W.mg_of X Gm a2) F2 O2 n2 i2 t2 U2 D2 scI2 rfl (by decide) (by decide)
  have I3 : Ini P w K mg base "NoKind" "name" C3 f3 _ := ini_of (PySem.W.mg_of X Gm a3) F3 O3 n3 i3 t3 U3 D3 scI3 rfl (by decide) (by decide)
  have I4 : Ini P w K mg base "NoName" "name" C4 f4 _ := ini_of (PySem.W.mg_of X Gm a4) F4 O4 n4 i4 t4 U4 D4 scI4 rfl (by decide) (by decide)
  have I5 : Ini P w K mg base "NotEver" "name" C5 f5 _ := ini_of (PySem.W.mg_of X Gm a5) F5 O5 n5 i5 t5 U5 D5 scI5 rfl (by decide) (by decide)
  have I6 : Ini P w K mg base "Unlike" "name" C6 f6 _ := ini_of (PySem.W.mg_of X Gm a6) F6 O6 n6 i6 t6 U6 D6 scI6 rfl (by decide) (by decide)
  have I7 : Ini P w K mg base "Barred" "until" C7 f7 _ := ini_of (PySem.W.mg_of X Gm a7) F7 O7 n7 i7 t7 U7 D7 scI7 rfl (by decide) (by decide)
  have I8 : Ini P w K mg base "NoDial" "dial" C8 f8 _ := ini_of (PySem.W.mg_of X Gm a8) F8 O8 n8 i8 t8 U8 D8 scI8 rfl (by decide) (by decide)
  have I9 : Ini P w K mg base "NoLot" "rows" C9 f9 _ := ini_of (PySem.W.mg_of X Gm a9) F9 O9 n9 i9 t9 U9 D9 scI9 rfl (by decide) (by decide)
  have I10 : Ini P w K mg base "NoText" "line" C10 f10 _ := ini_of (PySem.W.mg_of X Gm a10) F10 O10 n10 i10 t10 U10 D10 scI10 rfl (by decide) (by decide)
  have I12 : Ini P w K mg base "NotMet" "place" C12 f12 _ := ini_of (PySem.W.mg_of X Gm a12) F12 O12 n12 i12 t12 U12 D12 scI12 rfl (by decide) (by decide)
  have I13 : Ini P w K mg base "TooMany" "most" C13 f13 _ := ini_of (PySem.W.mg_of X Gm a13) F13 O13 n13 i13 t13 U13 D13 scI13 rfl (by decide) (by decide)
  have I14 : Ini P w K mg base "Untold" "last" C14 f14 _ := ini_of (PySem.W.mg_of X Gm a14) F14 O14 n14 i14 t14 U14 D14 scI14 rfl (by decide) (by decide)
  have I15 : Ini P w K mg base "Wrong" "place" C15 f15 _ := ini_of (PySem.W.mg_of X Gm a15) F15 O15 n15 i15 t15 U15 D15 scI15 rfl (by decide) (by decide)
  have I11 : Ini2 P w K mg base "NotHeld" C11 f11 _ := ⟨PySem.W.mg_of X Gm a11, O11, F11.xf, F11.ex, n11, p11, i11, t11, ok_init2 U11 scI11 rfl, D11⟩
  have I16 : Ini0 K mg "NoCommand" C16 := ⟨PySem.W.mg_of X Gm a16, e16, F16.ex, F16.kC, F16.tyC⟩
  have I17 : Ini0 K mg "NoDeed" C17 := ⟨PySem.W.mg_of X Gm a17, e17, F17.ex, F17.kC, F17.tyC⟩
  have I18 : Ini0 K mg "NoNews" C18 := ⟨PySem.W.mg_of X Gm a18, e18, F18.ex, F18.kC, F18.tyC⟩
  have I19 : Ini0 K mg "NotMorning" C19 := ⟨PySem.W.mg_of X Gm a19, e19, F19.ex, F19.kC, F19.tyC⟩
  have I20 : Ini0 K mg "NotTimed" C20 := ⟨PySem.W.mg_of X Gm a20, e20, F20.ex, F20.kC, F20.tyC⟩
  have I21 : Ini0 K mg "Nothing" C21 := ⟨PySem.W.mg_of X Gm a21, e21, F21.ex, F21.kC, F21.tyC⟩
  have AC : AllC P w K mg base [C0, C1, C2, C3, C4, C5, C6, C7, C8, C9, C10, C11, C12, C13, C14, C15, C16, C17, C18, C19, C20, C21] := ⟨⟨C0, f0, _, rfl, I0⟩, ⟨C1, f1, _, rfl, I1⟩, ⟨C2, f2, _, rfl, I2⟩, ⟨C3, f3, _, rfl, I3⟩, ⟨C4, f4, _, rfl, I4⟩, ⟨C5, f5, _, rfl, I5⟩, ⟨C6, f6, _, rfl, I6⟩, ⟨C7, f7, _, rfl, I7⟩, ⟨C8, f8, _, rfl, I8⟩, ⟨C9, f9, _, rfl, I9⟩, ⟨C10, f10, _, rfl, I10⟩, ⟨C11, f11, _, rfl, I11⟩, ⟨C12, f12, _, rfl, I12⟩, ⟨C13, f13, _, rfl, I13⟩, ⟨C14, f14, _, rfl, I14⟩, ⟨C15, f15, _, rfl, I15⟩, ⟨C16, rfl, I16⟩, ⟨C17, rfl, I17⟩, ⟨C18, rfl, I18⟩, ⟨C19, rfl, I19⟩, ⟨C20, rfl, I20⟩, ⟨C21, rfl, I21⟩⟩
  have NC : NamesC mg [C0, C1, C2, C3, C4, C5, C6, C7, C8, C9, C10, C11, C12, C13, C14, C15, C16, C17, C18, C19, C20, C21] := ⟨⟨C0, rfl, PySem.W.mg_of X Gm a0⟩, ⟨C1, rfl, PySem.W.mg_of X Gm a1⟩, ⟨C2, rfl, PySem.W.mg_of X Gm a2⟩, ⟨C3, rfl, PySem.W.mg_of X Gm a3⟩, ⟨C4, rfl, PySem.W.mg_of X Gm a4⟩, ⟨C5, rfl, PySem.W.mg_of X Gm a5⟩, ⟨C6, rfl, PySem.W.mg_of X Gm a6⟩, ⟨C7, rfl, PySem.W.mg_of X Gm a7⟩, ⟨C8, rfl, PySem.W.mg_of X Gm a8⟩, ⟨C9, rfl, PySem.W.mg_of X Gm a9⟩, ⟨C10, rfl, PySem.W.mg_of X Gm a10⟩, ⟨C11, rfl, PySem.W.mg_of X Gm a11⟩, ⟨C12, rfl, PySem.W.mg_of X Gm a12⟩, ⟨C13, rfl, PySem.W.mg_of X Gm a13⟩, ⟨C14, rfl, PySem.W.mg_of X Gm a14⟩, ⟨C15, rfl, PySem.W.mg_of X Gm a15⟩, ⟨C16, rfl, PySem.W.mg_of X Gm a16⟩, ⟨C17, rfl, PySem.W.mg_of X Gm a17⟩, ⟨C18, rfl, PySem.W.mg_of X Gm a18⟩, ⟨C19, rfl, PySem.W.mg_of X Gm a19⟩, ⟨C20, rfl, PySem.W.mg_of X Gm a20⟩, ⟨C21, rfl, PySem.W.mg_of X Gm a21⟩⟩
  have CT : Ct P w K mg base "_law_take" 1 ["bag", "upto"] spTake g1 _ := ⟨ok_take V1 T, PySem.W.mg_of X Gm ga1, gk1, W1⟩
  have CS : Ct P w K mg base "_law_some" 2 ["bag", "things"] spSome g2 _ := ⟨ok_some V2 T CT, PySem.W.mg_of X Gm ga2, gk2, W2⟩
  have CO : Ct P w K mg base "_law_odd" 3 ["bag"] (spOdd C15 "Wrong") g4 _ := ⟨ok_odd V4 CS, PySem.W.mg_of X Gm ga4, gk4, W4⟩
  have GA : FnG false P w K mg base CX0 1 g3 _ ["found", "due"] (spAlike C15 "Wrong" K) := ok_alike V3 T wr
  have CA : CaughtT P w K mg base G C14 C11 C16 := ⟨PySem.W.mg_of X Gm aG, ⟨f14, _, I14, ok_rz1 U14 scI14 rfl (by decide) (by decide)⟩, ⟨f11, _, I11, ok_rz2 U11 scI11 rfl⟩, I16, z1, z2, z3, PK 14 14 C14 C14 rfl rfl, upB_ok B4 16 C16 rfl, PK 16 16 C16 C16 rfl rfl⟩
  have GC : FnG true P w K mg base CX0 3 g7 _ ["value"] (spCaught C15 "Wrong") := ok_caught V7 T CA GA (PySem.W.mg_of X Gm ga3) gk3 W3
  refine ok_law (Cs := [C0, C1, C2, C3, C4, C5, C6, C7, C8, C9, C10, C11, C12, C13, C14, C15, C16, C17, C18, C19, C20, C21]) (CW := C15) (NW := "Wrong") (G := G) rfl V8 ⟨T, ⟨_, _, ⟨ok_bag V0 T, PySem.W.mg_of X Gm ga0, gk0, W0⟩⟩, ⟨_, _, CS⟩, ⟨_, _, CO⟩, ⟨_, _, ⟨ok_with V5 AC, PySem.W.mg_of X Gm ga5, gk5, W5⟩⟩, ⟨_, _, ⟨ok_cls V6 T NC PK EX, PySem.W.mg_of X Gm ga6, gk6, W6⟩⟩,
    ⟨_, _, ⟨GA, PySem.W.mg_of X Gm ga3, gk3, W3⟩⟩, ⟨_, _, ⟨GC, PySem.W.mg_of X Gm ga7, gk7, W7⟩⟩, ⟨_, _, I15⟩, ⟨_, _, _, I13⟩, by decide +kernel, PySem.W.mg_of X Gm aG, EX, F15.ex, fun i C hi h16 => ⟨(cl C (List.mem_of_getElem? hi)).xf, ?nf⟩, fun C hi => by cases hi; exact p11, upB_ok B3, upB_ok B4, beq_iff_eq.mp B5⟩
  match i, h16, hi with
  | 0, _, hi => cases hi; exact n0
  | 1, _, hi => cases hi; exact n1
  | 2, _, hi => cases hi; exact n2
  | 3, _, hi => cases hi; exact n3
  | 4, _, hi => cases hi; exact n4
  | 5, _, hi => cases hi; exact n5
  | 6, _, hi => cases hi; exact n6
  | 7, _, hi => cases hi; exact n7
  | 8, _, hi => cases hi; exact n8
  | 9, _, hi => cases hi; exact n9
  | 10, _, hi => cases hi; exact n10
  | 11, _, hi => cases hi; exact n11
  | 12, _, hi => cases hi; exact n12
  | 13, _, hi => cases hi; exact n13
  | 14, _, hi => cases hi; exact n14
  | 15, _, hi => cases hi; exact n15
  | i + 16, h, _ => exact absurd h (by omega)
end
end KaG
open PySem PySem.W PyProof.Rows
set_option maxRecDepth 100000 in
set_option maxHeartbeats 0 in
theorem PySem.Challenge.cw_goneyet_k11_errors_apart_holds : PySem.Challenge.rw_goneyet_k11_errors_apart.Holds := by
  w_on; o_law; k_head; (case hw => w_witness2)
  k_fill
  refine KaG.walk_G (l := PySem.Challenge.rw_goneyet_k11_errors_apart) (n := 63) (k := 6) (x := "script") (sp := fun K => KaG.spLaw K) rfl (by decide) rfl ⟨rfl, by decide, by decide⟩ (fun w h Y => PySem.W.kIn_of Y) ?F ?S
  case S =>
    intro K H a ns hn hO hS
    exact ⟨a, ns, rfl, hS, hn, fun _ => rfl⟩
  case F =>
    intro w mg fa h KX G hmg
    refine' KaG.all_mk KX G hmg ?babs ?blen ?bint ?brepr ?bisinstance ?brange ?blist ?bValueError ?aG ?a0 ?a1 ?a2 ?a3 ?a4 ?a5 ?a6 ?a7 ?a8 ?a9 ?a10 ?a11 ?a12 ?a13 ?a14 ?a15 ?a16 ?a17 ?a18 ?a19 ?a20 ?a21 ?xL0 ?i0 ?t0 ?l0 ?c0 ?k0 ?r0 ?n0 ?xL1 ?i1 ?t1 ?l1 ?c1 ?k1 ?r1 ?n1 ?xL2 ?i2 ?t2 ?l2 ?c2 ?k2 ?r2 ?n2 ?xL3 ?i3 ?t3 ?l3 ?c3 ?k3 ?r3 ?n3 ?xL4 ?i4 ?t4 ?l4 ?c4 ?k4 ?r4 ?n4 ?xL5 ?i5 ?t5 ?l5 ?c5 ?k5 ?r5 ?n5 ?xL6 ?i6 ?t6 ?l6 ?c6 ?k6 ?r6 ?n6 ?xL7 ?i7 ?t7 ?l7 ?c7 ?k7 ?r7 ?n7 ?xL8 ?i8 ?t8 ?l8 ?c8 ?k8 ?r8 ?n8 ?xL9 ?i9 ?t9 ?l9 ?c9 ?k9 ?r9 ?n9 ?xL10 ?i10 ?t10 ?l10 ?c10 ?k10 ?r10 ?n10 ?xL11 ?i11 ?t11 ?l11 ?c11 ?k11 ?r11 ?n11 ?p11 ?xL12 ?i12 ?t12 ?l12 ?c12 ?k12 ?r12 ?n12 ?xL13 ?i13 ?t13 ?l13 ?c13 ?k13 ?r13 ?n13 ?xL14 ?i14 ?t14 ?l14 ?c14 ?k14 ?r14 ?n14 ?xL15 ?i15 ?t15 ?l15 ?c15 ?k15 ?r15 ?n15 ?ga0 ?gl0 ?gc0 ?gk0 ?ga1 ?gl1 ?gc1 ?gk1 ?ga2 ?gl2 ?gc2 ?gk2 ?ga3 ?gl3 ?gc3 ?gk3 ?ga4 ?gl4 ?gc4 ?gk4 ?ga5 ?gl5 ?gc5 ?gk5 ?ga6 ?gl6 ?gc6 ?gk6 ?ga7 ?gl7 ?gc7 ?gk7 ?ga8 ?gl8 ?gc8 ?gk8 ?B1 ?B2 ?B3 ?B4 ?B5 ?B6 ?B7 ?B8
    (case babs => k_is)
    (case blen => k_is)
    (case bint => k_is)
    (case brepr => k_is)
    (case bisinstance => k_is)
    (case brange => k_is)
    (case blist => k_is)
    (case bValueError => k_is)
    (case aG => k_is)
    (case a0 => k_is)
    (case a1 => k_is)
    (case a2 => k_is)
    (case a3 => k_is)
    (case a4 => k_is)
    (case a5 => k_is)
    (case a6 => k_is)
    (case a7 => k_is)
    (case a8 => k_is)
    (case a9 => k_is)
    (case a10 => k_is)
    (case a11 => k_is)
    (case a12 => k_is)
    (case a13 => k_is)
    (case a14 => k_is)
    (case a15 => k_is)
    (case a16 => k_is)
    (case a17 => k_is)
    (case a18 => k_is)
    (case a19 => k_is)
    (case a20 => k_is)
    (case a21 => k_is)
    (case xL0 => k_is)
    (case i0 => k_is)
    (case t0 => k_is)
    (case l0 => k_is)
    (case c0 => k_is)
    (case k0 => k_is)
    (case r0 => decide +kernel)
    (case n0 => k_is)
    (case xL1 => k_is)
    (case i1 => k_is)
    (case t1 => k_is)
    (case l1 => k_is)
    (case c1 => k_is)
    (case k1 => k_is)
    (case r1 => decide +kernel)
    (case n1 => k_is)
    (case xL2 => k_is)
    (case i2 => k_is)
    (case t2 => k_is)
    (case l2 => k_is)
    (case c2 => k_is)
    (case k2 => k_is)
    (case r2 => decide +kernel)
    (case n2 => k_is)
    (case xL3 => k_is)
    (case i3 => k_is)
    (case t3 => k_is)
    (case l3 => k_is)
    (case c3 => k_is)
    (case k3 => k_is)
    (case r3 => decide +kernel)
    (case n3 => k_is)
    (case xL4 => k_is)
    (case i4 => k_is)
    (case t4 => k_is)
    (case l4 => k_is)
    (case c4 => k_is)
    (case k4 => k_is)
    (case r4 => decide +kernel)
    (case n4 => k_is)
    (case xL5 => k_is)
    (case i5 => k_is)
    (case t5 => k_is)
    (case l5 => k_is)
    (case c5 => k_is)
    (case k5 => k_is)
    (case r5 => decide +kernel)
    (case n5 => k_is)
    (case xL6 => k_is)
    (case i6 => k_is)
    (case t6 => k_is)
    (case l6 => k_is)
    (case c6 => k_is)
    (case k6 => k_is)
    (case r6 => decide +kernel)
    (case n6 => k_is)
    (case xL7 => k_is)
    (case i7 => k_is)
    (case t7 => k_is)
    (case l7 => k_is)
    (case c7 => k_is)
    (case k7 => k_is)
    (case r7 => decide +kernel)
    (case n7 => k_is)
    (case xL8 => k_is)
    (case i8 => k_is)
    (case t8 => k_is)
    (case l8 => k_is)
    (case c8 => k_is)
    (case k8 => k_is)
    (case r8 => decide +kernel)
    (case n8 => k_is)
    (case xL9 => k_is)
    (case i9 => k_is)
    (case t9 => k_is)
    (case l9 => k_is)
    (case c9 => k_is)
    (case k9 => k_is)
    (case r9 => decide +kernel)
    (case n9 => k_is)
    (case xL10 => k_is)
    (case i10 => k_is)
    (case t10 => k_is)
    (case l10 => k_is)
    (case c10 => k_is)
    (case k10 => k_is)
    (case r10 => decide +kernel)
    (case n10 => k_is)
    (case xL11 => k_is)
    (case i11 => k_is)
    (case t11 => k_is)
    (case l11 => k_is)
    (case c11 => k_is)
    (case k11 => k_is)
    (case r11 => decide +kernel)
    (case n11 => k_is)
    (case p11 => k_is)
    (case xL12 => k_is)
    (case i12 => k_is)
    (case t12 => k_is)
    (case l12 => k_is)
    (case c12 => k_is)
    (case k12 => k_is)
    (case r12 => decide +kernel)
    (case n12 => k_is)
    (case xL13 => k_is)
    (case i13 => k_is)
    (case t13 => k_is)
    (case l13 => k_is)
    (case c13 => k_is)
    (case k13 => k_is)
    (case r13 => decide +kernel)
    (case n13 => k_is)
    (case xL14 => k_is)
    (case i14 => k_is)
    (case t14 => k_is)
    (case l14 => k_is)
    (case c14 => k_is)
    (case k14 => k_is)
    (case r14 => decide +kernel)
    (case n14 => k_is)
    (case xL15 => k_is)
    (case i15 => k_is)
    (case t15 => k_is)
    (case l15 => k_is)
    (case c15 => k_is)
    (case k15 => k_is)
    (case r15 => decide +kernel)
    (case n15 => k_is)
    (case ga0 => k_is)
    (case gl0 => k_is)
    (case gc0 => k_is)
    (case gk0 => k_is)
    (case ga1 => k_is)
    (case gl1 => k_is)
    (case gc1 => k_is)
    (case gk1 => k_is)
    (case ga2 => k_is)
    (case gl2 => k_is)
    (case gc2 => k_is)
    (case gk2 => k_is)
    (case ga3 => k_is)
    (case gl3 => k_is)
    (case gc3 => k_is)
    (case gk3 => k_is)
    (case ga4 => k_is)
    (case gl4 => k_is)
    (case gc4 => k_is)
    (case gk4 => k_is)
    (case ga5 => k_is)
    (case gl5 => k_is)
    (case gc5 => k_is)
    (case gk5 => k_is)
    (case ga6 => k_is)
    (case gl6 => k_is)
    (case gc6 => k_is)
    (case gk6 => k_is)
    (case ga7 => k_is)
    (case gl7 => k_is)
    (case gc7 => k_is)
    (case gk7 => k_is)
    (case ga8 => k_is)
    (case gl8 => k_is)
    (case gc8 => k_is)
    (case gk8 => k_is)
    (case B1 => first | kernel_rfl | decide +kernel)
    (case B2 => first | kernel_rfl | decide +kernel)
    (case B3 => first | kernel_rfl | decide +kernel)
    (case B4 => first | kernel_rfl | decide +kernel)
    (case B5 => first | kernel_rfl | decide +kernel)
    (case B6 => first | kernel_rfl | decide +kernel)
    (case B7 => first | kernel_rfl | decide +kernel)
    (case B8 => first | kernel_rfl | decide +kernel)
