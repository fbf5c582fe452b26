import PyProof.Rows.All
import Wide.All
import OpenK.AllK
import Wide.FinOn
import PyProof.EqAt
import PyProof.EqKinds
import PyProof.TupleCall
import HandS.ForMost
import HandS.ForExc
import HandS.Gcd
import HandS.Wide
import HandS.Style
import HandS.Flow
import HandS.ExcIs
import KE.RegKIsAll
import HandS.Zip0
import PyProof.EnumIter
import PyProof.StrLoop
import PyProof.EnumFor
import PyProof.EnumMake
import PyProof.ListStr
import PyProof.SumWalkG
import PyProof.WalksMore
import PyProof.TupleOfStr
import HandS.IsInst
import HandS.Text
import HandS.Strs
import HandS.StrMore
import HandS.Replace
import PySem.Challenge.RW_veiledchains_k04_whole_plain_chains_and
set_option Elab.async false
set_option linter.all false
set_option maxHeartbeats 4000000
set_option maxRecDepth 100000
/-! VB1: defs that show data (repr): the promise of a def where no repr is under way further up. -/
namespace VB
open PySem PySem.Spec PyProof.Rows L2
/-! ### promises of defs that call repr: nothing is being shown around them -/
abbrev Gu (A : Around) : Prop := A.guards = some []
structure FnG (P : Program) (w : World) (K : PySem.W.Frag) (mg : Str → Option Value) (base : Heap) (CX : CXT) (k : Nat)
    (f : Addr) (fd : FuncData) (ps : List Str) (sp : Sp) : Prop where
  len : ∀ vs H Q E, sp vs H Q E → vs.length = ps.length
  run : ∀ (A : Around) (out : List Env) (s : Shared) (H : Hp) (args : Args) (us : List Value) (vs : List V) (Q : VK) (E : XK),
    Gu A → Room k A → Env0 P w K mg base A out s H → BindsTo s fd args (ps.zip us) → Vals vs us → sp vs H Q E →
    codeAny (model P w) A (.call (.ref f) args) (CR CX out P w H s Q E) s
section
variable {P : Program} {w : World} {K : PySem.W.Frag} {mg : Str → Option Value} {base : Heap} {CX : CXT} {j k : Nat}
  {f : Addr} {fd : FuncData} {ps : List Str} {sp : Sp}
theorem FnG.of (F : FnOk P w K mg base CX k f fd ps sp) : FnG P w K mg base CX k f fd ps sp :=
  ⟨F.len, fun A out s H args us vs Q E _ => F.run A out s H args us vs Q E⟩
theorem FnG.mono (F : FnG P w K mg base CX j f fd ps sp) (h : j ≤ k) : FnG P w K mg base CX k f fd ps sp :=
  ⟨F.len, fun A out s H args us vs Q E g r => F.run A out s H args us vs Q E g (r.mono h)⟩
end
/-- one entry of a def: its body's reading at this very entry -/
theorem enter {CX : CXT} {P : Program} {w : World} {K : PySem.W.Frag} {mg : Str → Option Value} {base : Heap} {k : Nat} {f : Addr}
    {nm qual : Str} {params : Arguments} {body : List Stmt} {sc : Scope} {dV kV doc pm cdv ct oc : Value} {an od : Option Addr}
    {osl : Array (Option Value)} {N ps : List Str} {A : Around} {out : List Env} {s : Shared} {H : Hp} {args : Args} {us : List Value} {vs : List V} {Q : VK} {E : XK}
    (lk : K.lookup f = some ⟨oc, od, .func (PySem.W.fnOf nm qual params body sc dV kV doc pm an cdv ct), osl⟩) (hcd : PySem.W.codeIn K cdv qual = true) (S : FnScope N ps sc)
    (hl : vs.length = ps.length) (hr : Room (k + 1) A) (e0 : Env0 P w K mg base A out s H)
    (hb : BindsTo s (PySem.W.fnOf nm qual params body sc dV kV doc pm an cdv ct) args (ps.zip us)) (r : Vals vs us)
    (hq : ∃ t, PSs (cxOf CX P w K mg base N qual sc f cdv A out s H E) body t ∧ t { nx := fun _ H' => Q .non H', rt := Q } (start N vs) H) :
    codeAny (model P w) A (.call (.ref f) args) (CR CX out P w H s Q E) s := by
  obtain ⟨t, ht, hq⟩ := hq
  have old : ∀ b o, base.get? b = some o → s.heap.get? b = some o := fun b o z => (e0.bs b o z).1
  have KX : K.In s.heap := e0.mod.kin.keeps old
  have kinds : ∀ y ∈ ps.zip us, sc.names.lookup y.1 = some .local ∨
      (sc.names.lookup y.1 = some .cell ∧ ((cellsFrom (s.heap.objs.size + 1) sc.names []).lookup y.1).isSome = true) := by
    intro y hy
    obtain ⟨n, v⟩ := y
    rcases S.par n (List.of_mem_zip hy).1 with q | q
    · exact .inl q
    · exact .inr ⟨q, PySem.W.cellsFrom_some _ _ _ (.inl q)⟩
  refine codeAny_call_function hr.depth (KX _ _ lk) rfl S.co S.gen rfl (PySem.W.codeRec_of KX hcd) (hb _ _ _ _ ?_)
  refine wpAny_newFunctionEnv_cells S.kind kinds fun env he s1 x => ?_
  subst he
  refine ⟨(e0.mod.nolimit.keeps old).keeps x.toInCall.keep, codeAny_func ?_⟩
  have I := inv_start (CX := CX) (mg := mg) (E := E) (f := f) (cd := cdv) (qual := qual) S hr.hd e0 hl r x
  refine wpAny_mono (ht.run [] s1 _ H _ I hq) (fun fl s' hs => ?_) fun _ _ z => z
  cases fl with
  | ret u => obtain ⟨v, σ', H', J, rv, q⟩ := hs; exact ⟨v, H', J.os, J.bare, J.base, J.hok, rv, q⟩
  | next => obtain ⟨σ', H', J, q⟩ := hs; exact ⟨.non, H', J.os, J.bare, J.base, J.hok, rfl, q⟩
  | brk => obtain ⟨_, _, _, q⟩ := hs; exact q.elim
  | cont => obtain ⟨_, _, _, q⟩ := hs; exact q.elim
section
variable {P : Program} {w : World} {K : PySem.W.Frag} {mg : Str → Option Value} {base : Heap}
theorem okG {CX : CXT} {x qual : Str} {st : Stmt} {f : Addr} {fd : FuncData} {N ps : List Str} {k : Nat} {sp : Sp} (F : Fun K x qual st f fd) (S : FnScope N ps (defScope st))
    (len : ∀ vs H Q E, sp vs H Q E → vs.length = ps.length)
    (hbody : ∀ (cdv : Value) (A : Around) (out : List Env) (s : Shared) (H : Hp) (vs : List V) (Q : VK) (E : XK),
      Gu (A.deeper (envOfC qual (defScope st) s.heap.objs.size f cdv)) → Room k (A.deeper (envOfC qual (defScope st) s.heap.objs.size f cdv)) → sp vs H Q E →
      ∃ t, PSs (cxOf CX P w K mg base N qual (defScope st) f cdv A out s H E).nox (defBody st) t ∧ t { nx := fun _ H' => Q .non H', rt := Q } (start N vs) H) :
    FnG P w K mg base CX (k + 1) f fd ps sp := by
  obtain ⟨oc, od, kV, doc, pm, an, cdv, ct, osl, rfl, lk, hcd⟩ := F.ex
  refine ⟨len, fun A out s H args us vs Q E g hr e0 hb r hsp => ?_⟩
  refine enter lk hcd S (len _ _ _ _ hsp) hr e0 hb r ?_
  obtain ⟨t, h, q⟩ := hbody cdv A out s H vs Q E g (hr.deeper _) hsp
  exact ⟨t, h.nox, q⟩
end

/-! ### calls: positional and by keywords, E may lean on the slots (a try around) -/
/-- no exception is let out -/
theorem passN {X : Cx} (σ : L2.St) : PassesAt (L2.CX X.prog X.w) X σ E0 := fun pins H s e s' I c => passL pins σ H s e s' I c
/-- what is wished of a call's arguments: gV puts them in the parameters' order -/
def tCK (sp : Sp) (gV : List V → List V → List V) (E : L2.St → XK) (t tk : TA) : TE := fun σ H Q => t σ H fun vs H1 => tk σ H1 fun zs H2 => sp (gV vs zs) H2 Q (E σ)
section
variable {X : Cx} {k : Nat} {f : Addr} {fd : FuncData} {ps ks : List Str} {sp : Sp} {E : L2.St → XK} {x : Str} {p pos : Pos}
  {e : Expr} {es : List Expr} {kws : List Keyword} {t tk : TA} {g : List Value → List Value → List Value} {gV : List V → List V → List V}
abbrev FG (P : Program) (w : World) (K : PySem.W.Frag) (mg : Str → Option Value) (base : Heap) := FnG P w K mg base (L2.CX P w)
theorem runG {pins : List (Addr × Obj)} {σ : L2.St} {H : Hp} {s : Shared} {Q : VK} {us ws : List Value} {vs zs : List V} (F : FG X.prog X.w X.K X.mg X.base k f fd ps sp) (gu : Gu X.A) (hr : Room k X.A)
    (hb : KBinds X.K fd ps ks g gV) (hx : PassesAt (L2.CX X.prog X.w) X σ (E σ)) (I : Inv X pins σ H s) (r : Vals vs us) (rz : Vals zs ws) (h : sp (gV vs zs) H Q (E σ)) :
    wpAny (model X.prog X.w) X.A (call (.ref f) us (ks.zip ws)) (EP X pins σ Q) X.xe s := by
  have r2 := hb.rel r rz
  have hl : (g us ws).length = ps.length := r2.length ▸ F.len _ _ _ _ h
  refine wpAny_call (codeAny_mono (F.run X.A X.stack s H ⟨us, ks.zip ws⟩ _ _ Q (E σ) gu hr I.env0 (hb.to s us ws I.kIn hl) r2 h) fun r s' hq => ?_)
  cases r with
  | error e => exact hx pins H s e s' I hq
  | ok fl =>
    cases fl with
    | ret u => exact I.after hq
    | next => exact hq.elim
    | brk => exact hq.elim
    | cont => exact hq.elim
/-- positional arguments alone: gV is the first list -/
theorem kb_pos (hb : Binds X.K fd ps []) : KBinds X.K fd ps [] (fun us _ => us) (fun vs _ => vs) where
  to := fun s us ws hK hl => by
    have z := hb s us hK (by rw [List.append_nil]; exact hl)
    rw [List.append_nil] at z
    exact z
  rel := fun r _ => r
/-- f(e, ..) -/
theorem pe_f (F : FG X.prog X.w X.K X.mg X.base k f fd ps sp) (gu : Gu X.A) (hr : Room k X.A) (hm : X.mg x = some (.ref f)) (hk : PySem.W.keepIn X.K (.ref f) = true)
    (hb : Binds X.K fd ps []) (hx : ∀ σ, PassesAt (L2.CX X.prog X.w) X σ (E σ)) (ha : PA X (e :: es) t) (hg : Gl X x := by rfl) (hdb : (x == ("__debug__" : Str)) = false := by decide)
    (he : starEach (e :: es) X.env = (false, eval e X.env) :: starEach es X.env := by rfl) (hpl : (backTo pos (starEach es X.env)).any (·.1) = false := by rfl) :
    PE X (.Call (.Name x p) (e :: es) [] pos) (tCallS sp E t) := by
  constructor
  intro pins s σ H Q I h
  refine wpAny_Call_Name_kw (ld_glob I hg hm (PySem.W.callWith_K (h₀ := X.base) I.ok.mod.kin hk (thn (ha.run pos pins s σ H _ I h) fun us s1 z => ?_) he hpl) hdb)
  obtain ⟨vs, H1, I1, r, q⟩ := z
  exact ⟨I1.kIn, runG (ks := []) (ws := []) (zs := []) F gu hr (kb_pos hb) (hx σ) I1 r .nil q⟩
/-- f() -/
theorem pe_f0 (F : FG X.prog X.w X.K X.mg X.base k f fd ps sp) (gu : Gu X.A) (hr : Room k X.A) (hm : X.mg x = some (.ref f)) (hk : PySem.W.keepIn X.K (.ref f) = true)
    (hb : Binds X.K fd ps []) (hx : ∀ σ, PassesAt (L2.CX X.prog X.w) X σ (E σ)) (hg : Gl X x := by rfl) (hdb : (x == ("__debug__" : Str)) = false := by decide) :
    PE X (.Call (.Name x p) [] [] pos) (tCallS sp E tNil) := by
  constructor
  intro pins s σ H Q I h
  refine wpAny_Call_Name_kw (ld_glob I hg hm (PySem.W.callWith_K0 I.kIn hk ?_) hdb)
  exact runG (ks := []) (us := []) (ws := []) (zs := []) F gu hr (kb_pos hb) (hx σ) I .nil .nil h
/-- f(k = e, ..) -/
theorem pe_k0 (F : FG X.prog X.w X.K X.mg X.base k f fd ps sp) (gu : Gu X.A) (hr : Room k X.A) (hm : X.mg x = some (.ref f)) (hk : PySem.W.keepIn X.K (.ref f) = true)
    (hb : KBinds X.K fd ps ks g gV) (hx : ∀ σ, PassesAt (L2.CX X.prog X.w) X σ (E σ)) (hkw : PK X kws tk) (hg : Gl X x := by rfl)
    (hall : (backToKw pos (keywordEach kws X.env)).all (·.1.isSome) = true := by rfl) (hks : (backToKw pos (keywordEach kws X.env)).filterMap (·.1) = ks := by rfl)
    (hdb : (x == ("__debug__" : Str)) = false := by decide)
    (hpl : ((backTo pos (starEach [] X.env)).any (·.1) || (backToKw pos (keywordEach kws X.env)).any (·.1.isNone)) = false := by rfl) :
    PE X (.Call (.Name x p) [] kws pos) (tCK sp gV E tNil tk) := by
  constructor
  intro pins s σ H Q I h
  refine wpAny_Call_Name_kw (ld_glob I hg hm (PySem.W.callWith_KW0 (h₀ := X.base) I.ok.mod.kin hk hall ?_ hpl) hdb)
  refine thn (hkw.run pos pins s σ H _ I h) fun ws s2 z => ?_
  obtain ⟨zs, H2, I2, rz, q⟩ := z
  rw [hks]
  exact ⟨I2.kIn, runG (us := []) F gu hr hb (hx σ) I2 .nil rz q⟩
/-- f(e, .., k = v, ..) -/
theorem pe_k (F : FG X.prog X.w X.K X.mg X.base k f fd ps sp) (gu : Gu X.A) (hr : Room k X.A) (hm : X.mg x = some (.ref f)) (hk : PySem.W.keepIn X.K (.ref f) = true)
    (hb : KBinds X.K fd ps ks g gV) (hx : ∀ σ, PassesAt (L2.CX X.prog X.w) X σ (E σ)) (ha : PA X (e :: es) t) (hkw : PK X kws tk) (hg : Gl X x := by rfl)
    (hall : (backToKw pos (keywordEach kws X.env)).all (·.1.isSome) = true := by rfl) (hks : (backToKw pos (keywordEach kws X.env)).filterMap (·.1) = ks := by rfl)
    (hdb : (x == ("__debug__" : Str)) = false := by decide) (he : starEach (e :: es) X.env = (false, eval e X.env) :: starEach es X.env := by rfl)
    (hpl : ((backTo pos (starEach (e :: es) X.env)).any (·.1) || (backToKw pos (keywordEach kws X.env)).any (·.1.isNone)) = false := by rfl) :
    PE X (.Call (.Name x p) (e :: es) kws pos) (tCK sp gV E t tk) := by
  constructor
  intro pins s σ H Q I h
  refine wpAny_Call_Name_kw (ld_glob I hg hm ?_ hdb)
  refine PySem.W.callWith_KW (h₀ := X.base) I.ok.mod.kin hk hall (thn (ha.run pos pins s σ H _ I h) fun us s1 z1 => ?_) hpl he
  obtain ⟨vs, H1, I1, r, q1⟩ := z1
  refine thn (hkw.run pos pins s1 σ H1 _ I1 q1) fun ws s2 z => ?_
  obtain ⟨zs, H2, I2, rz, q⟩ := z
  rw [hks]
  exact ⟨I2.kIn, runG F gu hr hb (hx σ) I2 r rz q⟩
end
/-- a body's entry, exceptions allowed -/
theorem okX {P : Program} {w : World} {K : PySem.W.Frag} {mg : Str → Option Value} {base : Heap} {x qual : Str} {st : Stmt} {f : Addr} {fd : FuncData} {N ps : List Str} {k : Nat} {sp : Sp}
    (F : Fun K x qual st f fd) (S : FnScope N ps (defScope st)) (len : ∀ vs H Q E, sp vs H Q E → vs.length = ps.length)
    (hbody : ∀ (cdv : Value) (A : Around) (out : List Env) (s : Shared) (H : Hp) (vs : List V) (Q : VK) (E : XK),
      Gu (A.deeper (envOfC qual (defScope st) s.heap.objs.size f cdv)) → Room k (A.deeper (envOfC qual (defScope st) s.heap.objs.size f cdv)) → sp vs H Q E →
      ∃ t, PSs (cxOf (L2.CX P w) P w K mg base N qual (defScope st) f cdv A out s H E) (defBody st) t ∧ t { nx := fun _ H' => Q .non H', rt := Q } (start N vs) H) :
    FG P w K mg base (k + 1) f fd ps sp := by
  obtain ⟨oc, od, kV, doc, pm, an, cdv, ct, osl, rfl, lk, hcd⟩ := F.ex
  refine ⟨len, fun A out s H args us vs Q E g hr e0 hb r hsp => ?_⟩
  exact enter lk hcd S (len _ _ _ _ hsp) hr e0 hb r (hbody cdv A out s H vs Q E g (hr.deeper _) hsp)
/-- X() of an own exception class without an __init__ of its own -/
theorem pmk_own0 {X : Cx} {C : Addr} {bmB : List Value} {B newId initId : String} {x : Str} {p pos : Pos} (F : ExcBaseFacts B newId initId bmB) (q : PySem.W.excIn X.K C bmB newId = true)
    (gC : X.mg x = some (.ref C)) (kC : PySem.W.keepIn X.K (.ref C) = true) (r : Raises X (.ref C)) (hg : Gl X x := by rfl) (hdb : (x == ("__debug__" : Str)) = false := by decide) :
    PMk X (.Call (.Name x p) [] [] pos) (fun _ H Q => Q (.ref C) none H) := by
  intro pins s σ H Q I h
  refine wpAny_Call_Name_kw (ld_glob I hg gC (PySem.W.callWith_K0 I.kIn kC ?_) hdb)
  show wpAny _ _ (call (.ref C) []) _ _ _
  obtain ⟨bm, N, nm, qn, bs, hdct, sn, sub, ab, col, dd, k0, k1, k2, k3, k5, mN, hC, hN, hni, T⟩ := exc_obj I.kIn q
  refine wpAny_call_exc_subT F T hC hN hni (fun h' e hm => ?_) (Nat.zero_le _)
  exact mk_of I hm r h (I.hok.gone hm.new)
/-! ### the law's own call -/
section
variable {P : Program} {w : World} {K : PySem.W.Frag} {mg mb : Str → Option Value} {k : Nat} {fa a : Addr} {fd : FuncData} {x : Str} {sp : Sp} {s1 : Shared} {vs : List Value} {ns : List Int}
theorem top_at {Hh : Hp} (KX : K.In s1.heap) (hns : s1.heap.Ns mainGlobals mg) (hb : s1.heap.Ns builtinsNs mb) (hbb : ∀ y : Str, y ≠ "__name__" → mb y = bootBuiltins y) (hlim : s1.heap.NoLimit) (hg : s1.gens = #[])
    (ha : s1.heap.get? a = some { cls := .type "list", data := .seq vs.toArray }) (hr : Room k callerA)
    (F : ∀ base : Heap, K.In base → base.Ns mainGlobals mg → FG P w K mg base k fa fd [x] sp) (hbind : ∀ (s : Shared) (u : Value), BindsTo s fd ⟨[u], []⟩ [(x, u)])
    (hO : Only Hh) (hok : HOk P w Hh s1.heap) (own : ∀ b, Hh b ≠ none → b = a) (out : Hh a ≠ none → K.lookup a = none)
    (hsp : sp [.ref a] Hh (fun v _ => v = .bl true) fun _ _ _ => False) :
    codeAny (model P w) callerA (.call (.ref fa) ⟨[.ref a], []⟩) (fun r s' => r = .ok (.ret (.bool true)) ∧ OldK s1.heap s'.heap ∧ s'.os = s1.os ∧ AllBare s'.gens) s1 := by
  have noD : ∀ {b : Addr} {o : Obj} {es : Array DictEntry} {ep : Nat}, s1.heap.get? b = some o → o.data = .dict es ep → Hh b = none := by
    intro b o es ep e d
    refine Classical.byContradiction fun z => ?_
    have e' := own b z
    subst e'
    rw [ha] at e
    cases e
    exact nomatch (show Data.seq vs.toArray _ = Data.dict es ep from d)
  have hid : ∀ {b : Addr} {m : Str → Option Value}, s1.heap.Ns b m → (hidT s1.heap Hh).Ns b m := by
    intro b m z
    obtain ⟨o, es, ep, e, d, r⟩ := z
    exact ⟨o, es, ep, hidT_get e (noD e d), d, r⟩
  have KH : K.In (hidT s1.heap Hh) := by
    intro b o e
    refine hidT_get (KX b o e) (Classical.byContradiction fun z => ?_)
    have e' := own b z
    subst e'
    rw [out z] at e
    cases e
  obtain ⟨mc, l1, l2⟩ := hlim
  have hM : Mod K mg (hidT s1.heap Hh) := ⟨KH, hid hns, ⟨mb, hid hb, hbb⟩, ⟨mc, hid l1, l2⟩⟩
  have e0 : Env0 P w K mg (hidT s1.heap Hh) callerA [] s1 Hh :=
    ⟨rfl, hM, fun b o e => of_hidT e, Nat.le_of_eq (hidT_size _ _), trivial, (fun b z => absurd (show b ∈ ([] : List Addr) from z) List.not_mem_nil), hok, .of_eq hg⟩
  refine codeAny_mono ((F _ KH (hid hns)).run callerA [] s1 Hh ⟨[.ref a], []⟩ [.ref a] [.ref a] _ _ rfl hr e0 (hbind s1 (.ref a)) (.cons rfl .nil) hsp) fun r s' h => ?_
  cases r with
  | error e =>
    obtain ⟨_, _, _, _, _, _, _, _, _, _, _, _, z⟩ := h
    exact z.elim
  | ok fl =>
    cases fl with
    | next => exact h.elim
    | brk => exact h.elim
    | cont => exact h.elim
    | ret u =>
      obtain ⟨v, H', os, bare, un, hok', rv, q⟩ := h
      obtain rfl : v = .bl true := q
      obtain rfl : u = Value.bool true := rv
      refine ⟨rfl, OldK.of_keep fun b o e => ?_, os, bare⟩
      cases z : Hh b with
      | none => exact un.keep b o e z (fun y => absurd (show b ∈ ([] : List Addr) from y) List.not_mem_nil) List.not_mem_nil
      | some u =>
        rcases hO b with y | ⟨ob, xs, y⟩
        · rw [z] at y
          cases y
        · obtain ⟨e1, _⟩ := hok b _ y
          obtain ⟨e2, _⟩ := hok' b _ (un.frzs b ob _ y)
          rw [e] at e1
          cases e1
          exact e2
end
/-- the goal behind k_head -/
theorem walkG {l : PySem.W.OpenLaw} {n k : Nat} {q : Program} {loose : List Str} {XP : (Str → Option Value) → Heap → Prop} {YP : World → Heap → Prop} {d : DefRec} {K : Params → PySem.W.Frag} {sp : PySem.W.Frag → Sp} {x : Str}
    (hn : l.most = some n) (hn2 : n ≤ sizeLine) (hdf : d.params.defaults = []) (hr : Room k callerA)
    (hY : ∀ (w : World) (h : Heap), YP w h → (K w.params).In h)
    (F : ∀ (w : World) (mg : Str → Option Value) (fa : Addr) (h : Heap), (K w.params).In h → h.Ns mainGlobals mg → mg d.name = some (.ref fa) →
      ∃ fd : FuncData, (∀ (s : Shared) (u : Value), BindsTo s fd ⟨[u], []⟩ [(x, u)]) ∧
        ∀ base : Heap, (K w.params).In base → base.Ns mainGlobals mg → FG l.prog w (K w.params) mg base k fa fd [x] (sp (K w.params)))
    (hsp : ∀ (K : PySem.W.Frag) (H : Hp) (a : Addr) (ns : List Int), ns.length ≤ n → Only H → SqL K H a (ns.map V.int) → sp K [.ref a] H (fun v _ => v = .bl true) fun _ _ _ => False) :
    PySem.W.WalkO q loose XP YP l.row.toRowW d [] (fun f vs => PySem.call f vs) := by
  refine Att.attach_call hn hdf fun w s0 s1 mg mb fa o pm cd doc a vs ns G Y ho hd hcd hmg hobj hints hlen hg => ?_
  have KX := hY w _ Y
  obtain ⟨fd, hb, hF⟩ := F w mg fa _ KX G.T.g hmg
  have rv := vals_ints hints
  have lenV := hints.length
  have fits : ns.length ≤ sizeLine := Nat.le_trans hlen hn2
  cases hk : (K w.params).lookup a with
  | some ob =>
    have e := KX a ob hk
    rw [hobj] at e
    cases e
    refine top_at (Hh := fun _ => none) KX G.T.g G.T.b G.T.builtins G.T.nolimit hg hobj hr hF hb (fun _ => .inl rfl) (fun b u z => nomatch (show (none : Option HO) = some u from z)) (fun b z => absurd rfl z) (fun z => absurd rfl z) ?_
    exact hsp _ _ a ns hlen (fun _ => .inl rfl) (.inr ⟨_, vs.toArray, _, hk, rfl, rfl, rfl, by rw [List.size_toArray, lenV]; exact fits, by simpa using rv⟩)
  | none =>
    let Hh : Hp := fun b => if b = a then some (.frz { cls := .type "list", data := .seq vs.toArray } (.lst (ns.map V.int))) else none
    have at_a : Hh a = some (.frz { cls := .type "list", data := .seq vs.toArray } (.lst (ns.map V.int))) := if_pos rfl
    have off : ∀ b, b ≠ a → Hh b = none := fun b hb => if_neg hb
    have hO : Only Hh := fun b => by
      by_cases hb : b = a
      · exact .inr ⟨_, _, hb ▸ at_a⟩
      · exact .inl (off b hb)
    refine top_at (Hh := Hh) KX G.T.g G.T.b G.T.builtins G.T.nolimit hg hobj hr hF hb hO (fun b u z => ?_) (fun b z => Classical.byContradiction fun y => z (off b y)) (fun _ => hk) (hsp _ _ a ns hlen hO (.inl (.inr ⟨_, at_a⟩)))
    by_cases hb : b = a
    · subst hb
      rw [at_a] at z
      cases z
      exact ⟨hobj, by rw [List.length_map]; exact fits, vs, _, rv, hobj⟩
    · rw [off b hb] at z
      cases z
end VB

/-! VB2: repr of data -/
namespace VB
open PySem PySem.Spec PyProof.Rows L2
mutual
theorem dp_nodict {K : PySem.W.Frag} {H : Hp} : ∀ (d : PyData) (v : V), Dp K H v d → d.hasDict = false
  | .none, _, _ => by simp only [PyData.hasDict]
  | .bool _, _, _ => by simp only [PyData.hasDict]
  | .int _, _, _ => by simp only [PyData.hasDict]
  | .str _, _, _ => by simp only [PyData.hasDict]
  | .list ds, _, h => by
    cases h with
    | lst _ ha => simp only [PyData.hasDict]; exact dpa_nodict ds _ ha
  | .tuple ds, _, h => by
    cases h with
    | tup _ ha => simp only [PyData.hasDict]; exact dpa_nodict ds _ ha
  | .dict _, _, h => by cases h
theorem dpa_nodict {K : PySem.W.Frag} {H : Hp} : ∀ (ds : List PyData) (vs : List V), DpAll K H vs ds → PyData.hasDictAll ds = false
  | [], _, _ => by simp only [PyData.hasDictAll]
  | d :: ds, _, h => by
    cases h with
    | cons h1 h2 => simp only [PyData.hasDictAll, dp_nodict d _ h1, dpa_nodict ds _ h2, Bool.or_self]
end
/-- repr(v), v data without dicts -/
def rRepr (K : PySem.W.Frag) : List V → Hp → VK → Prop := fun xs H Q => ∃ v d, xs = [v] ∧ Dp K H v d ∧ d.showable = true ∧ d.shown.length ≤ sizeLine ∧ d.depth < 60 ∧ Q (.str d.shown) H
theorem call_repr {X : Cx} (gu : Gu X.A) (hu : X.A.units + 64 < cLine) : CallR X (.builtin "repr") (rRepr X.K) := by
  intro pins s σ H xs us Q I r h
  obtain ⟨v, d, rfl, hd, hs, hz, hdep, q⟩ := h
  cases r with
  | cons rv rn =>
    cases rn
    rename_i u
    cases hd with
    | non =>
      cases rv
      refine PySem.P.repr_of_none ⟨.str _, H, I.tok _, ⟨_, rfl⟩, ?_⟩
      simpa only [PyData.shown] using q
    | bl b =>
      cases rv
      refine PySem.P.repr_of_bool ⟨.str _, H, I.tok _, ⟨_, rfl⟩, ?_⟩
      simpa only [PyData.shown] using q
    | int i =>
      obtain ⟨t, rfl⟩ := rv
      refine PySem.P.repr_of_int (by simpa [PyData.showable] using hs) ⟨.str _, H, I.tok _, ⟨_, rfl⟩, ?_⟩
      simpa only [PyData.shown] using q
    | str x =>
      obtain ⟨t, rfl⟩ := rv
      refine PySem.P.repr_of_str ⟨.str _, H, I.tok _, ⟨_, rfl⟩, ?_⟩ (by simpa only [PyData.shown] using hz)
      simpa only [PyData.shown] using q
    | lst h1 h2 =>
      have hdd := Dp.lst h1 h2
      have nd := dp_nodict _ _ hdd
      cases rv
      obtain ⟨as, hr⟩ := Dp.reads I _ _ _ hdd rfl
      exact PySem.repr_of_reads' hr hs (fun z => by rw [nd] at z; cases z) gu (by omega) (fun _ _ z => z) (fun h' u tk hk => ⟨.str _, H, I.kept hk, ⟨_, rfl⟩, q⟩) hz
    | tup h1 h2 =>
      have hdd := Dp.tup h1 h2
      have nd := dp_nodict _ _ hdd
      cases rv
      obtain ⟨as, hr⟩ := Dp.reads I _ _ _ hdd rfl
      exact PySem.repr_of_reads' hr hs (fun z => by rw [nd] at z; cases z) gu (by omega) (fun _ _ z => z) (fun h' u tk hk => ⟨.str _, H, I.kept hk, ⟨_, rfl⟩, q⟩) hz
end VB

/-! VB3: defs by their names; readings, one construct after another -/
namespace VB
open PySem PySem.Spec PyProof.Rows L2
/-! ### a def of the top, as it stands -/
structure FnAt (P : Program) (w : World) (K : PySem.W.Frag) (mg : Str → Option Value) (base : Heap) (st : Stmt) (k : Nat) (x : Str) (ps : List Str) (sp : Sp) : Prop where
  ex : ∃ (f : Addr) (fd : FuncData), Fun K x x st f fd ∧ FG P w K mg base k f fd ps sp ∧ mg x = some (.ref f) ∧ Binds K fd ps []
theorem FnAt.mk' {P : Program} {w : World} {K : PySem.W.Frag} {mg : Str → Option Value} {base : Heap} {st : Stmt} {k : Nat} {x : Str} {ps : List Str} {sp : Sp} {f : Addr} {fd : FuncData}
    (F : Fun K x x st f fd) (G : FG P w K mg base k f fd ps sp) (m : mg x = some (.ref f)) (b : Binds K fd ps []) : FnAt P w K mg base st k x ps sp := ⟨⟨f, fd, F, G, m, b⟩⟩
/-- how keywords are put in order, for one def of the text -/
structure KwIs (st : Stmt) (x : Str) (ps ks : List Str) (g : List Value → List Value → List Value) (gV : List V → List V → List V) : Prop where
  to : ∀ (kV doc pm : Value) (an : Option Addr) (cdv ct : Value) (us ws : List Value), (g us ws).length = ps.length →
    bindArgs (PySem.W.fnOf x x (defArgs st) (defBody st) (defScope st) .none kV doc pm an cdv ct) ⟨us, ks.zip ws⟩ = pure (ps.zip (g us ws))
  rel : ∀ {vs : List V} {us : List Value} {zs : List V} {ws : List Value}, Vals vs us → Vals zs ws → Vals (gV vs zs) (g us ws)
section
variable {X : Cx} {k : Nat} {st : Stmt} {ps ks : List Str} {sp : Sp} {E : L2.St → XK} {x : Str} {p pos : Pos}
  {e : Expr} {es : List Expr} {kws : List Keyword} {t tk : TA} {g : List Value → List Value → List Value} {gV : List V → List V → List V}
theorem pe_c (c : FnAt X.prog X.w X.K X.mg X.base st k x ps sp) (gu : Gu X.A) (hr : Room k X.A) (hx : ∀ σ, PassesAt (L2.CX X.prog X.w) X σ (E σ)) (ha : PA X (e :: es) t)
    (hg : Gl X x := by rfl) (hdb : (x == ("__debug__" : Str)) = false := by decide) (he : starEach (e :: es) X.env = (false, eval e X.env) :: starEach es X.env := by rfl)
    (hpl : (backTo pos (starEach es X.env)).any (·.1) = false := by rfl) : PE X (.Call (.Name x p) (e :: es) [] pos) (tCallS sp E t) := by
  obtain ⟨f, fd, F, G, m, b⟩ := c.ex
  exact pe_f G gu hr m F.kp b hx ha hg hdb he hpl
theorem pe_c0 (c : FnAt X.prog X.w X.K X.mg X.base st k x ps sp) (gu : Gu X.A) (hr : Room k X.A) (hx : ∀ σ, PassesAt (L2.CX X.prog X.w) X σ (E σ))
    (hg : Gl X x := by rfl) (hdb : (x == ("__debug__" : Str)) = false := by decide) : PE X (.Call (.Name x p) [] [] pos) (tCallS sp E tNil) := by
  obtain ⟨f, fd, F, G, m, b⟩ := c.ex
  exact pe_f0 G gu hr m F.kp b hx hg hdb
theorem kbinds {K : PySem.W.Frag} {f : Addr} {fd : FuncData} (F : Fun K x x st f fd) (kw : KwIs st x ps ks g gV) : KBinds K fd ps ks g gV := by
  obtain ⟨oc, od, kV, doc, pm, an, cdv, ct, osl, rfl, lk, hcd⟩ := F.ex
  exact ⟨fun s us ws _ hl => .of_eq (kw.to kV doc pm an cdv ct us ws hl), fun r q => kw.rel r q⟩
theorem pe_ck0 (c : FnAt X.prog X.w X.K X.mg X.base st k x ps sp) (kw : KwIs st x ps ks g gV) (gu : Gu X.A) (hr : Room k X.A) (hx : ∀ σ, PassesAt (L2.CX X.prog X.w) X σ (E σ)) (hkw : PK X kws tk)
    (hg : Gl X x := by rfl) (hall : (backToKw pos (keywordEach kws X.env)).all (·.1.isSome) = true := by rfl) (hks : (backToKw pos (keywordEach kws X.env)).filterMap (·.1) = ks := by rfl)
    (hdb : (x == ("__debug__" : Str)) = false := by decide)
    (hpl : ((backTo pos (starEach [] X.env)).any (·.1) || (backToKw pos (keywordEach kws X.env)).any (·.1.isNone)) = false := by rfl) : PE X (.Call (.Name x p) [] kws pos) (tCK sp gV E tNil tk) := by
  obtain ⟨f, fd, F, G, m, b⟩ := c.ex
  exact pe_k0 G gu hr m F.kp (kbinds F kw) hx hkw hg hall hks hdb hpl
theorem pe_ck (c : FnAt X.prog X.w X.K X.mg X.base st k x ps sp) (kw : KwIs st x ps ks g gV) (gu : Gu X.A) (hr : Room k X.A) (hx : ∀ σ, PassesAt (L2.CX X.prog X.w) X σ (E σ)) (ha : PA X (e :: es) t) (hkw : PK X kws tk)
    (hg : Gl X x := by rfl) (hall : (backToKw pos (keywordEach kws X.env)).all (·.1.isSome) = true := by rfl) (hks : (backToKw pos (keywordEach kws X.env)).filterMap (·.1) = ks := by rfl)
    (hdb : (x == ("__debug__" : Str)) = false := by decide) (he : starEach (e :: es) X.env = (false, eval e X.env) :: starEach es X.env := by rfl)
    (hpl : ((backTo pos (starEach (e :: es) X.env)).any (·.1) || (backToKw pos (keywordEach kws X.env)).any (·.1.isNone)) = false := by rfl) : PE X (.Call (.Name x p) (e :: es) kws pos) (tCK sp gV E t tk) := by
  obtain ⟨f, fd, F, G, m, b⟩ := c.ex
  exact pe_k G gu hr m F.kp (kbinds F kw) hx ha hkw hg hall hks hdb he hpl
end
/-! ### // and % of any size, * of any size -/
/-- // by a divisor below 2 ^ 9000, not 0 -/
def CDv (_ j : Int) : Prop := j ≠ 0 ∧ j.natAbs.log2 < 9000
theorem op_dv {X : Cx} : OpR X (binaryOp .FloorDiv) (rI CDv fun i j => .int (i.fdiv j)) := opI fun _ _ _ _ _ _ _ hc q => floordiv_int hc.1 q (.inl (PyProof.noPylong_of_log2 hc.2))
theorem op_ml {X : Cx} : OpR X (binaryOp .Mult) (rI IntMulOk fun i j => .int (i * j)) := opI fun _ _ _ _ _ _ _ hc q => mul_int q hc

/-! ### named rules of calls -/
def rLen (K : PySem.W.Frag) : List V → Hp → VK → Prop := fun xs H Q => ∃ p ys, xs = [.ref p] ∧ (SqL K H p ys ∨ SqT K H p ys) ∧ Q (.int ys.length) H
def rAbs : List V → Hp → VK → Prop := fun xs H Q => ∃ i, xs = [.int i] ∧ Q (.int (if i < 0 then -i else i)) H
def rInt : List V → Hp → VK → Prop := fun xs H Q => (∃ i, xs = [.int i] ∧ Q (.int i) H) ∨ ∃ k, xs = [.bl k] ∧ Q (.int (if k then 1 else 0)) H
def rLenS : List V → Hp → VK → Prop := fun xs H Q => ∃ z : Str, xs = [.str z] ∧ z.length ≤ sizeLine ∧ Q (.int z.length) H
theorem cl_len {X : Cx} : CallR X (.builtin "len") (rLen X.K) := call_len_seq
theorem cl_abs {X : Cx} : CallR X (.builtin "abs") rAbs := call_abs
theorem cl_int {X : Cx} : CallR X (.type "int") rInt := call_int1
/-! ### what a construct wants, by name -/
def bK (R : Bool → Hp → Prop) : VK := fun x H => ∃ k, x = .bl k ∧ R k H
def gK (Q : VK) : V → V → Hp → Prop := fun x y H => ∃ a v, x = .ref a ∧ DGet H a y (some v) ∧ Q v H
def pK (v : V) (S : Hp → Prop) : V → V → Hp → Prop := fun x y H => ∃ a H4, x = .ref a ∧ DPut H a y v H4 ∧ S H4
def twoK (f : V → V → Hp → Prop) : List V → Hp → Prop := fun vs H => ∃ v w, vs = [v, w] ∧ f v w H
def iK (RO : Option Int → Hp → Prop) : VK := fun x H => ∃ i, x = .int i ∧ RO (some i) H
def newT (Q : VK) : List V → Hp → Prop := fun xs H => xs.length ≤ sizeLine ∧ ∀ p, H p = none → Q (.ref p) (upd H p (.tup xs))
def newL (Q : VK) : List V → Hp → Prop := fun xs H => xs.length ≤ sizeLine ∧ ∀ p, H p = none → Q (.ref p) (upd H p (.lst xs))
def ifS (t u : TS) (D : Ends) (σ : L2.St) : Bool → Hp → Prop := fun b H => if b = true then t D σ H else u D σ H
def ifE (ta tb : TE) (σ : L2.St) (Q : VK) : Bool → Hp → Prop := fun b H => if b = true then ta σ H Q else tb σ H Q
def andK (d : TT) (σ : L2.St) (R : Bool → Hp → Prop) : Bool → Hp → Prop := fun b H => if b = true then d σ H R else R false H
def orK (d : TT) (σ : L2.St) (R : Bool → Hp → Prop) : Bool → Hp → Prop := fun b H => if b = true then R true H else d σ H R
def andV (tb : TE) (σ : L2.St) (Q : VK) : VK := fun x H => ∃ c, x = .bl c ∧ if c = true then tb σ H Q else Q (.bl false) H
def orV (tb : TE) (σ : L2.St) (Q : VK) : VK := fun x H => ∃ c, x = .bl c ∧ if c = true then Q (.bl true) H else tb σ H Q
def notV (Q : VK) : VK := fun x H => ∃ c, x = .bl c ∧ Q (.bl (!c)) H
def bmK (K : PySem.W.Frag) (T : String) (f : V → List V → Hp → VK → Prop) (σ : L2.St) (ts : TA) (Q : VK) : VK := fun x H => tyV K T x H ∧ ts σ H fun xs H2 => f x xs H2 Q
/-! ### readings -/
section
variable {σ : L2.St} {H : Hp} {D : Ends} {i j : Nat} {v x y : V} {ta tb te : TE} {t u : TS} {c d : TT} {ts : TA} {Q : VK} {R : Bool → Hp → Prop} {RA : List V → Hp → Prop} {r : R2} {RS : L2.St → Hp → Prop} {b : Bool} {K : PySem.W.Frag}
theorem r_seq (h : t { D with nx := u D } σ H) : tSeq t u D σ H := h
theorem r_next (h : D.nx σ H) : tNext D σ H := h
theorem r_set (h : te σ H fun x H1 => D.nx (σ.set i (some x)) H1) : tAsg te (gName i) D σ H := h
theorem r_par (h : ts σ H (twoK fun v w H1 => D.nx ((σ.set i (some v)).set j (some w)) H1)) : tPar i j ts D σ H := h
theorem r_two {f : V → V → Hp → Prop} (h : f x y H) : twoK f [x, y] H := ⟨x, y, rfl, h⟩
def threeK (f : V → V → V → Hp → Prop) : List V → Hp → Prop := fun vs H => ∃ u v w, vs = [u, v, w] ∧ f u v w H
theorem r_par3 {l : Nat} (h : ts σ H (threeK fun u v w H1 => D.nx (((σ.set i (some u)).set j (some v)).set l (some w)) H1)) : tPar3 i j l ts D σ H := h
theorem r_three {f : V → V → V → Hp → Prop} {z : V} (h : f x y z H) : threeK f [x, y, z] H := ⟨x, y, z, rfl, h⟩
theorem r_ret (h : te σ H D.rt) : tRet te D σ H := h
theorem r_drop (h : te σ H fun _ H1 => D.nx σ H1) : tDrop te D σ H := h
theorem r_if (h : c σ H (ifS t u D σ)) : tIfS c t u D σ H := h
theorem r_ifs (h1 : b = true → t D σ H) (h2 : b = false → u D σ H) : ifS t u D σ b H := by
  cases b with
  | true => exact h1 rfl
  | false => exact h2 rfl
theorem r_yes (e : b = true) (h : t D σ H) : ifS t u D σ b H := r_ifs (fun _ => h) fun z => by rw [e] at z; cases z
theorem r_no (e : b = false) (h : u D σ H) : ifS t u D σ b H := r_ifs (fun z => by rw [e] at z; cases z) fun _ => h
theorem r_ife (h1 : b = true → ta σ H Q) (h2 : b = false → tb σ H Q) : ifE ta tb σ Q b H := by
  cases b with
  | true => exact h1 rfl
  | false => exact h2 rfl
theorem r_ifx (h : c σ H (ifE ta tb σ Q)) : tIf c ta tb σ H Q := h
theorem r_and (h : c σ H (andK d σ R)) : tAnd c d σ H R := h
theorem r_or (h : c σ H (orK d σ R)) : tOr c d σ H R := h
theorem r_andk (h1 : b = true → d σ H R) (h2 : b = false → R false H) : andK d σ R b H := by
  cases b with
  | true => exact h1 rfl
  | false => exact h2 rfl
theorem r_ork (h1 : b = true → R true H) (h2 : b = false → d σ H R) : orK d σ R b H := by
  cases b with
  | true => exact h1 rfl
  | false => exact h2 rfl
theorem r_not (h : c σ H fun b H1 => R (!b) H1) : tNot c σ H R := h
theorem r_andV (h : ta σ H (andV tb σ Q)) : tAndV ta tb σ H Q := h
theorem r_orV (h : ta σ H (orV tb σ Q)) : tOrV ta tb σ H Q := h
theorem r_notV (h : ta σ H (notV Q)) : tNotV ta σ H Q := h
theorem r_nv (h : Q (.bl (!b)) H) : notV Q (.bl b) H := ⟨b, rfl, h⟩
theorem r_av (h1 : b = true → tb σ H Q) (h2 : b = false → Q (.bl false) H) : andV tb σ Q (.bl b) H := ⟨b, rfl, by
  cases b with
  | true => exact h1 rfl
  | false => exact h2 rfl⟩
theorem r_ov (h1 : b = true → Q (.bl true) H) (h2 : b = false → tb σ H Q) : orV tb σ Q (.bl b) H := ⟨b, rfl, by
  cases b with
  | true => exact h1 rfl
  | false => exact h2 rfl⟩
theorem r_var (h : σ[i]? = some (some v)) (q : Q v H) : tVar i σ H Q := ⟨v, h, q⟩
theorem r_c (q : Q v H) : tC v σ H Q := q
theorem r_op (h : ta σ H fun x H1 => tb σ H1 fun y H2 => r x y H2 Q) : tOp r ta tb σ H Q := h
theorem r_un {f : V → Hp → VK → Prop} (h : ta σ H fun x H1 => f x H1 Q) : tUn f ta σ H Q := h
theorem r_I0 {g : Int → Int → V} {a b : Int} (q : Q (g a b) H) : rI0 g (.int a) (.int b) H Q := ⟨a, b, rfl, rfl, q⟩
theorem r_I {C : Int → Int → Prop} {g : Int → Int → V} {a b : Int} (hc : C a b) (q : Q (g a b) H) : rI C g (.int a) (.int b) H Q := ⟨a, b, rfl, rfl, hc, q⟩
theorem r_U {g : Int → V} {a : Int} (q : Q (g a) H) : rU g (.int a) H Q := ⟨a, rfl, q⟩
theorem r_eq (hs : scal x y = true) (q : Q (.bl (decide (x = y))) H) : rEq x y H Q := ⟨hs, q⟩
theorem r_ne (hs : scal x y = true) (q : Q (.bl (!decide (x = y))) H) : rNe x y H Q := ⟨hs, q⟩
theorem r_test (h : te σ H (bK R)) : tTest te σ H R := h
theorem r_tB (h : te σ H (bK R)) : tB te σ H R := h
theorem r_bl (q : R b H) : bK R (.bl b) H := ⟨b, rfl, q⟩
theorem r_tup (h : ts σ H (newT Q)) : tTup ts σ H Q := h
theorem r_lst (h : ts σ H (newL Q)) : tLst ts σ H Q := h
theorem r_newT {xs : List V} (hl : xs.length ≤ 1000) (h : ∀ p, H p = none → Q (.ref p) (upd H p (.tup xs))) : newT Q xs H := ⟨Nat.le_of_lt (small1000 hl), h⟩
theorem r_newL {xs : List V} (hl : xs.length ≤ 1000) (h : ∀ p, H p = none → Q (.ref p) (upd H p (.lst xs))) : newL Q xs H := ⟨Nat.le_of_lt (small1000 hl), h⟩
theorem r_nil (q : RA [] H) : tNil σ H RA := q
theorem r_cons (h : te σ H fun x H1 => ts σ H1 fun xs H2 => RA (x :: xs) H2) : tCons te ts σ H RA := h
theorem r_cb {f : List V → Hp → VK → Prop} (h : ts σ H fun vs H1 => f vs H1 Q) : tCB f ts σ H Q := h
theorem r_call {sp : Sp} {E : L2.St → XK} (h : ts σ H fun vs H1 => sp vs H1 Q (E σ)) : tCallS sp E ts σ H Q := h
theorem r_ck {sp : Sp} {E : L2.St → XK} {gV : List V → List V → List V} {tk : TA} (h : ts σ H fun vs H1 => tk σ H1 fun zs H2 => sp (gV vs zs) H2 Q (E σ)) : tCK sp gV E ts tk σ H Q := h
theorem r_abs {a : Int} (q : Q (.int (if a < 0 then -a else a)) H) : rAbs [.int a] H Q := ⟨a, rfl, q⟩
theorem r_int {a : Int} (q : Q (.int a) H) : rInt [.int a] H Q := .inl ⟨a, rfl, q⟩
theorem r_intb (q : Q (.int (if b then 1 else 0)) H) : rInt [.bl b] H Q := .inr ⟨b, rfl, q⟩
theorem r_len {a : Addr} {xs : List V} (hs : SqL K H a xs ∨ SqT K H a xs) (q : Q (.int xs.length) H) : rLen K [.ref a] H Q := ⟨a, xs, rfl, hs, q⟩
theorem r_dget {td ty : TE} (h : td σ H fun x H1 => ty σ H1 fun y H2 => gK Q x y H2) : tDGet td ty σ H Q := h
theorem r_dput {td ty tv : TE} (h : tv σ H fun v H1 => td σ H1 fun x H2 => ty σ H2 fun y H3 => pK v (fun H4 => D.nx σ H4) x y H3) : sDPut td ty tv D σ H := h
theorem r_gName (h : RS (σ.set i (some v)) H) : gName i v σ H RS := h
theorem r_bm {T : String} {f : V → List V → Hp → VK → Prop} (h : te σ H (bmK K T f σ ts Q)) : tBM K T f te ts σ H Q := h
theorem r_bm0 {T : String} {f : V → List V → Hp → VK → Prop} (h : te σ H (bmK K T f σ tNil Q)) : tBM0 K T f te σ H Q := h
theorem r_sl {f : V → Option Int → Option Int → Hp → VK → Prop} {tl th : TO} (h : te σ H fun x H1 => tl σ H1 fun l H2 => th σ H2 fun u H3 => f x l u H3 Q) : tSl f te tl th σ H Q := h
theorem r_none {RO : Option Int → Hp → Prop} (h : RO none H) : tNoPart σ H RO := h
theorem r_some {RO : Option Int → Hp → Prop} (h : te σ H (iK RO)) : tPart te σ H RO := h
theorem r_someI {RO : Option Int → Hp → Prop} {a : Int} (h : RO (some a) H) : iK RO (.int a) H := ⟨a, rfl, h⟩
theorem r_aug {ti : TIp} (h : σ[i]? = some (some x)) (q : te σ H fun y H1 => ti x y H1 fun z H2 => D.nx (σ.set i (some z)) H2) : tAug i te ti D σ H := ⟨x, h, q⟩
theorem r_slL {a : Addr} {xs : List V} {lo hi : Option Int} (hs : SqL K H a xs) (h : ∀ p, H p = none → Q (.ref p) (upd H p (.lst (cutV xs lo hi)))) : rSlL K (.ref a) lo hi H Q := ⟨a, xs, rfl, hs, h⟩
theorem r_ixL {a : Addr} {xs : List V} {m : Int} (hs : SqL K H a xs) (he : atI xs m = some v) (q : Q v H) : rIxL K (.ref a) (.int m) H Q := ⟨a, xs, m, v, rfl, rfl, hs, he, q⟩
theorem r_ixT {a : Addr} {xs : List V} {m : Int} (hs : SqT K H a xs) (he : atI xs m = some v) (q : Q v H) : rIxT K (.ref a) (.int m) H Q := ⟨a, xs, m, v, rfl, rfl, hs, he, q⟩
end
end VB

/-! VB4: the deck of draws, and what stands beside it -/
namespace VB
open PySem PySem.Spec PyProof.Rows L2
/-! ### the heap without the deck's own objects -/
def hid (d l : Addr) (H : Hp) : Hp := fun a => if a = d ∨ a = l then none else H a
section
variable {d l a : Addr} {H H' H1 : Hp} {o : HO} {K : PySem.W.Frag} {xs : List V}
theorem hid_get (h1 : a ≠ d) (h2 : a ≠ l) : hid d l H a = H a := if_neg fun z => z.elim h1 h2
theorem hid_d : hid d l H d = none := if_pos (.inl rfl)
theorem hid_l : hid d l H l = none := if_pos (.inr rfl)
theorem hid_none (h : H a = none) : hid d l H a = none := by
  unfold hid
  split
  · rfl
  · exact h
theorem hid_some (h : hid d l H a = some o) : a ≠ d ∧ a ≠ l ∧ H a = some o := by
  unfold hid at h
  split at h
  · cases h
  · rename_i z
    exact ⟨fun e => z (.inl e), fun e => z (.inr e), h⟩
theorem hid_sub : Same (hid d l H) H := fun _ _ h => (hid_some h).2.2
theorem same_hid (h : Same H H') : Same (hid d l H) (hid d l H') := fun b o e => by
  obtain ⟨h1, h2, h3⟩ := hid_some e
  rw [hid_get h1 h2]
  exact h b o h3
theorem hid_upd (h1 : a ≠ d) (h2 : a ≠ l) : hid d l (upd H a o) = upd (hid d l H) a o := by
  funext b
  by_cases e : b = a
  · subst e
    rw [hid_get h1 h2, upd_same, upd_same]
  · rw [upd_ne e]
    unfold hid
    rw [upd_ne e]
theorem hid_updd : hid d l (upd H d o) = hid d l H := by
  funext b
  unfold hid
  by_cases e : b = d
  · rw [if_pos (.inl e), if_pos (.inl e)]
  · rw [upd_ne e]
theorem hid_updl : hid d l (upd H l o) = hid d l H := by
  funext b
  unfold hid
  by_cases e : b = l
  · rw [if_pos (.inr e), if_pos (.inr e)]
  · rw [upd_ne e]
theorem same_new (h : H a = none) : Same H (upd H a o) := fun b x e => by
  rw [upd_ne (ne_of_none e h)]
  exact e
theorem seqT_same (e : Same H H') (h : SqT K H a xs) : SqT K H' a xs := by
  rcases h with (h | ⟨ob, h⟩) | h
  · exact .inl (.inl (e _ _ h))
  · exact .inl (.inr ⟨ob, e _ _ h⟩)
  · exact .inr h
theorem seqL_same (e : Same H H') (h : SqL K H a xs) : SqL K H' a xs := e.seq h
mutual
theorem dp_same (e : Same H H') : ∀ (x : PyData) (v : V), Dp K H v x → Dp K H' v x
  | .none, _, h => by cases h; exact .non
  | .bool _, _, h => by cases h; exact .bl _
  | .int _, _, h => by cases h; exact .int _
  | .str _, _, h => by cases h; exact .str _
  | .list ds, _, h => by
    cases h with
    | lst hs ha => exact .lst (seqL_same e hs) (dpa_same e ds _ ha)
  | .tuple ds, _, h => by
    cases h with
    | tup hs ha => exact .tup (seqT_same e hs) (dpa_same e ds _ ha)
  | .dict _, _, h => by cases h
theorem dpa_same (e : Same H H') : ∀ (ds : List PyData) (vs : List V), DpAll K H vs ds → DpAll K H' vs ds
  | [], _, h => by cases h; exact .nil
  | x :: ds, _, h => by
    cases h with
    | cons h1 h2 => exact .cons (dp_same e x _ h1) (dpa_same e ds _ h2)
end
theorem Dp.up (e : Same H H') {x : PyData} {v : V} (h : Dp K H v x) : Dp K H' v x := dp_same e x v h
theorem DpAll.up (e : Same H H') {ds : List PyData} {vs : List V} (h : DpAll K H vs ds) : DpAll K H' vs ds := dpa_same e ds vs h
end
/-! ### the deck -/
abbrev kG : Key := .inr "great"
abbrev kS : Key := .inr "stirred"
abbrev kT : Key := .inr "turn"
theorem kGS : ¬ kG = kS := by decide +kernel
theorem kGT : ¬ kG = kT := by decide +kernel
theorem kST : ¬ kS = kT := by decide +kernel
structure DeckOk (H : Hp) (d l : Addr) : Prop where
  dict : ∃ (kvs : List (Key × V)) (st tn : Int), H d = some (.dK kvs) ∧ kvs.length ≤ 100 ∧ valV kvs kG = some (.ref l) ∧ valV kvs kS = some (.int st) ∧ valV kvs kT = some (.int tn) ∧ 0 ≤ st
  list : ∃ ns : List Int, H l = some (.lst (ns.map V.int)) ∧ (∀ n ∈ ns, 0 ≤ n) ∧ ns.length ≤ 100
theorem DeckOk.up {H H' : Hp} {d l : Addr} (e : Same H H') (h : DeckOk H d l) : DeckOk H' d l := by
  obtain ⟨⟨kvs, st, tn, h1, h2⟩, ⟨ns, h3, h4⟩⟩ := h
  exact ⟨⟨kvs, st, tn, e _ _ h1, h2⟩, ⟨ns, e _ _ h3, h4⟩⟩
theorem DeckOk.ne {H : Hp} {d l p : Addr} (h : DeckOk H d l) (hp : H p = none) : p ≠ d ∧ p ≠ l := by
  obtain ⟨⟨kvs, st, tn, h1, _⟩, ⟨ns, h3, _⟩⟩ := h
  exact ⟨(ne_of_none h1 hp).symm, (ne_of_none h3 hp).symm⟩
theorem DeckOk.upo {H : Hp} {d l p : Addr} {o : HO} (h : DeckOk H d l) (h1 : p ≠ d) (h2 : p ≠ l) : DeckOk (upd H p o) d l := by
  obtain ⟨⟨kvs, st, tn, g1, g2⟩, ⟨ns, g3, g4⟩⟩ := h
  exact ⟨⟨kvs, st, tn, by rw [upd_ne h1.symm]; exact g1, g2⟩, ⟨ns, by rw [upd_ne h2.symm]; exact g3, g4⟩⟩
theorem DeckOk.dl {H : Hp} {d l : Addr} (h : DeckOk H d l) : d ≠ l := by
  obtain ⟨⟨kvs, st, tn, h1, _⟩, ⟨ns, h3, _⟩⟩ := h
  exact ne_of h1 h3 (by intro z; cases z)
/-- the deck has gone on; all else stands -/
structure Adv (d l : Addr) (H H' : Hp) : Prop where
  ok : DeckOk H' d l
  st : Same (hid d l H) (hid d l H')
theorem Adv.refl {d l : Addr} {H : Hp} (h : DeckOk H d l) : Adv d l H H := ⟨h, Same.refl _⟩
theorem Adv.trans {d l : Addr} {H H1 H2 : Hp} (a : Adv d l H H1) (b : Adv d l H1 H2) : Adv d l H H2 := ⟨b.ok, a.st.trans b.st⟩
theorem Adv.same {d l : Addr} {H H1 : Hp} (h : DeckOk H d l) (e : Same H H1) : Adv d l H H1 := ⟨h.up e, same_hid e⟩
theorem Adv.new {d l p : Addr} {H : Hp} {o : HO} (h : DeckOk H d l) (hp : H p = none) : Adv d l H (upd H p o) := .same h (same_new hp)
theorem Adv.mut {d l p : Addr} {H H1 : Hp} {o : HO} (a : Adv d l H H1) (h : DeckOk H d l) (hp : H p = none) : Adv d l H (upd H1 p o) := by
  obtain ⟨h1, h2⟩ := h.ne hp
  refine ⟨?_, ?_⟩
  · exact a.ok.upo h1 h2
  · rw [hid_upd h1 h2]
    intro b x e
    rw [upd_ne (ne_of_none e (hid_none hp))]
    exact a.st b x e
/-- promise: a draw below m -/
def spDraw : Sp := fun vs H Q _ => ∃ (d l : Addr) (m : Int), vs = [.ref d, .int m] ∧ DeckOk H d l ∧ m.natAbs.log2 < 9000 ∧
  ∀ r H', Adv d l H H' → 0 ≤ r → (r < m ∨ r = 0) → Q (.int r) H'
/-- promise: one of the items -/
def spPick (K : PySem.W.Frag) : Sp := fun vs H Q _ => ∃ (d l q : Addr) (xs : List V), vs = [.ref d, .ref q] ∧ DeckOk H d l ∧ SqL K (hid d l H) q xs ∧ 0 < xs.length ∧ xs.length ≤ 1000 ∧
  ∀ v H', Adv d l H H' → v ∈ xs → Q v H'
/-- promise: the deck of a script -/
def spDeck (K : PySem.W.Frag) : Sp := fun vs H Q _ => ∃ (a : Addr) (ns : List Int), vs = [.ref a] ∧ SqL K H a (ns.map V.int) ∧ ns.length ≤ 63 ∧
  ∀ d l H', H d = none → H l = none → Same H H' → DeckOk H' d l → Q (.ref d) H'
theorem pk_deck {K : PySem.W.Frag} {vs : List V} {H : Hp} {Q : VK} {E : XK} (h : spDraw vs H Q E) : vs.length = 2 := by
  obtain ⟨d, l, m, rfl, _⟩ := h
  rfl
theorem log2_small {m : Int} (h : m.natAbs < 2 ^ 100) : m.natAbs.log2 < 9000 := by
  by_cases z : m.natAbs = 0
  · rw [z]; decide
  · have := (Nat.log2_lt z).mpr h
    omega
theorem put_len {kvs : List (Key × V)} {k : Key} {v x : V} (h : valV kvs k = some x) : (putK kvs k v).length = kvs.length := by
  unfold putK
  rw [valV_any, h]
  simp
/-- the built-in names that no module here takes -/
structure Blt (mg : Str → Option Value) : Prop where
  abs : mg "abs" = none
  int : mg "int" = none
  len : mg "len" = none
  range : mg "range" = none
  repr : mg "repr" = none
  isinstance : mg "isinstance" = none
  tuple : mg "tuple" = none
  list : mg "list" = none
  str : mg "str" = none
  sum : mg "sum" = none
  all : mg "all" = none
  any : mg "any" = none
  zip : mg "zip" = none
  enumerate : mg "enumerate" = none
  sorted : mg "sorted" = none
  reversed : mg "reversed" = none
  bool : mg "bool" = none
  dict : mg "dict" = none
  max : mg "max" = none
  min : mg "min" = none
  ord : mg "ord" = none
  chr : mg "chr" = none
  divmod : mg "divmod" = none
  set : mg "set" = none
theorem blt_mk {K : PySem.W.Frag} {h : Heap} {mg : Str → Option Value} (X : K.In h) (G : h.Ns mainGlobals mg)
    (z1 : PySem.W.nsIn K mainGlobals "abs" = some none) (z2 : PySem.W.nsIn K mainGlobals "int" = some none) (z3 : PySem.W.nsIn K mainGlobals "len" = some none) (z4 : PySem.W.nsIn K mainGlobals "range" = some none) (z5 : PySem.W.nsIn K mainGlobals "repr" = some none) (z6 : PySem.W.nsIn K mainGlobals "isinstance" = some none) (z7 : PySem.W.nsIn K mainGlobals "tuple" = some none) (z8 : PySem.W.nsIn K mainGlobals "list" = some none) (z9 : PySem.W.nsIn K mainGlobals "str" = some none) (z10 : PySem.W.nsIn K mainGlobals "sum" = some none) (z11 : PySem.W.nsIn K mainGlobals "all" = some none) (z12 : PySem.W.nsIn K mainGlobals "any" = some none) (z13 : PySem.W.nsIn K mainGlobals "zip" = some none) (z14 : PySem.W.nsIn K mainGlobals "enumerate" = some none) (z15 : PySem.W.nsIn K mainGlobals "sorted" = some none) (z16 : PySem.W.nsIn K mainGlobals "reversed" = some none) (z17 : PySem.W.nsIn K mainGlobals "bool" = some none) (z18 : PySem.W.nsIn K mainGlobals "dict" = some none) (z19 : PySem.W.nsIn K mainGlobals "max" = some none) (z20 : PySem.W.nsIn K mainGlobals "min" = some none) (z21 : PySem.W.nsIn K mainGlobals "ord" = some none) (z22 : PySem.W.nsIn K mainGlobals "chr" = some none) (z23 : PySem.W.nsIn K mainGlobals "divmod" = some none) (z24 : PySem.W.nsIn K mainGlobals "set" = some none) : Blt mg :=
  ⟨PySem.W.mg_none_of X G z1, PySem.W.mg_none_of X G z2, PySem.W.mg_none_of X G z3, PySem.W.mg_none_of X G z4, PySem.W.mg_none_of X G z5, PySem.W.mg_none_of X G z6, PySem.W.mg_none_of X G z7, PySem.W.mg_none_of X G z8, PySem.W.mg_none_of X G z9, PySem.W.mg_none_of X G z10, PySem.W.mg_none_of X G z11, PySem.W.mg_none_of X G z12, PySem.W.mg_none_of X G z13, PySem.W.mg_none_of X G z14, PySem.W.mg_none_of X G z15, PySem.W.mg_none_of X G z16, PySem.W.mg_none_of X G z17, PySem.W.mg_none_of X G z18, PySem.W.mg_none_of X G z19, PySem.W.mg_none_of X G z20, PySem.W.mg_none_of X G z21, PySem.W.mg_none_of X G z22, PySem.W.mg_none_of X G z23, PySem.W.mg_none_of X G z24⟩
/-- an own exception class, as the top has made it -/
structure ErrC (K : PySem.W.Frag) (mg : Str → Option Value) (x : Str) (C : Addr) : Prop where
  ex : PySem.W.excIn K C [.type "ValueError", .type "Exception", .type "BaseException", .type "object"] "ValueError.__new__" = true
  gl : mg x = some (.ref C)
  kp : PySem.W.keepIn K (.ref C) = true
  sb : PySem.W.subIn K (.ref C) (.type "BaseException") = some true
  ty : PySem.W.typeIn K (.ref C) = some (.type "type")
end VB

/-! VB5: readings of the deck's pieces -/
namespace VB
open PySem PySem.Spec PyProof.Rows L2
section
variable {d l p : Addr} {H : Hp} {K : PySem.W.Frag} {kvs : List (Key × V)} {k : Key} {v : V} {Q : VK} {ns : List Int} {xs : List V}
theorem r_dgetK (hd : H d = some (.dK kvs)) (hv : valV kvs k = some v) (q : Q v H) : gK Q (.ref d) (kV k) H :=
  ⟨d, v, rfl, hv ▸ DGet.k (k := k) hd, q⟩
theorem r_dputK {S : Hp → Prop} (hd : H d = some (.dK kvs)) (hl : kvs.length ≤ 1000) (q : S (upd H d (.dK (putK kvs k v)))) : pK v S (.ref d) (kV k) H :=
  ⟨d, _, rfl, DPut.k (k := k) hd (small1000 hl), q⟩
theorem ints_can : ∀ ns : List Int, PyData.canLayAll0 (ns.map PyData.int) = true
  | [] => rfl
  | n :: r => by
    show ((PyData.int n).canLay0 && PyData.canLayAll0 (r.map PyData.int)) = true
    rw [ints_can r]
    rfl
theorem ints_depth : ∀ ns : List Int, PyData.depthAll (ns.map PyData.int) = 0
  | [] => rfl
  | n :: r => by
    show max (PyData.depth (.int n)) (PyData.depthAll (r.map PyData.int)) = 0
    rw [ints_depth r]
    rfl
theorem ints_shaped (ns : List Int) : SeqAt.shaped (.list (ns.map PyData.int)) = true := by
  show (PyData.canLayAll0 (ns.map PyData.int) && decide (PyData.depthAll (ns.map PyData.int) + 1 ≤ 64)) = true
  rw [ints_can, ints_depth]
  rfl
theorem dpa_ints : ∀ ns : List Int, DpAll K H (ns.map V.int) (ns.map PyData.int)
  | [] => .nil
  | _ :: r => .cons (.int _) (dpa_ints r)
theorem eqv_nil : ∀ ns : List Int, PyData.eqv (.list (ns.map PyData.int)) (.list []) = ns.isEmpty
  | [] => rfl
  | _ :: _ => rfl
theorem r_neNil (hl : SqL K H l (ns.map V.int)) (hp : SqL K H p []) (q : Q (.bl (!ns.isEmpty)) H) : rNeD K (.ref l) (.ref p) H Q :=
  ⟨.list (ns.map PyData.int), .list [], .lst hl (dpa_ints ns), .lst hp .nil, ints_shaped ns, ints_shaped [], by rw [eqv_nil]; exact q⟩
theorem r_pop {σ : L2.St} {y : V} (hl : H l = some (.lst xs)) (hy : xs[xs.length - 1]? = some y) (q : Q y (upd H l (.lst xs.dropLast))) : bmK K "list" rPop σ tNil Q (.ref l) H :=
  ⟨.inl ⟨rfl, _, SqL.of hl⟩, l, xs, y, rfl, rfl, hl, hy, q⟩
theorem r_tyL {σ : L2.St} {ts : TA} {f : V → List V → Hp → VK → Prop} (hl : H l = some (.lst xs)) (q : ts σ H fun xs H2 => f (.ref l) xs H2 Q) : bmK K "list" f σ ts Q (.ref l) H := ⟨.inl ⟨rfl, _, SqL.of hl⟩, q⟩
theorem r_app {y : V} (hl : H l = some (.lst xs)) (hz : xs.length ≤ 1000) (q : Q .non (upd H l (.lst (xs ++ [y])))) : rAppend (.ref l) [y] H Q := ⟨l, xs, y, rfl, rfl, hl, small1000 hz, q⟩
end
theorem last_int {ns : List Int} (h : ns ≠ []) : ∃ (r : List Int) (c : Int), ns = r ++ [c] ∧ (ns.map V.int)[(ns.map V.int).length - 1]? = some (.int c) ∧ (ns.map V.int).dropLast = r.map V.int := by
  refine ⟨ns.dropLast, ns.getLast h, (List.dropLast_concat_getLast h).symm, ?_, ?_⟩
  · rw [List.getElem?_map, List.length_map, ← List.getLast?_eq_getElem?, List.getLast?_eq_some_getLast h]
    rfl
  · rw [← List.map_dropLast]
theorem fdiv_nn {a b : Int} (h1 : 0 ≤ a) (h2 : 0 ≤ b) : 0 ≤ a.fdiv b := by
  rw [Int.fdiv_eq_ediv_of_nonneg a h2]
  exact Int.ediv_nonneg h1 h2
theorem fmod_lt {a b : Int} (h2 : 2 ≤ b) : 0 ≤ a.fmod b ∧ a.fmod b < b := by
  rw [Int.fmod_eq_emod_of_nonneg a (by omega)]
  exact ⟨Int.emod_nonneg a (by omega), Int.emod_lt_of_pos a (by omega)⟩
theorem mul_small {a b : Int} (h1 : 0 ≤ a) (h2 : a < 18446744073709551616) : IntMulOk a b := CMul.ok (.inl ⟨by omega, by omega⟩)
theorem mul_smallR {a b : Int} (h1 : 0 ≤ b) (h2 : b < 18446744073709551616) : IntMulOk a b := CMul.ok (.inr ⟨by omega, by omega⟩)
end VB

/-! VB6: loops and comprehensions, by named wishes -/
namespace VB
open PySem PySem.Spec PyProof.Rows L2
/-! ### what is walked -/
def lK (K : PySem.W.Frag) (R : It → Hp → Prop) : VK := fun x H => ∃ a, x = .ref a ∧ (∃ xs, SqL K H a xs) ∧ R (Itl K a) H
def tK (K : PySem.W.Frag) (R : It → Hp → Prop) : VK := fun x H => ∃ a, x = .ref a ∧ (∃ xs, SqT K H a xs) ∧ R (Itt K a) H
def gK1 (R : It → Hp → Prop) : List V → Hp → Prop := fun vs H => ∃ j : Int, vs = [.int j] ∧ -(2 ^ 62) ≤ j ∧ j < 2 ^ 62 ∧ R (Itr 0 j.toNat) H
def gK2 (R : It → Hp → Prop) : List V → Hp → Prop := fun vs H => ∃ i j : Int, vs = [.int i, .int j] ∧ (-(2 ^ 62) ≤ i ∧ i < 2 ^ 62 ∧ -(2 ^ 62) ≤ j ∧ j < 2 ^ 62) ∧ R (Itr i (j - i).toNat) H
def forK (g : TG) (tb : TS) (D : Ends) (σ : L2.St) : It → Hp → Prop := fun J H1 => ∃ W : Nat → Nat → L2.St → Hp → Prop, (∃ m, W 0 m σ H1) ∧ ∀ i m σ H, W i m σ H →
  (J.stop i H ∧ D.nx σ H) ∨ (J.go i H ∧ ∃ N : L2.St → Hp → Prop, (∀ σ' H', N σ' H' → ∃ m', m' < m ∧ W (i + 1) m' σ' H') ∧ ∀ x H', J.yld i H x H' → g x σ H' fun σ2 H2 => tb { D with nx := N, ct := N, bk := D.nx } σ2 H2)
/-- a comprehension's kept item goes to the list at D -/
def apK (D : Addr) (S : Hp → Prop) : VK := fun y H4 => ∃ acc, H4 D = some (.lst acc) ∧ acc.length < sizeLine ∧ S (upd H4 D (.lst (acc ++ [y])))
def cK (te : TE) (σ2 : L2.St) (D : Addr) (S : Hp → Prop) : Bool → Hp → Prop := fun b H3 => if b = true then te σ2 H3 (apK D S) else S H3
def wK (vs : List Nat) (σ : L2.St) (tt : TT) (te : TE) (D : Addr) (S : Hp → Prop) : L2.St → Hp → Prop := fun σ2 H2 => wipe σ2 vs = wipe σ vs ∧ tt σ2 H2 (cK te σ2 D S)
def lcK (g : TG) (tt : TT) (te : TE) (vs : List Nat) (σ : L2.St) (Q : VK) : It → Hp → Prop := fun J H1 => ∀ D, H1 D = none → ∃ W : Nat → Nat → Hp → Prop, (∃ m, W 0 m (upd H1 D (.lst []))) ∧ ∀ i m H, W i m H →
  (J.stop i H ∧ Q (.ref D) H) ∨ (J.go i H ∧ ∃ Nx : Hp → Prop, (∀ H', Nx H' → ∃ m', m' < m ∧ W (i + 1) m' H') ∧ ∀ x H', J.yld i H x H' → g x (wipe σ vs) H' (wK vs σ tt te D Nx))
section
variable {σ : L2.St} {H : Hp} {D : Ends} {i : Nat} {v x y : V} {tl te : TE} {t u tb : TS} {tt : TT} {ts : TA} {Q : VK} {R : It → Hp → Prop} {g : TG} {K : PySem.W.Frag} {a : Addr} {xs : List V} {vs : List Nat} {wi : TI} {S : Hp → Prop} {E : Addr}
theorem r_iL (h : tl σ H (lK K R)) : iList K tl σ H R := h
theorem r_iT (h : tl σ H (tK K R)) : iTup K tl σ H R := h
theorem r_lk (hs : SqL K H a xs) (h : R (Itl K a) H) : lK K R (.ref a) H := ⟨a, rfl, ⟨_, hs⟩, h⟩
theorem r_tk (hs : SqT K H a xs) (h : R (Itt K a) H) : tK K R (.ref a) H := ⟨a, rfl, ⟨_, hs⟩, h⟩
theorem r_rng1 (h : ts σ H (gK1 R)) : iRng1 ts σ H R := h
theorem r_rng2 (h : ts σ H (gK2 R)) : iRng2 ts σ H R := h
theorem r_rk {j : Int} (h1 : -1000000 ≤ j) (h2 : j ≤ 1000000) (h : R (Itr 0 j.toNat) H) : gK1 R [.int j] H := ⟨j, rfl, by omega, by omega, h⟩
theorem r_rk2 {i j : Int} (h1 : -1000000 ≤ i ∧ i ≤ 1000000) (h2 : -1000000 ≤ j ∧ j ≤ 1000000) (h : R (Itr i (j - i).toNat) H) : gK2 R [.int i, .int j] H := ⟨i, j, rfl, by omega, h⟩
theorem r_for (h : wi σ H (forK g tb D σ)) : tFor wi g tb D σ H := h
theorem r_forL (Pv : Nat → L2.St → Hp → Prop) (h0 : Pv 0 σ H) (hl : ∀ i σ H, i ≤ xs.length → Pv i σ H → SqL K H a xs)
    (hs : ∀ i x σ H, xs[i]? = some x → Pv i σ H → g x σ H fun σ2 H2 => tb { D with nx := Pv (i + 1), ct := Pv (i + 1), bk := D.nx } σ2 H2) (hd : ∀ σ H, Pv xs.length σ H → D.nx σ H) :
    forK g tb D σ (Itl K a) H := for_list Pv h0 hl hs hd
theorem r_forT (Pv : Nat → L2.St → Hp → Prop) (h0 : Pv 0 σ H) (hl : ∀ i σ H, i ≤ xs.length → Pv i σ H → SqT K H a xs)
    (hs : ∀ i x σ H, xs[i]? = some x → Pv i σ H → g x σ H fun σ2 H2 => tb { D with nx := Pv (i + 1), ct := Pv (i + 1), bk := D.nx } σ2 H2) (hd : ∀ σ H, Pv xs.length σ H → D.nx σ H) :
    forK g tb D σ (Itt K a) H := for_tup Pv h0 hl hs hd
theorem r_forR {lo : Int} {n : Nat} (Pv : Nat → L2.St → Hp → Prop) (h0 : Pv 0 σ H)
    (hs : ∀ i σ H, i < n → Pv i σ H → g (.int (lo + i)) σ H fun σ2 H2 => tb { D with nx := Pv (i + 1), ct := Pv (i + 1), bk := D.nx } σ2 H2) (hd : ∀ σ H, Pv n σ H → D.nx σ H) :
    forK g tb D σ (Itr lo n) H := for_range Pv h0 hs hd
theorem r_lc (h : wi σ H (lcK g tt te vs σ Q)) : tLc wi g tt te vs σ H Q := h
theorem r_ap {acc : List V} (h : H E = some (.lst acc)) (hl : acc.length ≤ 1000) (q : S (upd H E (.lst (acc ++ [y])))) : apK E S y H := ⟨acc, h, small1000 hl, q⟩
theorem r_wk {σ2 : L2.St} (e : wipe σ2 vs = wipe σ vs) (h : tt σ2 H (cK te σ2 E S)) : wK vs σ tt te E S σ2 H := ⟨e, h⟩
theorem r_ck1 {σ2 : L2.St} (h : te σ2 H (apK E S)) : cK te σ2 E S true H := h
theorem r_ck0 {σ2 : L2.St} (h : S H) : cK te σ2 E S false H := h
theorem r_yesT {RR : Bool → Hp → Prop} (h : RR true H) : tYes σ H RR := h
/-- over a list: by an invariant of the turn and the heap, the new list's address given -/
theorem r_lcL (Pv : Addr → Nat → Hp → Prop) (h0 : ∀ E, H E = none → Pv E 0 (upd H E (.lst []))) (hl : ∀ E i H', H E = none → i ≤ xs.length → Pv E i H' → SqL K H' a xs)
    (hs : ∀ E i x H', H E = none → xs[i]? = some x → Pv E i H' → g x (wipe σ vs) H' (wK vs σ tt te E (Pv E (i + 1)))) (hd : ∀ E H', H E = none → Pv E xs.length H' → Q (.ref E) H') :
    lcK g tt te vs σ Q (Itl K a) H := fun E hE => lc_list (xs := xs) (Pv E) (h0 E hE) (fun i H' hi => hl E i H' hE hi) (fun i x H' hx p => hs E i x H' hE hx p) (fun H' p => hd E H' hE p)
theorem r_lcT (Pv : Addr → Nat → Hp → Prop) (h0 : ∀ E, H E = none → Pv E 0 (upd H E (.lst []))) (hl : ∀ E i H', H E = none → i ≤ xs.length → Pv E i H' → SqT K H' a xs)
    (hs : ∀ E i x H', H E = none → xs[i]? = some x → Pv E i H' → g x (wipe σ vs) H' (wK vs σ tt te E (Pv E (i + 1)))) (hd : ∀ E H', H E = none → Pv E xs.length H' → Q (.ref E) H') :
    lcK g tt te vs σ Q (Itt K a) H := fun E hE => lc_tup (xs := xs) (Pv E) (h0 E hE) (fun i H' hi => hl E i H' hE hi) (fun i x H' hx p => hs E i x H' hE hx p) (fun H' p => hd E H' hE p)
theorem r_lcR {lo : Int} {n : Nat} (Pv : Addr → Nat → Hp → Prop) (h0 : ∀ E, H E = none → Pv E 0 (upd H E (.lst [])))
    (hs : ∀ E i H', H E = none → i < n → Pv E i H' → g (.int (lo + i)) (wipe σ vs) H' (wK vs σ tt te E (Pv E (i + 1)))) (hd : ∀ E H', H E = none → Pv E n H' → Q (.ref E) H') :
    lcK g tt te vs σ Q (Itr lo n) H := fun E hE => lc_range (lo := lo) (n := n) (Pv E) (h0 E hE) (fun i H' hi p => hs E i H' hE hi p) (fun H' p => hd E H' hE p)
end
theorem wipe_set {σ : L2.St} {j : Nat} {v : Option V} : wipe ((wipe σ [j]).set j v) [j] = wipe σ [j] := by
  show ((σ.set j none).set j v).set j none = σ.set j none
  rw [List.set_set, List.set_set]
theorem filt_map {xs : List V} {i : Nat} {x : V} (p : V → Bool) (f : V → V) (h : xs[i]? = some x) : ((xs.take (i + 1)).filter p).map f = if p x = true then ((xs.take i).filter p).map f ++ [f x] else ((xs.take i).filter p).map f := by
  rw [List.take_add_one, h, Option.toList_some, List.filter_append, List.map_append]
  by_cases e : p x = true
  · rw [if_pos e, List.filter_cons_of_pos e]; rfl
  · rw [if_neg e, List.filter_cons_of_neg e]; exact List.append_nil _
/-- [f(x) for x in xs if p(x)], nothing else is made on the way -/
theorem r_lcFM {σ : L2.St} {H : Hp} {j : Nat} {tt : TT} {te : TE} {Q : VK} {K : PySem.W.Frag} {a : Addr} {xs : List V} (p : V → Bool) (f : V → V) (hx : SqL K H a xs) (hn : xs.length ≤ 1000)
    (ht : ∀ x ∈ xs, ∀ (H' : Hp) (S : Bool → Hp → Prop), S (p x) H' → tt ((wipe σ [j]).set j (some x)) H' S)
    (he : ∀ x ∈ xs, p x = true → ∀ (H' : Hp) (S : VK), S (f x) H' → te ((wipe σ [j]).set j (some x)) H' S)
    (hd : ∀ E, H E = none → Q (.ref E) (upd H E (.lst ((xs.filter p).map f)))) : lcK (gName j) tt te [j] σ Q (Itl K a) H := by
  refine r_lcL (xs := xs) (fun E i H' => H' = upd H E (.lst (((xs.take i).filter p).map f))) (fun E _ => rfl) (fun E i H' hE _ e => ?_) (fun E i x H' hE hxi e => ?_) (fun E H' hE e => ?_)
  · rw [e]; exact seqL_same (same_new hE) hx
  · have hm := List.mem_of_getElem? hxi
    refine r_gName (r_wk wipe_set (ht x hm _ _ ?_))
    have fm := filt_map p f hxi
    cases c : p x with
    | true =>
      rw [c, if_pos rfl] at fm
      refine r_ck1 (he x hm c _ _ (r_ap (acc := ((xs.take i).filter p).map f) (by rw [e]; exact upd_same) ?_ ?_))
      · rw [List.length_map]
        exact Nat.le_trans (List.length_filter_le _ _) (Nat.le_trans (by rw [List.length_take]; exact Nat.min_le_right _ _) hn)
      · rw [e, upd_upd, fm]
    | false =>
      rw [c, if_neg Bool.false_ne_true] at fm
      refine r_ck0 ?_
      rw [e, fm]
  · rw [e, List.take_length]
    exact hd E hE
theorem r_lcM {σ : L2.St} {H : Hp} {j : Nat} {te : TE} {Q : VK} {K : PySem.W.Frag} {a : Addr} {xs : List V} (f : V → V) (hx : SqL K H a xs) (hn : xs.length ≤ 1000)
    (he : ∀ x ∈ xs, ∀ (H' : Hp) (S : VK), S (f x) H' → te ((wipe σ [j]).set j (some x)) H' S)
    (hd : ∀ E, H E = none → Q (.ref E) (upd H E (.lst (xs.map f)))) : lcK (gName j) tYes te [j] σ Q (Itl K a) H := by
  refine r_lcFM (fun _ => true) f hx hn (fun x _ H' S h => r_yesT h) (fun x hm _ H' S h => he x hm H' S h) fun E hE => ?_
  rw [List.filter_eq_self.mpr fun _ _ => rfl]
  exact hd E hE
/-! ### displays of dicts -/
def dispK (p : Addr) (Q : VK) : List (V × V) → Hp → Prop := fun ps H2 => H2 p = some (.dK []) ∧ ∃ kvs : List (Key × V), ps = kvs.map (fun kv => (kV kv.1, kv.2)) ∧ kvs.length ≤ 15 ∧ Q (.ref p) (upd H2 p (.dK (mergeK [] kvs)))
section
variable {σ : L2.St} {H : Hp} {Q : VK} {tk tv : TE} {trs : List (TE × TE)} {RP : List (V × V) → Hp → Prop} {p : Addr}
theorem r_disp (h : ∀ p, H p = none → tPairs trs σ (upd H p (.dK [])) (dispK p Q)) : tDisp trs σ H Q := h
theorem r_pnil (h : RP [] H) : tPairs [] σ H RP := h
theorem r_pcons (h : tk σ H fun x H1 => tv σ H1 fun y H2 => tPairs trs σ H2 fun ps H3 => RP ((x, y) :: ps) H3) : tPairs ((tk, tv) :: trs) σ H RP := h
theorem r_dispk (kvs : List (Key × V)) (h0 : H p = some (.dK [])) (hl : kvs.length ≤ 15) (q : Q (.ref p) (upd H p (.dK (mergeK [] kvs)))) : dispK p Q (kvs.map fun kv => (kV kv.1, kv.2)) H := ⟨h0, kvs, rfl, hl, q⟩
end

theorem cut_ints (ns : List Int) (n : Nat) : ∃ ms : List Int, cutV (ns.map V.int) none (some (n : Int)) = ms.map V.int ∧ ms.length ≤ n := by
  refine ⟨ns.take n, ?_, by rw [List.length_take]; exact Nat.min_le_left _ _⟩
  unfold cutV
  rw [HT.sIx_none, show HT.sIx (ns.map V.int).length (ns.map V.int).length (some (n : Int)) = min n (ns.map V.int).length from HT.sIx_nat _ _ n]
  rw [List.drop_zero, Nat.sub_zero, List.map_take, List.length_map]
  by_cases h : n ≤ ns.length
  · rw [Nat.min_eq_left h]
  · rw [Nat.min_eq_right (by omega), List.take_of_length_le (by simp), List.take_of_length_le (by simp; omega)]
def cellV (i : Int) : Int := 2 * (if i < 0 then -i else i) + (if decide (i < 0) = true then 1 else 0)
end VB

/-! VB7: sizes, fractions -/
namespace VB
open PySem PySem.Spec PyProof.Rows L2
/-! ### sizes -/
def Bd (k : Nat) (x : Int) : Prop := x.natAbs < 2 ^ k
theorem Bd.mono {j k : Nat} {x : Int} (h : Bd j x) (l : j ≤ k) : Bd k x := Nat.lt_of_lt_of_le h (Nat.pow_le_pow_right (by decide) l)
theorem Bd.mul {j k : Nat} {x y : Int} (h : Bd j x) (l : Bd k y) : Bd (j + k) (x * y) := wide_lt h l
theorem Bd.add {k : Nat} {x y : Int} (h : Bd k x) (l : Bd k y) : Bd (k + 1) (x + y) := by
  have e := Int.natAbs_add_le x y
  have h1 : x.natAbs < 2 ^ k := h
  have h2 : y.natAbs < 2 ^ k := l
  have h3 : 2 ^ (k + 1) = 2 ^ k * 2 := Nat.pow_succ ..
  show (x + y).natAbs < 2 ^ (k + 1)
  omega
theorem Bd.neg {k : Nat} {x : Int} (h : Bd k x) : Bd k (-x) := by
  show (-x).natAbs < 2 ^ k
  rw [Int.natAbs_neg]
  exact h
theorem Bd.log {k n : Nat} {x : Int} (h : Bd k x) (l : k ≤ n) (h0 : 0 < n) : x.natAbs.log2 < n := PySem.Flt.log2_lt_of h0 (h.mono l)
theorem Bd.mulOk {j k : Nat} {x y : Int} (h : Bd j x) (l : Bd k y) (e : j + k ≤ 900000 := by decide) : IntMulOk x y :=
  CMulW.ok (wide_mul (h.mono (Nat.le_succ j)) (l.mono (Nat.le_succ k)) (Nat.succ_pos _) (Nat.succ_pos _) (by omega))
theorem Bd.of_le {k : Nat} {x y : Int} (h : Bd k y) (e : x.natAbs ≤ y.natAbs) : Bd k x := Nat.lt_of_le_of_lt e h
theorem Bd.small {x : Int} (h : x.natAbs < 18446744073709551616) : Bd 64 x := by
  show x.natAbs < 2 ^ 64
  omega
/-! ### a / b in lowest terms, as both texts reckon it -/
def gcdI (a b : Int) : Int := ((Nat.gcd a.natAbs b.natAbs : Nat) : Int)
def comI (a b : Int) : Int := if b < 0 then -gcdI a b else gcdI a b
def lowA (a b : Int) : Int := a.fdiv (comI a b)
def lowB (a b : Int) : Int := b.fdiv (comI a b)
theorem gcdI_pos {a b : Int} (h : b ≠ 0) : 0 < gcdI a b := by
  have : 0 < Nat.gcd a.natAbs b.natAbs := Nat.gcd_pos_of_pos_right _ (by omega)
  show (0 : Int) < ((Nat.gcd a.natAbs b.natAbs : Nat) : Int)
  omega
theorem comI_ne {a b : Int} (h : b ≠ 0) : comI a b ≠ 0 := by
  have := gcdI_pos (a := a) h
  unfold comI
  split <;> omega
theorem comI_abs (a b : Int) : (comI a b).natAbs = Nat.gcd a.natAbs b.natAbs := by
  unfold comI gcdI
  split
  · rw [Int.natAbs_neg, Int.natAbs_natCast]
  · rw [Int.natAbs_natCast]
theorem comI_dvd (a b : Int) : comI a b ∣ a ∧ comI a b ∣ b :=
  ⟨Int.natAbs_dvd_natAbs.mp (by rw [comI_abs]; exact Nat.gcd_dvd_left _ _), Int.natAbs_dvd_natAbs.mp (by rw [comI_abs]; exact Nat.gcd_dvd_right _ _)⟩
theorem comI_le {a b : Int} (h : b ≠ 0) : (comI a b).natAbs ≤ b.natAbs := by
  rw [comI_abs]
  exact Nat.gcd_le_right _ (by omega)
theorem fdiv_exact {x c : Int} (h : c ∣ x) : x.fdiv c * c = x := Int.fdiv_mul_cancel h
theorem fdiv_abs {x c : Int} (h : c ∣ x) (h0 : c ≠ 0) : (x.fdiv c).natAbs ≤ x.natAbs := by
  have e := congrArg Int.natAbs (fdiv_exact h)
  rw [Int.natAbs_mul] at e
  rw [← e]
  exact Nat.le_mul_of_pos_right _ (by omega)
theorem lowA_bd {k : Nat} {a b : Int} (ha : Bd k a) (h : b ≠ 0) : Bd k (lowA a b) := ha.of_le (fdiv_abs (comI_dvd a b).1 (comI_ne h))
theorem lowB_bd {k : Nat} {a b : Int} (hb : Bd k b) (h : b ≠ 0) : Bd k (lowB a b) := hb.of_le (fdiv_abs (comI_dvd a b).2 (comI_ne h))
theorem lowB_pos {a b : Int} (h : b ≠ 0) : 0 < lowB a b := by
  have e := fdiv_exact (comI_dvd a b).2
  have hg := gcdI_pos (a := a) h
  have d0 : lowB a b ≠ 0 := fun z => by
    have e' : lowB a b * comI a b = b := e
    rw [z, Int.zero_mul] at e'
    exact h e'.symm
  have e' : lowB a b * comI a b = b := e
  refine Classical.byContradiction fun n => ?_
  have hn : lowB a b < 0 := by omega
  by_cases hb : b < 0
  · have hc : comI a b < 0 := by unfold comI; rw [if_pos hb]; omega
    have := Int.mul_pos_of_neg_of_neg hn hc
    omega
  · have hc : 0 < comI a b := by unfold comI; rw [if_neg hb]; exact hg
    have := Int.mul_neg_of_neg_of_pos hn hc
    omega
/-- promise: gcd, sign by sign -/
def spGcd : Sp := fun vs H Q _ => ∃ a b : Int, vs = [.int a, .int b] ∧ Q (.int (gcdI a b)) H
/-- promise: a / b, b not 0 -/
def spLow : Sp := fun vs H Q _ => ∃ a b : Int, vs = [.int a, .int b] ∧ b ≠ 0 ∧ Bd 8000 b ∧ ∀ p, H p = none → Q (.ref p) (upd H p (.tup [.int (lowA a b), .int (lowB a b)]))
/-- promise: a / b, or Unfit -/
def spLowest (C : Addr) : Sp := fun vs H Q E => ∃ a b : Int, vs = [.int a, .int b] ∧ Bd 8000 b ∧ (b = 0 → E (.ref C) none H) ∧ (b ≠ 0 → ∀ p, H p = none → Q (.ref p) (upd H p (.tup [.int (lowA a b), .int (lowB a b)])))
/-- a pair of ints at a tuple -/
def FrV (K : PySem.W.Frag) (H : Hp) (v : V) (a b : Int) : Prop := ∃ p, v = .ref p ∧ SqT K H p [.int a, .int b]
theorem FrV.up {K : PySem.W.Frag} {H H' : Hp} {v : V} {a b : Int} (e : Same H H') (h : FrV K H v a b) : FrV K H' v a b := by
  obtain ⟨p, rfl, hs⟩ := h
  exact ⟨p, rfl, seqT_same e hs⟩
theorem FrV.dp {K : PySem.W.Frag} {H : Hp} {v : V} {a b : Int} (h : FrV K H v a b) : Dp K H v (.tuple [.int a, .int b]) := by
  obtain ⟨p, rfl, hs⟩ := h
  exact .tup hs (.cons (.int _) (.cons (.int _) .nil))
/-! ### what repr asks of data -/
mutual
def wt : PyData → Nat
  | .none => 4
  | .bool _ => 5
  | .int _ => 1921
  | .str x => (reprText x).length
  | .list xs => wtAll xs + 3
  | .tuple xs => wtAll xs + 3
  | .dict _ => 0
def wtAll : List PyData → Nat
  | [] => 0
  | x :: xs => wt x + 2 + wtAll xs
end
mutual
theorem shown_wt : ∀ d : PyData, d.showable = true → d.hasDict = false → d.shown.length ≤ wt d
  | .none, _, _ => by simp only [PyData.shown, wt]; decide
  | .bool b, _, _ => by simp only [PyData.shown, wt]; cases b <;> decide
  | .int i, h, _ => by
    simp only [PyData.shown, wt]
    exact PyProof.Rows.int_text_len_1921 (by simpa [PyData.showable] using h)
  | .str x, _, _ => by simp only [PyData.shown, wt]; exact Nat.le_refl _
  | .list xs, h, h' => by
    have z := shownAll_wt xs (by simpa [PyData.showable] using h) (by simpa [PyData.hasDict] using h')
    have y := listText_len_le (PyData.shownAll xs)
    simp only [PyData.shown, wt]
    omega
  | .tuple xs, h, h' => by
    have z := shownAll_wt xs (by simpa [PyData.showable] using h) (by simpa [PyData.hasDict] using h')
    have y := tupleText_len_le (PyData.shownAll xs)
    simp only [PyData.shown, wt]
    omega
  | .dict _, _, h' => by simp [PyData.hasDict] at h'
theorem shownAll_wt : ∀ xs : List PyData, PyData.showableAll xs = true → PyData.hasDictAll xs = false → ((PyData.shownAll xs).map (·.length)).sum + 2 * (PyData.shownAll xs).length ≤ wtAll xs
  | [], _, _ => by simp [PyData.shownAll, wtAll]
  | x :: xs, h, h' => by
    have e : x.showable = true ∧ PyData.showableAll xs = true := by simpa [PyData.showableAll] using h
    have e' : x.hasDict = false ∧ PyData.hasDictAll xs = false := by simpa [PyData.hasDictAll] using h'
    have z1 := shown_wt x e.1 e'.1
    have z2 := shownAll_wt xs e.2 e'.2
    simp only [PyData.shownAll, wtAll, List.map_cons, List.sum_cons, List.length_cons]
    omega
end
/-- data that repr can write -/
structure Fit (d : PyData) : Prop where
  sh : d.showable = true
  wt : wt d ≤ 16000000
  dp : d.depth < 60
theorem r_repr {K : PySem.W.Frag} {v : V} {d : PyData} {H : Hp} {Q : VK} (h : Dp K H v d) (f : Fit d) (q : Q (.str d.shown) H) : rRepr K [v] H Q := by
  refine ⟨v, d, rfl, h, f.sh, ?_, f.dp, q⟩
  have z := shown_wt d f.sh (dp_nodict d v h)
  have e := sizeLine_eq
  have := f.wt
  omega
theorem sh_int {k : Nat} {x : Int} (h : Bd k x) (l : k ≤ 1920 := by decide) : (PyData.int x).showable = true := by
  simp only [PyData.showable]
  exact decide_eq_true (h.log l (by decide))
end VB

/-! VB8: promises of drawn numbers -/
namespace VB
open PySem PySem.Spec PyProof.Rows L2
/-- promise: a number of so many figures -/
def spGreat : Sp := fun vs H Q _ => ∃ (d l : Addr) (n : Int), vs = [.ref d, .int n] ∧ DeckOk H d l ∧ 1 ≤ n ∧ n ≤ 1000 ∧ ∀ r H', Adv d l H H' → 0 < r → r < 10 ^ n.toNat → Q (.int r) H'
/-- promise: some integer -/
def spSomeInt : Sp := fun vs H Q _ => ∃ (d l : Addr), vs = [.ref d] ∧ DeckOk H d l ∧ ∀ r H', Adv d l H H' → Bd 366 r → Q (.int r) H'
/-- promise: some fraction -/
def spSomeFr (K : PySem.W.Frag) : Sp := fun vs H Q _ => ∃ (d l : Addr), vs = [.ref d] ∧ DeckOk H d l ∧ ∀ v a b H', Adv d l H H' → FrV K (hid d l H') v a b → Bd 366 a → Bd 366 b → 0 < b → Q v H'
theorem ten_bd {r : Int} {n k : Nat} (h0 : 0 < r) (h : r < 10 ^ n) (e : 10 ^ n ≤ 2 ^ k) : Bd k r := by
  show r.natAbs < 2 ^ k
  have h1 : (r.natAbs : Int) < ((10 ^ n : Nat) : Int) := by
    rw [Int.natCast_pow]
    have : (r.natAbs : Int) = r := by omega
    rw [this]
    exact h
  have h2 : r.natAbs < 10 ^ n := by omega
  omega
theorem bd_small {r : Int} {k : Nat} (h : r.natAbs < 18446744073709551616) (e : 64 ≤ k) : Bd k r := (Bd.small h).mono e

/-! ### promises of the four ways to reckon -/
/-- two fractions: their values, sizes, denominators -/
def Two (K : PySem.W.Frag) (H : Hp) (v u : V) (a b c d : Int) (k : Nat) : Prop := FrV K H v a b ∧ FrV K H u c d ∧ Bd k a ∧ Bd k b ∧ Bd k c ∧ Bd k d
def spAdded (K : PySem.W.Frag) : Sp := fun vs H Q _ => ∃ (v u : V) (a b c d : Int), vs = [v, u] ∧ FrV K H v a b ∧ FrV K H u c d ∧ Bd 2000 a ∧ Bd 2000 b ∧ Bd 2000 c ∧ Bd 2000 d ∧ 0 < b ∧ 0 < d ∧
  ∀ p, H p = none → Q (.ref p) (upd H p (.tup [.int (lowA (a * d + c * b) (b * d)), .int (lowB (a * d + c * b) (b * d))]))
def spMultiplied (K : PySem.W.Frag) : Sp := fun vs H Q _ => ∃ (v u : V) (a b c d : Int), vs = [v, u] ∧ FrV K H v a b ∧ FrV K H u c d ∧ Bd 2000 a ∧ Bd 2000 b ∧ Bd 2000 c ∧ Bd 2000 d ∧ 0 < b ∧ 0 < d ∧
  ∀ p, H p = none → Q (.ref p) (upd H p (.tup [.int (lowA (a * c) (b * d)), .int (lowB (a * c) (b * d))]))
def spDivided (K : PySem.W.Frag) (C : Addr) : Sp := fun vs H Q E => ∃ (v u : V) (a b c d : Int), vs = [v, u] ∧ FrV K H v a b ∧ FrV K H u c d ∧ Bd 2000 a ∧ Bd 2000 b ∧ Bd 2000 c ∧ Bd 2000 d ∧ 0 < b ∧ 0 < d ∧
  (c = 0 → E (.ref C) none H) ∧ (c ≠ 0 → ∀ p, H p = none → Q (.ref p) (upd H p (.tup [.int (lowA (a * d) (b * c)), .int (lowB (a * d) (b * c))])))
/-- 1, 0, -1, as a / b is above, like, below c / d -/
def sideI (a b c d : Int) : Int := (if c * b < a * d then 1 else 0) - (if a * d < c * b then 1 else 0)
def spCompared (K : PySem.W.Frag) : Sp := fun vs H Q _ => ∃ (v u : V) (a b c d : Int), vs = [v, u] ∧ FrV K H v a b ∧ FrV K H u c d ∧ Bd 2000 a ∧ Bd 2000 b ∧ Bd 2000 c ∧ Bd 2000 d ∧ Q (.int (sideI a b c d)) H

/-! ### isinstance of the exception that a suite holds: its class is said in the reading -/
def rIsE2 (K : PySem.W.Frag) (D a : Addr) (cls : Value) (d : Option Addr) : List V → Hp → VK → Prop := fun xs H Q => cls = .ref D ∧ d = none ∧ rIsE K D a xs H Q
theorem call_isE2 {X : Cx} {a D : Addr} {oe : Obj} {pn : List (Addr × Obj)} {cls : Value} {d : Option Addr} (C : ExcC X.K D) (hz : Zc cls d oe) (hf : ∃ vs, oe.data = .fields vs) :
    CallR (X.suite a ((a, oe) :: pn)) (.builtin "isinstance") (rIsE2 X.K D a cls d) := by
  intro pins s σ H xs us Q I r h
  obtain ⟨rfl, rfl, h⟩ := h
  exact call_isE C hz hf pins s σ H xs us Q I r h
theorem r_isE2 {K : PySem.W.Frag} {D a C : Addr} {cls : Value} {d : Option Addr} {b : Bool} {H : Hp} {Q : VK} (h1 : cls = .ref D) (h2 : d = none) (h : PySem.W.kitOne K (.ref D) (.ref C) = some b) (q : Q (.bl b) H) : rIsE2 K D a cls d [.ref a, .ref C] H Q :=
  ⟨h1, h2, .ref C, .ref C, b, rfl, fun u z => z, h, q⟩
/-! ### what is told of a word and two operands -/
def resD (m n : Int) : PyData := if n = 0 then .list [.str "unfit", .bool true] else .list [.str "told", .tuple [.int (lowA m n), .int (lowB m n)]]
/-- the word's numerator and denominator -/
def Num (K : PySem.W.Frag) (H : Hp) (wd : Str) (v u : V) (m n : Int) : Prop :=
  (wd = "lowest" ∧ v = .int m ∧ u = .int n ∧ Bd 1000 m ∧ Bd 1000 n) ∨
  ∃ a b c d : Int, FrV K H v a b ∧ FrV K H u c d ∧ Bd 500 a ∧ Bd 500 b ∧ Bd 500 c ∧ Bd 500 d ∧ 0 < b ∧ 0 < d ∧
    ((wd = "added" ∧ m = a * d + c * b ∧ n = b * d) ∨ (wd = "multiplied" ∧ m = a * c ∧ n = b * d) ∨ (wd = "divided" ∧ m = a * d ∧ n = b * c))
def spTold (K : PySem.W.Frag) : Sp := fun vs H Q _ => ∃ (wd : Str) (v u : V) (m n : Int) (nm : Bool), vs = [.str wd, v, u, .bl nm] ∧ Num K H wd v u m n ∧ ∀ r H', Same H H' → Dp K H' r (resD m n) → Q r H'
def spDue (K : PySem.W.Frag) : Sp := fun vs H Q _ => ∃ (wd : Str) (v u : V) (m n : Int), vs = [.str wd, v, u] ∧ Num K H wd v u m n ∧ ∀ r H', Same H H' → Dp K H' r (resD m n) → Q r H'

/-! ### targets -/
section
variable {σ : L2.St} {H : Hp} {K : PySem.W.Frag} {n : Nat} {a : Addr} {xs vs : List V} {v : V} {g : TG} {t u : TGs} {RS : L2.St → Hp → Prop}
theorem r_gtup (hs : SqT K H a xs) (hl : xs.length = n) (h : t xs σ H RS) : gTup K n t (.ref a) σ H RS := ⟨a, xs, rfl, hs, hl, h⟩
theorem r_gcons (h : g v σ H fun σ' H' => u vs σ' H' RS) : gCons g u (v :: vs) σ H RS := ⟨v, vs, rfl, h⟩
theorem r_gnil (h : RS σ H) : gNil [] σ H RS := ⟨rfl, h⟩
theorem r_asg {te : TE} {D : Ends} (h : te σ H fun x H1 => g x σ H1 D.nx) : tAsg te g D σ H := h
end

/-- a drawn fraction -/
def FrOk (K : PySem.W.Frag) (H : Hp) (v : V) : Prop := ∃ a b, FrV K H v a b ∧ Bd 366 a ∧ Bd 366 b ∧ 0 < b
theorem FrOk.up {K : PySem.W.Frag} {H H' : Hp} {v : V} (e : Same H H') (h : FrOk K H v) : FrOk K H' v := by
  obtain ⟨a, b, f, r⟩ := h
  exact ⟨a, b, f.up e, r⟩
theorem fit_resD {m n : Int} (hm : Bd 1800 m) (hn : Bd 1800 n) : Fit (resD m n) := by
  unfold resD
  by_cases z : n = 0
  · rw [if_pos z]
    exact ⟨by decide, by decide +kernel, by decide⟩
  · rw [if_neg z]
    have h1 : (PyData.int (lowA m n)).showable = true := sh_int (lowA_bd hm z)
    have h2 : (PyData.int (lowB m n)).showable = true := sh_int (lowB_bd hn z)
    refine ⟨?_, ?_, ?_⟩
    · simp [PyData.showable, PyData.showableAll] at h1 h2 ⊢
      exact ⟨h1, h2⟩
    · have e : wt (.list [.str "told", .tuple [.int (lowA m n), .int (lowB m n)]]) = wt (.list [.str "told", .tuple [.int 0, .int 0]]) := rfl
      rw [e]
      decide +kernel
    · have e : PyData.depth (.list [.str "told", .tuple [.int (lowA m n), .int (lowB m n)]]) = PyData.depth (.list [.str "told", .tuple [.int 0, .int 0]]) := rfl
      rw [e]
      decide
theorem num_bd {K : PySem.W.Frag} {H : Hp} {wd : Str} {v u : V} {m n : Int} (h : Num K H wd v u m n) : Bd 1800 m ∧ Bd 1800 n := by
  rcases h with ⟨_, _, _, h1, h2⟩ | ⟨a, b, c, d, _, _, h1, h2, h3, h4, _, _, ⟨_, rfl, rfl⟩ | ⟨_, rfl, rfl⟩ | ⟨_, rfl, rfl⟩⟩
  · exact ⟨h1.mono (by decide), h2.mono (by decide)⟩
  · exact ⟨((h1.mul h4).add (h3.mul h2)).mono (by decide), (h2.mul h4).mono (by decide)⟩
  · exact ⟨(h1.mul h3).mono (by decide), (h2.mul h4).mono (by decide)⟩
  · exact ⟨(h1.mul h4).mono (by decide), (h2.mul h3).mono (by decide)⟩
theorem Num.up {K : PySem.W.Frag} {H H' : Hp} {wd : Str} {v u : V} {m n : Int} (e : Same H H') (h : Num K H wd v u m n) : Num K H' wd v u m n := by
  rcases h with h | ⟨a, b, c, d, f1, f2, r⟩
  · exact .inl h
  · exact .inr ⟨a, b, c, d, f1.up e, f2.up e, r⟩
theorem side_same (a b : Int) : sideI a b a b = 0 := by
  unfold sideI
  rw [if_neg (by omega)]
  rfl
theorem side_fit (x y z : Int) (h : x.natAbs ≤ 1) (h2 : y.natAbs ≤ 1) (h3 : z.natAbs ≤ 1) : Fit (.list [.int x, .int y, .int z]) := by
  have f : ∀ w : Int, w.natAbs ≤ 1 → (PyData.int w).showable = true := fun w hw => sh_int (k := 64) (bd_small (by omega) (by decide))
  refine ⟨?_, ?_, ?_⟩
  · have h1 := f x h
    have h2 := f y h2
    have h3 := f z h3
    simp [PyData.showable, PyData.showableAll] at h1 h2 h3 ⊢
    exact ⟨h1, h2, h3⟩
  · have e : wt (.list [.int x, .int y, .int z]) = wt (.list [.int 0, .int 0, .int 0]) := rfl
    rw [e]
    decide +kernel
  · have e : PyData.depth (.list [.int x, .int y, .int z]) = PyData.depth (.list [.int 0, .int 0, .int 0]) := rfl
    rw [e]
    decide
theorem side_le (a b c d : Int) : (sideI a b c d).natAbs ≤ 1 := by
  unfold sideI
  split <;> split <;> decide
/-- a law's promise -/
def spLaw (K : PySem.W.Frag) : Sp := fun vs H Q _ => ∃ (a : Addr) (ns : List Int), vs = [.ref a] ∧ SqL K H a (ns.map V.int) ∧ ns.length ≤ 63 ∧ ∀ H', Q (.bl true) H'
end VB

/-! VZ1: zip of any two among lists, tuples, texts: the library's level -/
namespace VZ
open PySem PySem.Spec L2
open PySem.Sem (wp)
section
variable {prog : Program} {w : World} {A : Around} {E : Value → Shared → Prop} {s : Shared}
/-- the next sign of a text's iterator -/
theorem nx_ascii {it : Addr} {x : Str} {t : Tok} {i c : Nat} {Q : Value → Shared → Prop} (si : s.heap.IsStrIter it "str_ascii_iterator" x t i) (hc : x.cps[i]? = some c)
    (k : ∀ h', h'.IsStrIter it "str_ascii_iterator" x t (i + 1) → Heap.SameBut it s.heap h' → Q (.str ⟨#[c]⟩ s.toks) { s with heap := h', toks := s.toks + 1 }) :
    wpAny (model prog w) A (Builtin.SmallTypes.nextOf (.ref it)) Q E s := by
  obtain ⟨ob, e1, e2, e3⟩ := id si
  unfold Builtin.SmallTypes.nextOf
  refine wpAny_bind (wpAny_callSpecial?_slot (name := Str.ofString "__next__") si.typeIs F.slot_str_ascii_iterator_next ?_)
  refine wpAny_call_entry F.slot_str_ascii_iterator_next si.typeIs F.entry_str_ascii_iterator_next ?_ (F.args_str_ascii_iterator_next_1 _)
  show wpAny _ _ (field (.ref it) 0 >>= _) _ _ _
  refine wpAny_bind (wpAny_field e1 e3 (x := .str x t) rfl ?_)
  show wpAny _ _ (field (.ref it) 1 >>= _) _ _ _
  refine wpAny_bind (wpAny_field e1 e3 (x := .int i 0) rfl ?_)
  simp only [Int.toNat_natCast, hc]
  refine wpAny_bind (wpAny_setField e1 e3 (by simp) (wpAny_bind (wpAny_mkStr (wpAny_pure ⟨_, rfl, wpAny_pure (k _ ?_ (Heap.SameBut.update ..))⟩) (by show 1 ≤ sizeLine; decide))))
  refine ⟨_, Heap.get?_update_self _ e1 (Obj.isFreed_of_fields (Obj.data_mapFields e3 _)), (Obj.cls_mapFields ..).trans e2, ?_⟩
  rw [Obj.data_mapFields e3]
  simp [rawInt]
theorem nx_wide {it : Addr} {x : Str} {t : Tok} {i c : Nat} {Q : Value → Shared → Prop} (si : s.heap.IsStrIter it "str_iterator" x t i) (hc : x.cps[i]? = some c)
    (k : ∀ h', h'.IsStrIter it "str_iterator" x t (i + 1) → Heap.SameBut it s.heap h' → Q (.str ⟨#[c]⟩ s.toks) { s with heap := h', toks := s.toks + 1 }) :
    wpAny (model prog w) A (Builtin.SmallTypes.nextOf (.ref it)) Q E s := by
  obtain ⟨ob, e1, e2, e3⟩ := id si
  unfold Builtin.SmallTypes.nextOf
  refine wpAny_bind (wpAny_callSpecial?_slot (name := Str.ofString "__next__") si.typeIs F.slot_str_iterator_next ?_)
  refine wpAny_call_entry F.slot_str_iterator_next si.typeIs F.entry_str_iterator_next ?_ (F.args_str_iterator_next_1 _)
  show wpAny _ _ (field (.ref it) 0 >>= _) _ _ _
  refine wpAny_bind (wpAny_field e1 e3 (x := .str x t) rfl ?_)
  show wpAny _ _ (field (.ref it) 1 >>= _) _ _ _
  refine wpAny_bind (wpAny_field e1 e3 (x := .int i 0) rfl ?_)
  simp only [Int.toNat_natCast, hc]
  refine wpAny_bind (wpAny_setField e1 e3 (by simp) (wpAny_bind (wpAny_mkStr (wpAny_pure ⟨_, rfl, wpAny_pure (k _ ?_ (Heap.SameBut.update ..))⟩) (by show 1 ≤ sizeLine; decide))))
  refine ⟨_, Heap.get?_update_self _ e1 (Obj.isFreed_of_fields (Obj.data_mapFields e3 _)), (Obj.cls_mapFields ..).trans e2, ?_⟩
  rw [Obj.data_mapFields e3]
  simp [rawInt]
/-- StopIteration, new, raised where nothing is handled -/
theorem stop_new {α : Type} {Q : α → Shared → Prop} (hh : A.handled = none)
    (k : ∀ h' e, (∀ b o, s.heap.get? b = some o → h'.get? b = some o) → (∃ o, h'.get? e = some o ∧ o.cls = .type "StopIteration") → E (.ref e) { s with heap := h' }) :
    wpAny (model prog w) A (newExc (.type "StopIteration") [] >>= fun e => (raiseNew e : Sem α)) Q E s := by
  refine wpAny_bind ?_
  simp only [newExc, newTuple]
  refine wpAny_bind (wpAny_newObj_type ?_ (by size_fits))
  refine wpAny_bind (m := firstArgMember _ _) (wpAny_of_eq (a := Value.none) (by first | rfl | (simp only [firstArgMember]; rfl)) ?_)
  refine wpAny_newObj_type ?_ (by size_fits)
  simp only [raiseNew]
  refine wpAny_bind (wpAny_handled ?_)
  rw [hh]
  refine wpAny_bind (wpAny_pure (wpAny_throw ?_))
  exact k _ _ (fun b o z => Heap.get?_push_of_some _ (Heap.get?_push_of_some _ z)) ⟨_, Heap.get?_push_size _ rfl, rfl⟩
theorem nx_ascii_end {it : Addr} {x : Str} {t : Tok} {i : Nat} {Q : Value → Shared → Prop} (hh : A.handled = none) (si : s.heap.IsStrIter it "str_ascii_iterator" x t i) (hc : x.cps[i]? = none)
    (k : ∀ h' e, Heap.ExtBut it s.heap h' → (∃ o, h'.get? e = some o ∧ o.cls = .type "StopIteration") → E (.ref e) { s with heap := h' }) :
    wpAny (model prog w) A (Builtin.SmallTypes.nextOf (.ref it)) Q E s := by
  obtain ⟨ob, e1, e2, e3⟩ := id si
  unfold Builtin.SmallTypes.nextOf
  refine wpAny_bind (wpAny_callSpecial?_slot (name := Str.ofString "__next__") si.typeIs F.slot_str_ascii_iterator_next ?_)
  refine wpAny_call_entry F.slot_str_ascii_iterator_next si.typeIs F.entry_str_ascii_iterator_next ?_ (F.args_str_ascii_iterator_next_1 _)
  show wpAny _ _ (field (.ref it) 0 >>= _) _ _ _
  refine wpAny_bind (wpAny_field e1 e3 (x := .str x t) rfl ?_)
  show wpAny _ _ (field (.ref it) 1 >>= _) _ _ _
  refine wpAny_bind (wpAny_field e1 e3 (x := .int i 0) rfl ?_)
  simp only [Int.toNat_natCast, hc]
  refine wpAny_bind (wpAny_rule (wpAny_bind (wpAny_setField e1 e3 (by simp) (wpAny_bind (wpAny_letGo ?_)))))
  refine stop_new (α := Fin) (show A.in1.handled = none from hh) fun h' e ke he => k h' e (fun b o hb z => ke b o ((Heap.SameBut.update ..).extBut b o hb z)) he
theorem nx_wide_end {it : Addr} {x : Str} {t : Tok} {i : Nat} {Q : Value → Shared → Prop} (hh : A.handled = none) (si : s.heap.IsStrIter it "str_iterator" x t i) (hc : x.cps[i]? = none)
    (k : ∀ h' e, Heap.ExtBut it s.heap h' → (∃ o, h'.get? e = some o ∧ o.cls = .type "StopIteration") → E (.ref e) { s with heap := h' }) :
    wpAny (model prog w) A (Builtin.SmallTypes.nextOf (.ref it)) Q E s := by
  obtain ⟨ob, e1, e2, e3⟩ := id si
  unfold Builtin.SmallTypes.nextOf
  refine wpAny_bind (wpAny_callSpecial?_slot (name := Str.ofString "__next__") si.typeIs F.slot_str_iterator_next ?_)
  refine wpAny_call_entry F.slot_str_iterator_next si.typeIs F.entry_str_iterator_next ?_ (F.args_str_iterator_next_1 _)
  show wpAny _ _ (field (.ref it) 0 >>= _) _ _ _
  refine wpAny_bind (wpAny_field e1 e3 (x := .str x t) rfl ?_)
  show wpAny _ _ (field (.ref it) 1 >>= _) _ _ _
  refine wpAny_bind (wpAny_field e1 e3 (x := .int i 0) rfl ?_)
  simp only [Int.toNat_natCast, hc]
  refine wpAny_bind (wpAny_rule (wpAny_bind (wpAny_setField e1 e3 (by simp) (wpAny_bind (wpAny_letGo ?_)))))
  refine stop_new (α := Fin) (show A.in1.handled = none from hh) fun h' e ke he => k h' e (fun b o hb z => ke b o ((Heap.SameBut.update ..).extBut b o hb z)) he
end
/-! ### what may be walked -/
inductive Src where
  | lst (a : Addr) | tup (a : Addr) | str (x : Str)
def Src.v : Src → V
  | .lst a => .ref a
  | .tup a => .ref a
  | .str x => .str x
/-- what it holds, in a heap -/
def Src.at (h : Heap) (xs : List V) : Src → Prop
  | .lst a => ∃ us : List Value, Vals xs us ∧ h.IsList a us.toArray
  | .tup a => ∃ us : List Value, Vals xs us ∧ h.IsTuple a us.toArray
  | .str x => xs = x.cps.toList.map fun c => V.str ⟨#[c]⟩
/-- its iterator -/
def Src.it (h : Heap) (it : Addr) (i : Nat) : Src → Prop
  | .lst a => h.IsListIter it a i
  | .tup a => h.IsTupleIter it a i
  | .str x => ∃ t, h.IsStrIter it "str_ascii_iterator" x t i ∨ h.IsStrIter it "str_iterator" x t i
/-- its own address is none of these -/
def Src.off (l : List Addr) : Src → Prop
  | .lst a => a ∉ l
  | .tup a => a ∉ l
  | .str _ => True
def SK (K : PySem.W.Frag) (H : Hp) (xs : List V) : Src → Prop
  | .lst a => SqL K H a xs
  | .tup a => SqT K H a xs
  | .str x => xs = x.cps.toList.map fun c => V.str ⟨#[c]⟩
theorem Src.at.ext {S : Src} {h h' : Heap} {xs : List V} {b : Addr} (e : Heap.ExtBut b h h') (o : S.off [b]) (z : S.at h xs) : S.at h' xs := by
  cases S with
  | lst a => obtain ⟨us, r, l⟩ := z; exact ⟨us, r, l.extBut e fun q => o (by simp [q])⟩
  | tup a => obtain ⟨us, r, l⟩ := z; exact ⟨us, r, l.extBut e fun q => o (by simp [q])⟩
  | str x => exact z
theorem Src.it.ext {S : Src} {h h' : Heap} {it i b : Nat} (e : Heap.ExtBut b h h') (o : it ≠ b) (z : S.it h it i) : S.it h' it i := by
  cases S with
  | lst a => exact Heap.IsListIter.extBut z e o
  | tup a => exact Heap.IsTupleIter.extBut z e o
  | str x =>
    obtain ⟨t, ⟨ob, e1, e2⟩ | ⟨ob, e1, e2⟩⟩ := z
    · exact ⟨t, .inl ⟨ob, e _ _ o e1, e2⟩⟩
    · exact ⟨t, .inr ⟨ob, e _ _ o e1, e2⟩⟩
theorem Src.it.obj {S : Src} {h : Heap} {it i : Nat} (z : S.it h it i) : ∃ ob, h.get? it = some ob ∧ ∀ v, ob.data ≠ .cell v := by
  cases S with
  | lst a => obtain ⟨ob, e1, _, e2⟩ := z; exact ⟨ob, e1, fun v q => by rw [e2] at q; cases q⟩
  | tup a => obtain ⟨ob, e1, _, e2⟩ := z; exact ⟨ob, e1, fun v q => by rw [e2] at q; cases q⟩
  | str x =>
    obtain ⟨t, ⟨ob, e1, _, e2⟩ | ⟨ob, e1, _, e2⟩⟩ := z
    · exact ⟨ob, e1, fun v q => by rw [e2] at q; cases q⟩
    · exact ⟨ob, e1, fun v q => by rw [e2] at q; cases q⟩
theorem Src.it.keep {S : Src} {h h' : Heap} {it i : Nat} (k : ∀ o, h.get? it = some o → h'.get? it = some o) (z : S.it h it i) : S.it h' it i := by
  cases S with
  | lst a => exact Heap.IsListIter.at z k
  | tup a => exact Heap.IsTupleIter.at z k
  | str x =>
    obtain ⟨t, ⟨ob, e1, e2⟩ | ⟨ob, e1, e2⟩⟩ := z
    · exact ⟨t, .inl ⟨ob, k _ e1, e2⟩⟩
    · exact ⟨t, .inr ⟨ob, k _ e1, e2⟩⟩
section
variable {prog : Program} {w : World} {A : Around} {E : Value → Shared → Prop} {s : Shared}
theorem src_item {S : Src} {xs : List V} {x : V} {it i : Nat} {Q : Value → Shared → Prop} (ha : S.at s.heap xs) (hi : S.it s.heap it i) (hx : xs[i]? = some x)
    (k : ∀ u h' tk, RelV x u → S.it h' it (i + 1) → Heap.SameBut it s.heap h' → Q u { s with heap := h', toks := tk }) : wpAny (model prog w) A (Builtin.SmallTypes.nextOf (.ref it)) Q E s := by
  cases S with
  | lst a =>
    obtain ⟨us, r, l⟩ := ha
    obtain ⟨u, hu, ru⟩ := r.get hx
    exact wpAny_nextOf_list_item hi l (x := u) (by simpa using hu) fun h' z sb => k u h' s.toks ru z sb
  | tup a =>
    obtain ⟨us, r, l⟩ := ha
    obtain ⟨u, hu, ru⟩ := r.get hx
    exact RZ.nextOf_tuple_item hi l (x := u) (by simpa using hu) fun h' z sb => k u h' s.toks ru z sb
  | str z =>
    have e : xs = z.cps.toList.map fun c => V.str ⟨#[c]⟩ := ha
    subst e
    rw [List.getElem?_map] at hx
    cases hc : z.cps.toList[i]? with
    | none => rw [hc] at hx; cases hx
    | some c =>
      rw [hc] at hx
      cases hx
      obtain ⟨t, q | q⟩ := hi
      · exact nx_ascii q (by simpa using hc) fun h' y sb => k _ h' _ ⟨_, rfl⟩ ⟨t, .inl y⟩ sb
      · exact nx_wide q (by simpa using hc) fun h' y sb => k _ h' _ ⟨_, rfl⟩ ⟨t, .inr y⟩ sb
theorem src_end {S : Src} {xs : List V} {it i : Nat} {Q : Value → Shared → Prop} (hh : A.handled = none) (ha : S.at s.heap xs) (hi : S.it s.heap it i) (hx : xs[i]? = none)
    (k : ∀ h' e, Heap.ExtBut it s.heap h' → (∃ o, h'.get? e = some o ∧ o.cls = .type "StopIteration") → E (.ref e) { s with heap := h' }) : wpAny (model prog w) A (Builtin.SmallTypes.nextOf (.ref it)) Q E s := by
  cases S with
  | lst a =>
    obtain ⟨us, r, l⟩ := ha
    exact wpAny_nextOf_list_end hh hi l (by have := Vals.none_of r hx; simpa using this) k
  | tup a =>
    obtain ⟨us, r, l⟩ := ha
    exact RZ.nextOf_tuple_end hh hi l (by have := Vals.none_of r hx; simpa using this) k
  | str z =>
    have e : xs = z.cps.toList.map fun c => V.str ⟨#[c]⟩ := ha
    subst e
    have hc : z.cps[i]? = none := by
      rw [List.getElem?_map] at hx
      cases hc : z.cps.toList[i]? with
      | none => simpa using hc
      | some c => rw [hc] at hx; cases hx
    obtain ⟨t, q | q⟩ := hi
    · exact nx_ascii_end hh q hc k
    · exact nx_wide_end hh q hc k
/-- the iterator of a new walk -/
theorem src_iter {S : Src} {xs : List V} {u : Value} {Q : Value → Shared → Prop} (ha : S.at s.heap xs) (ru : RelV S.v u)
    (k : ∀ o, S.it (s.heap.push o) s.heap.objs.size 0 → Q (.ref s.heap.objs.size) { s with heap := s.heap.push o }) : wpAny (model prog w) A (pyIter u) Q E s := by
  cases S with
  | lst a =>
    obtain ⟨us, r, l⟩ := ha
    obtain rfl : u = .ref a := ru
    exact wpAny_pyIter_list l (k _ ⟨_, Heap.get?_push_size _ rfl, rfl, rfl⟩)
  | tup a =>
    obtain ⟨us, r, l⟩ := ha
    obtain rfl : u = .ref a := ru
    exact wpAny_pyIter_tuple l (k _ ⟨_, Heap.get?_push_size _ rfl, rfl, rfl⟩)
  | str z =>
    obtain ⟨t, rfl⟩ : ∃ t, u = .str z t := ru
    cases hz : z.cps.all (· < 128)
    · exact wpAny_pyIter_wide hz (k _ ⟨t, .inr ⟨_, Heap.get?_push_size _ rfl, rfl, rfl⟩⟩)
    · exact wpAny_pyIter_ascii hz (k _ ⟨t, .inl ⟨_, Heap.get?_push_size _ rfl, rfl, rfl⟩⟩)
end
end VZ

/-! VZ2: the zip object over two sources -/
namespace VZ
open PySem PySem.Spec L2
open PySem.Sem (wp)
/-- the zip's own addresses, and its sources' -/
structure Far (z TI TO i1 i2 : Addr) (S T : Src) : Prop where
  a1 : TI ≠ z
  a2 : TO ≠ z
  a3 : i1 ≠ z
  a4 : i2 ≠ z
  a5 : TI ≠ TO
  a6 : TI ≠ i1
  a7 : TI ≠ i2
  a8 : TO ≠ i1
  a9 : TO ≠ i2
  a10 : i1 ≠ i2
  s : S.off [z, TO, i1, i2]
  t : T.off [z, TO, i1, i2]
theorem Src.off.one {S : Src} {l : List Addr} {b : Addr} (h : S.off l) (hb : b ∈ l) : S.off [b] := by
  cases S with
  | lst a => exact fun q => h (by rw [List.mem_singleton.mp q]; exact hb)
  | tup a => exact fun q => h (by rw [List.mem_singleton.mp q]; exact hb)
  | str x => trivial
section
variable {prog : Program} {w : World} {A : Around} {E : Value → Shared → Prop} {s : Shared}
/-- what a turn leaves -/
structure Turned (n : Nat) (z TI TO i1 i2 : Addr) (S T : Src) (k : Nat) (u v : Value) (h h' : Heap) : Prop where
  zp : IsZip h' z TI TO (rawInt n)
  to : IsPair h' TO u v
  it1 : S.it h' i1 (k + 1)
  it2 : T.it h' i2 (k + 1)
  new : IsPair h' n u v
  size : h'.objs.size = n + 1
  keep : ∀ c o, c ≠ z → c ≠ TO → c ≠ i1 → c ≠ i2 → h.get? c = some o → h'.get? c = some o
theorem zip_turn {z TI TO i1 i2 : Addr} {S T : Src} {xs ys : List V} {k : Nat} {x y : V} {p q : Value} {Q : Value → Shared → Prop} (D : Far z TI TO i1 i2 S T)
    (zp : IsZip s.heap z TI TO .none) (ti : IsPair s.heap TI (.ref i1) (.ref i2)) (to : IsPair s.heap TO p q)
    (g1 : S.it s.heap i1 k) (g2 : T.it s.heap i2 k) (b1 : S.at s.heap xs) (b2 : T.at s.heap ys) (hx : xs[k]? = some x) (hy : ys[k]? = some y)
    (fin : ∀ u v h' tk, RelV x u → RelV y v → Turned s.heap.objs.size z TI TO i1 i2 S T k u v s.heap h' → Q (.ref s.heap.objs.size) { s with heap := h', toks := tk }) :
    wpAny (model prog w) A (Builtin.«zip.__next__» ⟨[.ref z], []⟩) (fun f s' => ∃ v, f = .done (.ret v) ∧ Q v s') E s := by
  have oz := D.s.one (b := z) (by simp)
  have pz := D.t.one (b := z) (by simp)
  have p1 := D.t.one (b := i1) (by simp)
  have pt := D.t.one (b := TO) (by simp)
  show wpAny _ _ (field (.ref z) 2 >>= _) _ _ _
  refine wpAny_bind (wpAny_field zp rfl (x := .bool false) rfl ?_)
  show wpAny _ _ (field (.ref z) 3 >>= _) _ _ _
  refine wpAny_bind (wpAny_field zp rfl (x := .ref TI) rfl (wpAny_bind (wpAny_seqItems ti rfl ?_)))
  show wpAny _ _ (Builtin.SmallTypes.ownedTupleIsFree (.ref z) >>= _) _ _ _
  refine wpAny_bind ?_
  unfold Builtin.SmallTypes.ownedTupleIsFree
  refine wpAny_bind (wpAny_field zp rfl (x := .none) rfl (wpAny_pure ?_))
  simp only [if_true]
  refine wpAny_bind (wpAny_rule (wpAny_bind (wpAny_field zp rfl (x := .ref TO) rfl (wpAny_bind (wpAny_setField_rec zp (by simp) fun h1 zp1 c1 => ?_)))))
  have zp1 : IsZip h1 z TI TO .ellipsis := zp1
  refine wpAny_bind ?_
  simp only [List.zipIdx_cons, List.zipIdx_nil, List.forIn_cons, List.forIn_nil]
  refine wpAny_bind (wpAny_bind (wpAny_onRaise ?_))
  show wpAny _ _ (Builtin.SmallTypes.nextOf (.ref i1) >>= _) _ _ _
  refine wpAny_bind (src_item (S := S) (b1.ext c1.extBut oz) (g1.ext c1.extBut D.a3) hx fun u h2 t2 ru gg1 c2 => wpAny_pure ?_)
  have to2 : IsPair h2 TO p q := c2.extBut _ _ D.a8 (c1.extBut _ _ D.a2 to)
  refine wpAny_bind (wpAny_seqItems to2 rfl (wpAny_bind (wpAny_updateSeq_pair to2 fun h3 to3 c3 => ?_)))
  have to3 : IsPair h3 TO u q := to3
  refine wpAny_bind (wpAny_letGo (wpAny_pure ?_))
  refine wpAny_bind (wpAny_bind (wpAny_onRaise ?_))
  show wpAny _ _ (Builtin.SmallTypes.nextOf (.ref i2) >>= _) _ _ _
  refine wpAny_bind (src_item (S := T) (((b2.ext c1.extBut pz).ext c2.extBut p1).ext c3.extBut pt)
    (((g2.ext c1.extBut D.a4).ext c2.extBut D.a10.symm).ext c3.extBut D.a9.symm) hy fun v h4 t4 rv gg2 c4 => wpAny_pure ?_)
  have to4 : IsPair h4 TO u q := c4.extBut _ _ D.a9 to3
  refine wpAny_bind (wpAny_seqItems to4 rfl (wpAny_bind (wpAny_updateSeq_pair to4 fun h5 to5 c5 => ?_)))
  have to5 : IsPair h5 TO u v := to5
  refine wpAny_bind (wpAny_letGo (wpAny_pure (wpAny_pure ?_)))
  refine wpAny_bind (wpAny_seqItems to5 rfl (wpAny_bind (wpAny_newTuple ?_)))
  have sz : h5.objs.size = s.heap.objs.size := by rw [c5.1, c4.1, c3.1, c2.1, c1.1]
  have zp5 : IsZip h5 z TI TO .ellipsis := c5.extBut _ _ D.a2.symm (c4.extBut _ _ D.a4.symm (c3.extBut _ _ D.a2.symm (c2.extBut _ _ D.a3.symm zp1)))
  have up5 : ∀ c o, c ≠ z → c ≠ TO → c ≠ i1 → c ≠ i2 → s.heap.get? c = some o → h5.get? c = some o := fun c o d1 d2 d3 d4 e =>
    c5.extBut _ _ d2 (c4.extBut _ _ d4 (c3.extBut _ _ d2 (c2.extBut _ _ d3 (c1.extBut _ _ d1 e))))
  have k1 : S.it h5 i1 (k + 1) := ((gg1.ext c3.extBut D.a8.symm).ext c4.extBut D.a10).ext c5.extBut D.a8.symm
  have k2 : T.it h5 i2 (k + 1) := gg2.ext c5.extBut D.a9.symm
  show wpAny _ _ (Builtin.SmallTypes.ownedTupleHandOut (.ref z) (.ref h5.objs.size) >>= _) _ _ _
  refine wpAny_bind ?_
  unfold Builtin.SmallTypes.ownedTupleHandOut
  have zp6 : IsZip (h5.push { cls := .type "tuple", data := .seq #[u, v] }) z TI TO .ellipsis := Heap.get?_push_of_some _ zp5
  refine wpAny_bind (wpAny_setField_rec zp6 (by simp) fun h7 zp7 c7 => ?_)
  have zp7 : IsZip h7 z TI TO (rawInt h5.objs.size) := zp7
  refine wpAny_setField_rec zp7 (by simp) fun h8 zp8 c8 => ?_
  have zp8 : IsZip h8 z TI TO (rawInt h5.objs.size) := zp8
  have nz : h5.objs.size ≠ z := Nat.ne_of_gt (Heap.lt_size zp5)
  have up8 : ∀ c o, c ≠ z → h5.get? c = some o → h8.get? c = some o := fun c o d e => c8.extBut _ _ d (c7.extBut _ _ d (Heap.get?_push_of_some _ e))
  have nw : IsPair h8 h5.objs.size u v := c8.extBut _ _ nz (c7.extBut _ _ nz (Heap.get?_push_size _ rfl))
  have sz8 : h8.objs.size = h5.objs.size + 1 := by rw [c8.1, c7.1, Heap.size_push]
  rw [sz] at zp8 nw sz8
  refine wpAny_pure ⟨_, rfl, ?_⟩
  show Q (.ref h5.objs.size) _
  rw [sz]
  exact fin u v h8 _ ru rv ⟨zp8, up8 _ _ D.a2 to5, k1.keep fun o e => up8 _ o D.a3 e, k2.keep fun o e => up8 _ o D.a4 e, nw, sz8, fun c o d1 d2 d3 d4 e => up8 c o d1 (up5 c o d1 d2 d3 d4 e)⟩
theorem zip_over {z TI TO i1 i2 : Addr} {S T : Src} {xs ys : List V} {k : Nat} {p q : Value} {Q : Fin → Shared → Prop} (hh : A.handled = none) (D : Far z TI TO i1 i2 S T)
    (zp : IsZip s.heap z TI TO .none) (ti : IsPair s.heap TI (.ref i1) (.ref i2)) (to : IsPair s.heap TO p q)
    (g1 : S.it s.heap i1 k) (g2 : T.it s.heap i2 k) (b1 : S.at s.heap xs) (b2 : T.at s.heap ys) (over : xs[k]? = none ∨ ys[k]? = none)
    (fin : ∀ h' e tk, (∀ c o, c ≠ z → c ≠ TO → c ≠ i1 → c ≠ i2 → s.heap.get? c = some o → h'.get? c = some o) → (∃ o, h'.get? e = some o ∧ o.cls = .type "StopIteration") → E (.ref e) { s with heap := h', toks := tk }) :
    wpAny (model prog w) A (Builtin.«zip.__next__» ⟨[.ref z], []⟩) Q E s := by
  have oz := D.s.one (b := z) (by simp)
  have pz := D.t.one (b := z) (by simp)
  have p1 := D.t.one (b := i1) (by simp)
  have pt := D.t.one (b := TO) (by simp)
  show wpAny _ _ (field (.ref z) 2 >>= _) _ _ _
  refine wpAny_bind (wpAny_field zp rfl (x := .bool false) rfl ?_)
  show wpAny _ _ (field (.ref z) 3 >>= _) _ _ _
  refine wpAny_bind (wpAny_field zp rfl (x := .ref TI) rfl (wpAny_bind (wpAny_seqItems ti rfl ?_)))
  show wpAny _ _ (Builtin.SmallTypes.ownedTupleIsFree (.ref z) >>= _) _ _ _
  refine wpAny_bind ?_
  unfold Builtin.SmallTypes.ownedTupleIsFree
  refine wpAny_bind (wpAny_field zp rfl (x := .none) rfl (wpAny_pure ?_))
  simp only [if_true]
  refine wpAny_bind (wpAny_rule (wpAny_bind (wpAny_field zp rfl (x := .ref TO) rfl (wpAny_bind (wpAny_setField_rec zp (by simp) fun h1 zp1 c1 => ?_)))))
  have zp1 : IsZip h1 z TI TO .ellipsis := zp1
  refine wpAny_bind ?_
  simp only [List.zipIdx_cons, List.zipIdx_nil, List.forIn_cons, List.forIn_nil]
  refine wpAny_bind (wpAny_bind (wpAny_onRaise ?_))
  show wpAny _ _ (Builtin.SmallTypes.nextOf (.ref i1) >>= _) _ _ _
  cases hx : xs[k]? with
  | none =>
    refine wpAny_bind (src_end (S := S) hh (b1.ext c1.extBut oz) (g1.ext c1.extBut D.a3) hx fun h2 e c2 he => ?_)
    obtain ⟨oe, he1, he2⟩ := he
    have zp2 : IsZip h2 z TI TO .ellipsis := c2 _ _ D.a3.symm zp1
    have ez : e ≠ z := fun q => by
      subst q
      rw [zp2] at he1
      cases he1
      exact nomatch (show Value.type "zip" = Value.type "StopIteration" from he2)
    refine wpAny_setField_rec zp2 (by simp) fun h3 _ c3 => fin h3 e s.toks (fun c o d1 d2 d3 d4 e => c3.extBut _ _ d1 (c2 _ _ d3 (c1.extBut _ _ d1 e))) ⟨oe, c3.extBut _ _ ez he1, he2⟩
  | some x =>
    have hy : ys[k]? = none := by
      rcases over with h | h
      · rw [hx] at h; cases h
      · exact h
    refine wpAny_bind (src_item (S := S) (b1.ext c1.extBut oz) (g1.ext c1.extBut D.a3) hx fun u h2 t2 ru gg1 c2 => wpAny_pure ?_)
    have to2 : IsPair h2 TO p q := c2.extBut _ _ D.a8 (c1.extBut _ _ D.a2 to)
    refine wpAny_bind (wpAny_seqItems to2 rfl (wpAny_bind (wpAny_updateSeq_pair to2 fun h3 to3 c3 => ?_)))
    refine wpAny_bind (wpAny_letGo (wpAny_pure ?_))
    refine wpAny_bind (wpAny_bind (wpAny_onRaise ?_))
    show wpAny _ _ (Builtin.SmallTypes.nextOf (.ref i2) >>= _) _ _ _
    refine wpAny_bind (src_end (S := T) hh (((b2.ext c1.extBut pz).ext c2.extBut p1).ext c3.extBut pt)
      (((g2.ext c1.extBut D.a4).ext c2.extBut D.a10.symm).ext c3.extBut D.a9.symm) hy fun h4 e c4 he => ?_)
    obtain ⟨oe, he1, he2⟩ := he
    have zp4 : IsZip h4 z TI TO .ellipsis := c4 _ _ D.a4.symm (c3.extBut _ _ D.a2.symm (c2.extBut _ _ D.a3.symm zp1))
    have ez : e ≠ z := fun q => by
      subst q
      rw [zp4] at he1
      cases he1
      exact nomatch (show Value.type "zip" = Value.type "StopIteration" from he2)
    refine wpAny_setField_rec zp4 (by simp) fun h5 _ c5 => fin h5 e t2 (fun c o d1 d2 d3 d4 e => c5.extBut _ _ d1 (c4 _ _ d4 (c3.extBut _ _ d2 (c2.extBut _ _ d3 (c1.extBut _ _ d1 e))))) ⟨oe, c5.extBut _ _ ez he1, he2⟩
theorem next_turn {z TI TO i1 i2 : Addr} {S T : Src} {xs ys : List V} {k : Nat} {x y : V} {p q : Value} {Q : Option Value → Shared → Prop} (D : Far z TI TO i1 i2 S T)
    (zp : IsZip s.heap z TI TO .none) (ti : IsPair s.heap TI (.ref i1) (.ref i2)) (to : IsPair s.heap TO p q)
    (g1 : S.it s.heap i1 k) (g2 : T.it s.heap i2 k) (b1 : S.at s.heap xs) (b2 : T.at s.heap ys) (hx : xs[k]? = some x) (hy : ys[k]? = some y)
    (fin : ∀ u v h' tk, RelV x u → RelV y v → Turned s.heap.objs.size z TI TO i1 i2 S T k u v s.heap h' → Q (some (.ref s.heap.objs.size)) { s with heap := h', toks := tk }) :
    wpAny (model prog w) A (pyNext (.ref z)) Q E s := by
  have ty : s.TypeIs (.ref z) "zip" := ⟨_, zp, rfl⟩
  unfold pyNext
  refine wpAny_bind (wpAny_attempt (wpAny_callSpecial?_slot (name := Str.ofString "__next__") ty F.slot_zip_next ?_))
  exact wpAny_call_entry F.slot_zip_next ty F.entry_zip_next (zip_turn D zp ti to g1 g2 b1 b2 hx hy fun u v h' tk a b c => wpAny_pure (fin u v h' tk a b c)) (F.args_zip_next_1 _)
theorem next_over {z TI TO i1 i2 : Addr} {S T : Src} {xs ys : List V} {k : Nat} {p q : Value} {Q : Option Value → Shared → Prop} (hh : A.handled = none) (D : Far z TI TO i1 i2 S T)
    (zp : IsZip s.heap z TI TO .none) (ti : IsPair s.heap TI (.ref i1) (.ref i2)) (to : IsPair s.heap TO p q)
    (g1 : S.it s.heap i1 k) (g2 : T.it s.heap i2 k) (b1 : S.at s.heap xs) (b2 : T.at s.heap ys) (over : xs[k]? = none ∨ ys[k]? = none)
    (fin : ∀ h' tk, (∀ c o, c ≠ z → c ≠ TO → c ≠ i1 → c ≠ i2 → s.heap.get? c = some o → h'.get? c = some o) → Q none { s with heap := h', toks := tk }) :
    wpAny (model prog w) A (pyNext (.ref z)) Q E s := by
  have ty : s.TypeIs (.ref z) "zip" := ⟨_, zp, rfl⟩
  unfold pyNext
  refine wpAny_bind (wpAny_attempt (wpAny_callSpecial?_slot (name := Str.ofString "__next__") ty F.slot_zip_next ?_))
  refine wpAny_call_entry F.slot_zip_next ty F.entry_zip_next (zip_over hh D zp ti to g1 g2 b1 b2 over fun h' e tk kk he => ?_) (F.args_zip_next_1 _)
  obtain ⟨o, e1, e2⟩ := he
  exact wpAny_bind (wpAny_isInstance (T := "StopIteration") (b := true) ⟨o, e1, e2⟩ isSubtype_stop (wpAny_pure (fin h' tk kk)))
end
/-- zip(a, b), as it is made -/
theorem zip_made (S T : Src) (xs ys : List V) (u v : Value) (ru : RelV S.v u) (rv : RelV T.v v) :
    Meets (Builtin.«zip.__new__» ⟨[.type "zip", u, v], []⟩) (fun _ R s => S.at s.heap xs ∧ (∀ o, T.at (s.heap.push o) ys) ∧
      ∀ h', IsZip h' (s.heap.objs.size + 4) (s.heap.objs.size + 2) (s.heap.objs.size + 3) .none → IsPair h' (s.heap.objs.size + 2) (.ref s.heap.objs.size) (.ref (s.heap.objs.size + 1)) →
        IsPair h' (s.heap.objs.size + 3) .none .none → S.it h' s.heap.objs.size 0 → T.it h' (s.heap.objs.size + 1) 0 → (∀ c o, s.heap.get? c = some o → h'.get? c = some o) →
        R (.ok (.ret (.ref (s.heap.objs.size + 4)))) { s with heap := h' }) :=
  .of_wp fun prog w A R s h => by
    obtain ⟨hp, g, d, tk, os⟩ := s
    obtain ⟨b1, b2, fin⟩ := h
    have hsub := sub_zip
    have key1 : ∀ {B : Around} {E : Value → Shared → Prop} {Q : Value → Shared → Prop}, (∀ o, S.it (hp.push o) hp.objs.size 0 → Q (.ref hp.objs.size) ⟨hp.push o, g, d, tk, os⟩) → wpAny (model prog w) B (pyIter u) Q E ⟨hp, g, d, tk, os⟩ :=
      fun k => src_iter (s := ⟨hp, g, d, tk, os⟩) b1 ru k
    have key2 : ∀ (o : Obj) {B : Around} {E : Value → Shared → Prop} {Q : Value → Shared → Prop}, (∀ o', T.it ((hp.push o).push o') (hp.push o).objs.size 0 → Q (.ref (hp.push o).objs.size) ⟨(hp.push o).push o', g, d, tk, os⟩) → wpAny (model prog w) B (pyIter v) Q E ⟨hp.push o, g, d, tk, os⟩ :=
      fun o _ _ _ k => src_iter (s := ⟨hp.push o, g, d, tk, os⟩) (b2 o) rv k
    repeat (any_goals (first | with_reducible refine key1 (fun o1 g1 => ?_) | with_reducible refine key2 _ (fun o2 g2 => ?_) | assumption | wp_step))
    have pg : ∀ (h : Heap) (ob : Obj), ob.isFreed = false → (h.push ob).get? h.objs.size = some ob := fun h ob hf => Heap.get?_push_size _ hf
    have s1 : (hp.push o1).objs.size = hp.objs.size + 1 := Heap.size_push ..
    have s2 : ((hp.push o1).push o2).objs.size = hp.objs.size + 2 := by rw [Heap.size_push, s1]
    generalize e3 : ((hp.push o1).push o2).push { cls := .type "tuple", data := .seq ((#[].push (Value.ref hp.objs.size)).push (Value.ref (hp.push o1).objs.size)).toList.toArray } = h3
    have s3 : h3.objs.size = hp.objs.size + 3 := by rw [← e3, Heap.size_push, s2]
    generalize e4 : h3.push { cls := .type "tuple", data := .seq (List.map (fun x => Value.none) ((#[].push (Value.ref hp.objs.size)).push (Value.ref (hp.push o1).objs.size)).toList).toArray } = h4
    have s4 : h4.objs.size = hp.objs.size + 4 := by rw [← e4, Heap.size_push, s3]
    have gi2 : ∀ c o, ((hp.push o1).push o2).get? c = some o → h3.get? c = some o := fun c o z => by rw [← e3]; exact Heap.get?_push_of_some _ z
    have gi3 : ∀ c o, h3.get? c = some o → h4.get? c = some o := fun c o z => by rw [← e4]; exact Heap.get?_push_of_some _ z
    have g3 : IsPair h3 (hp.objs.size + 2) (.ref hp.objs.size) (.ref (hp.objs.size + 1)) := by
      have q := pg ((hp.push o1).push o2) { cls := .type "tuple", data := .seq ((#[].push (Value.ref hp.objs.size)).push (Value.ref (hp.push o1).objs.size)).toList.toArray } rfl
      rw [e3, s2, s1] at q
      exact q
    have g4 : IsPair h4 (hp.objs.size + 3) .none .none := by
      have q := pg h3 { cls := .type "tuple", data := .seq (List.map (fun x => Value.none) ((#[].push (Value.ref hp.objs.size)).push (Value.ref (hp.push o1).objs.size)).toList).toArray } rfl
      rw [e4, s3] at q
      exact q
    refine ⟨_, rfl, ?_⟩
    rw [s4]
    have up : ∀ (ob : Obj) c o, h4.get? c = some o → (h4.push ob).get? c = some o := fun _ c o z => Heap.get?_push_of_some _ z
    refine fin _ ?_ (up _ _ _ (gi3 _ _ g3)) (up _ _ _ g4) ?_ ?_ fun c o z => up _ _ _ (gi3 _ _ (gi2 _ _ (Heap.get?_push_of_some _ (Heap.get?_push_of_some _ z))))
    · have q2 := pg h4 { cls := .type "zip", data := .fields #[.none, .bool false, .bool false, .ref ((hp.push o1).push o2).objs.size, .ref h3.objs.size] } rfl
      rw [s4, s2, s3] at q2
      show Heap.get? _ (hp.objs.size + 4) = _
      rw [s2, s3]
      exact q2
    · exact g1.keep fun o z => up _ _ _ (gi3 _ _ (gi2 _ _ (Heap.get?_push_of_some _ z)))
    · have q : T.it ((hp.push o1).push o2) (hp.objs.size + 1) 0 := by rw [← s1]; exact g2
      exact q.keep fun o z => up _ _ _ (gi3 _ _ (gi2 _ _ z))
end VZ

/-! VZ3: for x, y in zip(a, b): the rule -/
namespace VZ
open PySem PySem.Spec PyProof.Rows L2 VB
/-- the walk of the pairs of xs and ys, which stand still -/
def ItQ (K : PySem.W.Frag) (S T : Src) (xs ys : List V) : It :=
  ⟨fun i H => SK K H xs S ∧ SK K H ys T ∧ i < xs.length ∧ i < ys.length,
    fun i H v H' => ∃ p x y, v = .ref p ∧ H p = none ∧ H' = upd H p (.tup [x, y]) ∧ xs[i]? = some x ∧ ys[i]? = some y,
    fun i H => SK K H xs S ∧ SK K H ys T ∧ (xs.length ≤ i ∨ ys.length ≤ i)⟩
theorem sk_at {X : Cx} {pins : List (Addr × Obj)} {σ : L2.St} {H : Hp} {s : Shared} {S : Src} {xs : List V} (I : Inv X pins σ H s) (h : SK X.K H xs S) : S.at s.heap xs := by
  cases S with
  | lst a => obtain ⟨us, r, p, _⟩ := I.list h; exact ⟨us, r, p.isList⟩
  | tup a => obtain ⟨us, r, p, _⟩ := I.tuple h; exact ⟨us, r, p⟩
  | str x => exact h
theorem sk_lt {X : Cx} {pins : List (Addr × Obj)} {σ : L2.St} {H : Hp} {s : Shared} {S : Src} {xs : List V} (I : Inv X pins σ H s) (h : SK X.K H xs S) : ∀ l : List Addr, (∀ b ∈ l, s.heap.objs.size ≤ b) → S.off l := by
  intro l hl
  cases S with
  | lst a => obtain ⟨us, r, p, _⟩ := I.list h; exact fun q => Nat.lt_irrefl _ (Nat.lt_of_lt_of_le p.lt (hl _ q))
  | tup a => obtain ⟨us, r, p, _⟩ := I.tuple h; exact fun q => Nat.lt_irrefl _ (Nat.lt_of_lt_of_le p.lt (hl _ q))
  | str x => trivial
theorem turn_q {P : Program} {w : World} {K : PySem.W.Frag} {elts : List Expr} {kk : Nat} {tpos : Pos} {z TI TO i1 i2 : Addr} {S T : Src} {xs ys : List V} (D : Far z TI TO i1 i2 S T) :
    Turn P w K (.Tuple elts kk tpos) (ItQ K S T xs ys) [z, TI, TO, i1, i2] z (fun i h => IsZip h z TI TO .none ∧ IsPair h TI (.ref i1) (.ref i2) ∧ (∃ x y, IsPair h TO x y) ∧ S.it h i1 i ∧ T.it h i2 i) where
  mem := by simp
  obj := by
    intro i h st c hc
    obtain ⟨q1, q2, ⟨x, y, q3⟩, q4, q5⟩ := st
    have e : c = z ∨ c = TI ∨ c = TO ∨ c = i1 ∨ c = i2 := by simpa using hc
    rcases e with rfl | rfl | rfl | rfl | rfl
    · exact ⟨_, q1, fun v q => nomatch q⟩
    · exact ⟨_, q2, fun v q => nomatch q⟩
    · exact ⟨_, q3, fun v q => nomatch q⟩
    · exact q4.obj
    · exact q5.obj
  keep := by
    intro i h h' st k
    obtain ⟨q1, q2, ⟨x, y, q3⟩, q4, q5⟩ := st
    exact ⟨k z (by simp) _ q1, k TI (by simp) _ q2, ⟨x, y, k TO (by simp) _ q3⟩, q4.keep fun o e => k i1 (by simp) o e, q5.keep fun o e => k i2 (by simp) o e⟩
  item := by
    intro X hP hw hK hc i pins s σ H E I hf st hg
    subst hP hw hK
    obtain ⟨q1, q2, ⟨x0, y0, q3⟩, q4, q5⟩ := st
    obtain ⟨k1, k2, l1, l2⟩ := hg
    have hx : xs[i]? = some xs[i] := List.getElem?_eq_getElem l1
    have hy : ys[i]? = some ys[i] := List.getElem?_eq_getElem l2
    have zl : z < s.heap.objs.size := Heap.lt_size q1
    refine next_turn D q1 q2 q3 q4 q5 (sk_at I k1) (sk_at I k2) hx hy fun u v h' tk ru rv t => ?_
    refine ⟨_, rfl, wpAny_letOwnedTupleGo_zip (s := { s with heap := h', toks := tk }) t.zp fun h'' z'' sb => ?_⟩
    have nw : h''.get? s.heap.objs.size = some { cls := .type "tuple", data := .seq #[u, v] } := (sb.2 _ (Nat.ne_of_gt zl)).trans t.new
    have ok : ObjOk X.prog X.w (upd H s.heap.objs.size (.tup [xs[i], ys[i]])) h'' s.heap.objs.size (.tup [xs[i], ys[i]]) :=
      ⟨by show 2 ≤ sizeLine; decide, [u, v], .cons ru (.cons rv .nil), ⟨_, nw, rfl, _, rfl⟩⟩
    have away : ∀ c o, c ∉ [z, TI, TO, i1, i2] → s.heap.get? c = some o → h''.get? c = some o := fun c o hb e =>
      (sb.2 c fun q => hb (by simp [q])).trans (t.keep c o (fun q => hb (by simp [q])) (fun q => hb (by simp [q])) (fun q => hb (by simp [q])) (fun q => hb (by simp [q])) e)
    have J : Inv X pins σ (upd H s.heap.objs.size (.tup [xs[i], ys[i]])) { s with heap := h'', toks := tk } := I.turnedNew (t' := tk) (ch := [z, TI, TO, i1, i2]) away hf (Nat.le_refl _) ok
    refine ⟨.ref s.heap.objs.size, _, J, rfl, ⟨_, _, _, rfl, I.hok.fresh (Nat.le_refl _), rfl, hx, hy⟩, ⟨z'', ?_, ⟨u, v, ?_⟩, ?_, ?_⟩, fun c hcm => ?_⟩
    · exact (sb.2 _ D.a1).trans (t.keep _ _ D.a1 D.a5 D.a6 D.a7 q2)
    · exact (sb.2 _ D.a2).trans t.to
    · exact t.it1.keep fun o e => (sb.2 _ D.a3).trans e
    · exact t.it2.keep fun o e => (sb.2 _ D.a4).trans e
    · have lt : c < s.heap.objs.size := by
        have e : c = z ∨ c = TI ∨ c = TO ∨ c = i1 ∨ c = i2 := by simpa using hcm
        rcases e with rfl | rfl | rfl | rfl | rfl
        · exact zl
        · exact Heap.lt_size q2
        · exact Heap.lt_size q3
        · obtain ⟨_, e, _⟩ := q4.obj; exact Heap.lt_size e
        · obtain ⟨_, e, _⟩ := q5.obj; exact Heap.lt_size e
      rw [upd_ne (Nat.ne_of_lt lt)]
      exact (hf c hcm).1
  done := by
    intro X hP hw hK hc i pins s σ H E I hf st hg
    subst hP hw hK
    obtain ⟨q1, q2, ⟨x0, y0, q3⟩, q4, q5⟩ := st
    obtain ⟨k1, k2, l⟩ := hg
    have over : xs[i]? = none ∨ ys[i]? = none := by
      rcases l with l | l
      · exact .inl (List.getElem?_eq_none_iff.mpr l)
      · exact .inr (List.getElem?_eq_none_iff.mpr l)
    exact next_over (I.ok.hd hc) D q1 q2 q3 q4 q5 (sk_at I k1) (sk_at I k2) over fun h' tk kk => ⟨rfl, I.turnedL (t' := tk) (ch := [z, TI, TO, i1, i2]) (fun c o hb q =>
      kk c o (fun e => hb (by simp [e])) (fun e => hb (by simp [e])) (fun e => hb (by simp [e])) (fun e => hb (by simp [e])) q) hf⟩
  self := fun A i s Q E st h => wpAny_pyIter_zip st.1 h
/-- zip(a, b), each a list, a tuple or a text -/
def zK (K : PySem.W.Frag) (R : It → Hp → Prop) : List V → Hp → Prop := fun vs H => ∃ S T xs ys, vs = [S.v, T.v] ∧ SK K H xs S ∧ SK K H ys T ∧ R (ItQ K S T xs ys) H
def iZipQ (K : PySem.W.Frag) (ta : TA) : TI := fun σ H R => ta σ H (zK K R)
theorem pi_zipQ {X : Cx} {e e2 : Expr} {ta : TA} {p pos tpos : Pos} {elts : List Expr} {kk : Nat} (hg : Gl X "zip") (hm : X.mg "zip" = none) (ha : PA X [e, e2] ta)
    (hs : starEach [e, e2] X.env = (false, eval e X.env) :: starEach [e2] X.env := by rfl) (hpl : (backTo pos (starEach [e2] X.env)).any (·.1) = false := by rfl) :
    PI X (.Tuple elts kk tpos) (.Call (.Name "zip" p) [e, e2] [] pos) (iZipQ X.K ta) := by
  constructor
  intro pins s σ H R I h
  refine Call_ (ld_blt I hg hm PyProof.Rows.boot_zip (PyProof.Rows.callWith_type1 (thn (ha.run pos pins s σ H _ I h) fun us s1 z => ?_) hs hpl))
  obtain ⟨vs, H1, I1, r, S, T, xs, ys, rfl, k1, k2, q⟩ := z
  cases r with
  | cons r1 rr =>
    cases rr with
    | cons r2 rr =>
      cases rr
      have at2 : ∀ o, T.at (s1.heap.push o) ys := fun o => by
        have z := sk_at I1 k2
        cases T with
        | lst a => obtain ⟨vs, rv, l⟩ := z; exact ⟨vs, rv, l.push o⟩
        | tup a => obtain ⟨vs, rv, l⟩ := z; exact ⟨vs, rv, l.push o⟩
        | str x => exact z
      refine callType_new F.called_zip (by decide) (F.typeCall_zip_2 _ _) (F.newCall_zip_2 _ _) (fun obj => F.args_object_init_3 obj _ _) F.entry_zip_new (zip_made S T xs ys _ _ r1 r2) ?_
      refine ⟨sk_at I1 k1, at2, fun h' q1 q2 q3 q4 q5 kk => ?_⟩
      refine ⟨⟨_, q1, rfl⟩, wpAny_pyIter_zip q1 ?_⟩
      generalize hn : s1.heap.objs.size = n at *
      have J : Inv X pins σ H1 { s1 with heap := h' } := I1.kept (t' := s1.toks) kk
      have ne : ∀ a b : Nat, a ≠ b → ((n + a : Nat) : Addr) ≠ ((n + b : Nat) : Addr) := fun a b h e => h (Nat.add_left_cancel e)
      have big : ∀ c ∈ [n + 4, n + 2, n + 3, n, n + 1], s1.heap.objs.size ≤ c := by
        intro c hc
        rw [hn]
        have e : c = n + 4 ∨ c = n + 2 ∨ c = n + 3 ∨ c = n ∨ c = n + 1 := by simpa using hc
        rcases e with rfl | rfl | rfl | rfl | rfl
        · exact Nat.le_add_right _ _
        · exact Nat.le_add_right _ _
        · exact Nat.le_add_right _ _
        · exact Nat.le_refl _
        · exact Nat.le_add_right _ _
      have sm : ∀ c ∈ [n + 4, n + 3, n, n + 1], s1.heap.objs.size ≤ c := by
        intro c hc
        refine big c ?_
        have e : c = n + 4 ∨ c = n + 3 ∨ c = n ∨ c = n + 1 := by simpa using hc
        rcases e with rfl | rfl | rfl | rfl <;> simp
      have D : Far (n + 4) (n + 2) (n + 3) n (n + 1) S T :=
        ⟨ne 2 4 (by decide), ne 3 4 (by decide), ne 0 4 (by decide), ne 1 4 (by decide), ne 2 3 (by decide), ne 2 0 (by decide), ne 2 1 (by decide), ne 3 0 (by decide), ne 3 1 (by decide), ne 0 1 (by decide), sk_lt I1 k1 _ sm, sk_lt I1 k2 _ sm⟩
      refine ⟨n + 4, [n + 4, n + 2, n + 3, n, n + 1], _, _, H1, rfl, J, turn_q D, ⟨q1, q2, ⟨_, _, q3⟩, q4, q5⟩, fun c hc => ?_, q⟩
      exact I1.fpOk (big c hc) (I1.hok.fresh (big c hc))
end VZ

/-! VZ4: enumerate of a list, a tuple, a text; sum of a tuple; list of a text -/
namespace VZ
open PySem PySem.Spec L2
open PySem.Sem (wp)
section
variable {prog : Program} {w : World} {A : Around} {E : Value → Shared → Prop} {s : Shared}
theorem enum_turn {e it : Addr} {S : Src} {xs : List V} {k : Nat} {x : V} {old : Value} {Q : Value → Shared → Prop} (he : IsEnum s.heap e it k old) (hi : S.it s.heap it k) (ha : S.at s.heap xs) (hx : xs[k]? = some x) (hne : e ≠ it)
    (hQ : ∀ h' tk u t, RelV x u → IsEnumOut h' e it ((k : Int) + 1) u s.heap.objs.size → S.it h' it (k + 1) →
      h'.get? s.heap.objs.size = some { cls := .type "tuple", data := .seq #[.int k t, u] } →
      (∀ b o, b ≠ e → b ≠ it → s.heap.get? b = some o → h'.get? b = some o) → Q (.ref s.heap.objs.size) { s with heap := h', toks := tk }) :
    wpAny (model prog w) A (Builtin.«enumerate.__next__» ⟨[.ref e], []⟩) (fun fin s' => ∃ v, fin = .done (.ret v) ∧ Q v s') E s := by
  obtain ⟨hp, g, d, tk, os⟩ := s
  show wpAny _ _ (field (.ref e) 2 >>= _) _ _ _
  refine wpAny_bind (wpAny_field he rfl (x := .ref it) rfl ?_)
  refine wpAny_bind (src_item ha hi hx fun u h₁ tk1 ru hit₁ hs₁ => ?_)
  replace hs₁ : Heap.SameBut it hp h₁ := hs₁
  have he₁ : IsEnum h₁ e it k old := (hs₁.2 e hne).trans he
  show wpAny _ _ (field (.ref e) 3 >>= _) _ _ ⟨h₁, g, d, tk1, os⟩
  refine wpAny_bind (wpAny_field he₁ rfl (x := rawInt k) rfl ?_)
  show wpAny _ _ (field (.ref e) 4 >>= _) _ _ ⟨h₁, g, d, tk1, os⟩
  refine wpAny_bind (wpAny_field he₁ rfl (x := .none) rfl ?_)
  show wpAny _ _ (mkInt k >>= _) _ _ ⟨h₁, g, d, tk1, os⟩
  refine wpAny_bind (wpAny_mkInt ?_)
  show wpAny _ _ (setField (.ref e) 3 (rawInt ((k : Int) + 1)) >>= _) _ _ ⟨h₁, g, d, tk1 + 1, os⟩
  refine wpAny_bind (wpAny_setField_rec he₁ (by simp) fun h₂ he₂ hs₂ => ?_)
  replace hs₂ : Heap.SameBut e h₁ h₂ := hs₂
  replace he₂ : IsEnum h₂ e it ((k : Int) + 1) old := he₂
  show wpAny _ _ (setField (.ref e) 4 .none >>= _) _ _ ⟨h₂, g, d, tk1 + 1, os⟩
  refine wpAny_bind (wpAny_setField_rec he₂ (by simp) fun h₃ he₃ hs₃ => ?_)
  replace hs₃ : Heap.SameBut e h₂ h₃ := hs₃
  replace he₃ : IsEnum h₃ e it ((k : Int) + 1) old := he₃
  show wpAny _ _ (newTuple [.int k tk1, u] >>= _) _ _ ⟨h₃, g, d, tk1 + 1, os⟩
  refine wpAny_bind (wpAny_newTuple ?_)
  have he₄ : IsEnum (h₃.push { cls := .type "tuple", data := .seq #[.int k tk1, u] }) e it ((k : Int) + 1) old := Heap.get?_push_of_some _ he₃
  generalize hh₄ : h₃.push { cls := .type "tuple", data := .seq #[.int k tk1, u] } = h₄ at he₄
  have hsz : h₃.objs.size = hp.objs.size := by rw [hs₃.1, hs₂.1, hs₁.1]
  have hel : e < hp.objs.size := Heap.lt_size he
  have ht₄ : h₄.get? hp.objs.size = some { cls := .type "tuple", data := .seq #[.int k tk1, u] } := by rw [← hh₄, ← hsz]; exact Heap.get?_push_size _ rfl
  have hk₄ : ∀ b o, b ≠ e → b ≠ it → hp.get? b = some o → h₄.get? b = some o := fun b o hbe hbi hb => by
    rw [← hh₄]; exact Heap.get?_push_of_some _ (hs₃.extBut b o hbe (hs₂.extBut b o hbe (hs₁.extBut b o hbi hb)))
  have hit₄ : S.it h₄ it (k + 1) := by
    rw [← hh₄]
    exact ((hit₁.ext hs₂.extBut (Ne.symm hne)).ext hs₃.extBut (Ne.symm hne)).keep fun o z => Heap.get?_push_of_some _ z
  show wpAny _ _ (Builtin.SmallTypes.ownedTupleIsFree (.ref e) >>= _) _ _ ⟨h₄, g, d, tk1 + 1, os⟩
  rw [hsz]
  clear hh₄ he₃ hs₃ he₂ hs₂ he₁ hs₁ hit₁ hsz h₃ h₂ h₁
  refine wpAny_bind ?_
  · unfold Builtin.SmallTypes.ownedTupleIsFree
    refine wpAny_bind (wpAny_field he₄ rfl (x := .none) rfl (wpAny_pure ?_))
    simp only [if_true]
    refine wpAny_bind (wpAny_rule ?_)
    refine wpAny_bind (wpAny_field he₄ rfl (x := old) rfl ?_)
    refine wpAny_bind (wpAny_setField_rec he₄ (by simp) fun h₅ he₅ hs₅ => ?_)
    replace hs₅ : Heap.SameBut e h₄ h₅ := hs₅
    replace he₅ : IsEnum h₅ e it ((k : Int) + 1) u := he₅
    show wpAny _ _ (Builtin.SmallTypes.ownedTupleHandOut (.ref e) (.ref hp.objs.size) >>= _) _ _ ⟨h₅, g, d, tk1 + 1, os⟩
    refine wpAny_bind ?_
    · unfold Builtin.SmallTypes.ownedTupleHandOut
      refine wpAny_bind (wpAny_setField_rec he₅ (by simp) fun h₆ he₆ hs₆ => ?_)
      replace hs₆ : Heap.SameBut e h₅ h₆ := hs₆
      replace he₆ : IsEnumOut h₆ e it ((k : Int) + 1) u hp.objs.size := he₆
      refine wpAny_setField_rec he₆ (by simp) fun h₇ he₇ hs₇ => ?_
      replace hs₇ : Heap.SameBut e h₆ h₇ := hs₇
      replace he₇ : IsEnumOut h₇ e it ((k : Int) + 1) u hp.objs.size := he₇
      refine wpAny_bind (wpAny_letGo (wpAny_pure ⟨_, rfl, hQ h₇ _ u tk1 ru he₇ ?_ ?_ ?_⟩))
      · exact ((hit₄.ext hs₅.extBut (Ne.symm hne)).ext hs₆.extBut (Ne.symm hne)).ext hs₇.extBut (Ne.symm hne)
      · exact hs₇.extBut _ _ (Nat.ne_of_gt hel) (hs₆.extBut _ _ (Nat.ne_of_gt hel) (hs₅.extBut _ _ (Nat.ne_of_gt hel) ht₄))
      · exact fun b o hbe hbi hb => hs₇.extBut b o hbe (hs₆.extBut b o hbe (hs₅.extBut b o hbe (hk₄ b o hbe hbi hb)))
theorem enum_next {e it : Addr} {S : Src} {xs : List V} {k : Nat} {x : V} {old : Value} {Q : Option Value → Shared → Prop} (he : IsEnum s.heap e it k old) (hi : S.it s.heap it k) (ha : S.at s.heap xs) (hx : xs[k]? = some x) (hne : e ≠ it)
    (hQ : ∀ h' tk u t, RelV x u → IsEnumOut h' e it ((k : Int) + 1) u s.heap.objs.size → S.it h' it (k + 1) →
      h'.get? s.heap.objs.size = some { cls := .type "tuple", data := .seq #[.int k t, u] } →
      (∀ b o, b ≠ e → b ≠ it → s.heap.get? b = some o → h'.get? b = some o) → Q (some (.ref s.heap.objs.size)) { s with heap := h', toks := tk }) :
    wpAny (model prog w) A (pyNext (.ref e)) Q E s := by
  have hT : s.TypeIs (.ref e) "enumerate" := ⟨_, he, rfl⟩
  unfold pyNext
  exact wpAny_bind (wpAny_attempt (wpAny_callSpecial?_slot (name := Str.ofString "__next__") hT F.slot_enumerate_next
    (wpAny_call_entry F.slot_enumerate_next hT F.entry_enumerate_next
      (enum_turn he hi ha hx hne fun h' tk u t a b c d k => wpAny_pure (hQ h' tk u t a b c d k)) (F.args_enumerate_next_1 _))))
theorem enum_over {e it : Addr} {S : Src} {xs : List V} {k : Nat} {old : Value} {Q : Option Value → Shared → Prop} (hh : A.handled = none) (he : IsEnum s.heap e it k old) (hi : S.it s.heap it k) (ha : S.at s.heap xs) (hx : xs[k]? = none)
    (hQ : ∀ h', Heap.ExtBut it s.heap h' → Q none { s with heap := h' }) : wpAny (model prog w) A (pyNext (.ref e)) Q E s := by
  have hT : s.TypeIs (.ref e) "enumerate" := ⟨_, he, rfl⟩
  unfold pyNext
  refine wpAny_bind (wpAny_attempt (wpAny_callSpecial?_slot (name := Str.ofString "__next__") hT F.slot_enumerate_next
    (wpAny_call_entry F.slot_enumerate_next hT F.entry_enumerate_next ?_ (F.args_enumerate_next_1 _))))
  show wpAny _ _ (field (.ref e) 2 >>= _) _ _ _
  refine wpAny_bind (wpAny_field he rfl (x := .ref it) rfl ?_)
  refine wpAny_bind (src_end (show A.in1.handled = none from hh) ha hi hx fun h' x he' hx' => ?_)
  obtain ⟨o, ho, hc⟩ := hx'
  refine wpAny_bind (wpAny_isInstance (T := "StopIteration") (b := true) ⟨o, ho, hc⟩ isSubtype_stop ?_)
  exact wpAny_pure (hQ _ he')
end
open AutoSeq1 (wpAny_loadPart')
theorem meets_enumT (l : Addr) (items : Array Value) (n : Nat) (dct : Option Addr) (sl : Array (Option Value)) :
    Meets (Builtin.«enumerate.__new__» ⟨[.type "enumerate", .ref l], []⟩) (fun _ R s => s.heap.get? l = some { cls := .type "tuple", dict := dct, data := .seq items n, slots := sl } ∧
      R (.ok (.ret (.ref (s.heap.push { cls := .type "tuple_iterator", data := .fields #[.ref l, .int 0 0] }).objs.size)))
        { s with heap := (s.heap.push { cls := .type "tuple_iterator", data := .fields #[.ref l, .int 0 0] }).push { cls := .type "enumerate", data := .fields #[.none, .bool false, .ref s.heap.objs.size, rawInt 0, .none, .none] } }) :=
  .of_wp fun prog w A R s h => by
    obtain ⟨hp, g, d, tk, os⟩ := s; obtain ⟨hl, h⟩ := h
    have hsub := sub_enumerate
    have hL : Heap.IsTuple (Shared.heap ⟨hp, g, d, tk, os⟩) l items := ⟨_, hl, rfl, n, rfl⟩
    wp_walk using wpAny_loadPart' hl
    refine wpAny_stack_any fun st => wpAny_pure ?_
    split
    · rename_i c _ _ _ _ _
      cases (c == Value.type "enumerate")
      · wp_walk using wpAny_loadPart' hl, wpAny_pyIter_tuple hL
        exact ⟨_, rfl, h⟩
      · wp_walk using wpAny_loadPart' hl, wpAny_pyIter_tuple hL
        exact ⟨_, rfl, h⟩
    · wp_walk using wpAny_loadPart' hl, wpAny_pyIter_tuple hL
      exact ⟨_, rfl, h⟩
section
variable {prog : Program} {w : World} {A : Around} {E : Value → Shared → Prop} {s : Shared}
theorem call_enumT {l : Addr} {items : Array Value} {Q : Value → Shared → Prop} (hL : s.heap.IsTuple l items)
    (h : ∀ h', IsEnum h' (s.heap.objs.size + 1) s.heap.objs.size 0 .none → h'.IsTupleIter s.heap.objs.size l 0 →
      (∀ b o, s.heap.get? b = some o → h'.get? b = some o) → Q (.ref (s.heap.objs.size + 1)) { s with heap := h' }) :
    wpAny (model prog w) A (call (.type "enumerate") [.ref l]) Q E s := by
  obtain ⟨⟨c, dct, dt, sl⟩, hl, hc, n, hd⟩ := hL
  replace hc : c = .type "tuple" := hc
  replace hd : dt = .seq items n := hd
  subst hc hd
  refine callType_new F.called_enumerate (by decide) (F.typeCall_enumerate_1 _) (F.newCall_enumerate_1 _) (fun obj => F.args_object_init_2 obj _) F.entry_enumerate_new
    (meets_enumT l items n dct sl) ⟨hl, ?_⟩
  have hz : (s.heap.push { cls := .type "tuple_iterator", data := .fields #[.ref l, .int 0 0] }).objs.size = s.heap.objs.size + 1 := Heap.size_push ..
  show _ ∧ _
  rw [hz]
  have he : IsEnum ((s.heap.push { cls := .type "tuple_iterator", data := .fields #[.ref l, .int 0 0] }).push
      { cls := .type "enumerate", data := .fields #[.none, .bool false, .ref s.heap.objs.size, rawInt 0, .none, .none] }) (s.heap.objs.size + 1) s.heap.objs.size 0 .none := by
    have := Heap.get?_push_size (s.heap.push { cls := .type "tuple_iterator", data := .fields #[.ref l, .int 0 0] })
      (o := { cls := .type "enumerate", data := .fields #[.none, .bool false, .ref s.heap.objs.size, rawInt 0, .none, .none] }) rfl
    rw [hz] at this; exact this
  exact ⟨⟨_, he, rfl⟩, h _ he ⟨_, Heap.get?_push_of_some _ (Heap.get?_push_size _ rfl), rfl, rfl⟩ fun b o x => Heap.get?_push_of_some _ (Heap.get?_push_of_some _ x)⟩
/-- enumerate of what may be walked -/
theorem call_enumQ {S : Src} {xs : List V} {u : Value} {Q : Value → Shared → Prop} (ha : S.at s.heap xs) (ru : RelV S.v u)
    (h : ∀ h', IsEnum h' (s.heap.objs.size + 1) s.heap.objs.size 0 .none → S.it h' s.heap.objs.size 0 →
      (∀ b o, s.heap.get? b = some o → h'.get? b = some o) → Q (.ref (s.heap.objs.size + 1)) { s with heap := h' }) :
    wpAny (model prog w) A (call (.type "enumerate") [u]) Q E s := by
  cases S with
  | lst a =>
    obtain ⟨us, r, l⟩ := ha
    obtain rfl : u = .ref a := ru
    exact call_enumerate_list l fun h' h1 h2 _ h4 => h h' h1 h2 h4
  | tup a =>
    obtain ⟨us, r, l⟩ := ha
    obtain rfl : u = .ref a := ru
    exact call_enumT l h
  | str z =>
    obtain ⟨t, rfl⟩ : ∃ t, u = .str z t := ru
    refine call_enumerate_str fun h' h1 h2 _ h4 => h h' h1 ⟨t, ?_⟩ h4
    unfold strIterType at h2
    cases hz : z.cps.all (· < 128)
    · rw [hz] at h2; exact .inr h2
    · rw [hz] at h2; exact .inl h2
end
end VZ

/-! VZ5: rules over VZ4, and loops over pairs -/
namespace VZ
open PySem PySem.Spec PyProof.Rows L2 VB
/-- the numbers and items of xs, which stands still -/
def ItN (K : PySem.W.Frag) (S : Src) (xs : List V) : It :=
  ⟨fun i H => SK K H xs S ∧ i < xs.length,
    fun i H v H' => ∃ p x, v = .ref p ∧ H p = none ∧ H' = upd H p (.tup [.int (i : Nat), x]) ∧ xs[i]? = some x,
    fun i H => SK K H xs S ∧ xs.length ≤ i⟩
theorem turn_n {P : Program} {w : World} {K : PySem.W.Frag} {elts : List Expr} {kk : Nat} {tpos : Pos} {e it : Addr} {S : Src} {xs : List V} (off : S.off [e, it]) :
    Turn P w K (.Tuple elts kk tpos) (ItN K S xs) [e, it] e (fun i h => (∃ old, IsEnum h e it ((i : Nat) : Int) old) ∧ S.it h it i ∧ e ≠ it) where
  mem := by simp
  obj := by
    intro i h st b hb
    obtain ⟨⟨old, he⟩, q, _⟩ := st
    have e' : b = e ∨ b = it := by simpa using hb
    rcases e' with rfl | rfl
    · exact ⟨_, he, fun v q => nomatch q⟩
    · exact q.obj
  keep := by
    intro i h h' st k
    obtain ⟨⟨old, he⟩, hi, hne⟩ := st
    exact ⟨⟨old, k e (by simp) _ he⟩, hi.keep fun o q => k it (by simp) o q, hne⟩
  item := by
    intro X hP hw hK hc i pins s σ H E I hf st hg
    subst hP hw hK
    obtain ⟨⟨old, he⟩, hit, hne⟩ := st
    obtain ⟨k1, l1⟩ := hg
    have hx : xs[i]? = some xs[i] := List.getElem?_eq_getElem l1
    have hel : e < s.heap.objs.size := Heap.lt_size he
    have hil : it < s.heap.objs.size := by obtain ⟨_, q, _⟩ := hit.obj; exact Heap.lt_size q
    refine enum_next he hit (sk_at I k1) hx hne fun h' tk u t ru ho hit' hT hk => ?_
    refine ⟨_, rfl, wpAny_letOwnedTupleGo_enum (s := { s with heap := h', toks := tk }) ho fun h'' he' sb => ?_⟩
    have hT2 : h''.get? s.heap.objs.size = some { cls := .type "tuple", data := .seq #[.int i t, u] } := (sb.2 _ (Nat.ne_of_gt hel)).trans hT
    have new : ObjOk X.prog X.w (upd H s.heap.objs.size (.tup [.int (i : Nat), xs[i]])) h'' s.heap.objs.size (.tup [.int (i : Nat), xs[i]]) :=
      ⟨by show 2 ≤ sizeLine; decide, [.int i t, u], .cons ⟨_, rfl⟩ (.cons ru .nil), ⟨_, hT2, rfl, _, rfl⟩⟩
    have I1 : Inv X pins σ (upd H s.heap.objs.size (.tup [.int (i : Nat), xs[i]])) { s with heap := h'', toks := tk } :=
      I.turnedNew (t' := tk) (ch := [e, it]) (fun b ob hb q => (sb.2 b (fun z => hb (by simp [z]))).trans (hk b ob (fun z => hb (by simp [z])) (fun z => hb (by simp [z])) q)) hf (Nat.le_refl _) new
    refine ⟨.ref s.heap.objs.size, _, I1, rfl, ⟨_, _, rfl, I.hok.fresh (Nat.le_refl _), rfl, hx⟩, ⟨⟨u, ?_⟩, hit'.keep fun o q => (sb.2 it (Ne.symm hne)).trans q, hne⟩, fun b hb => ?_⟩
    · have e1 : ((i + 1 : Nat) : Int) = (i : Int) + 1 := by omega
      rw [e1]; exact he'
    · have hb' : b < s.heap.objs.size := by
        have e' : b = e ∨ b = it := by simpa using hb
        rcases e' with z | z
        · rw [z]; exact hel
        · rw [z]; exact hil
      rw [upd_ne (Nat.ne_of_lt hb')]
      exact (hf b hb).1
  done := by
    intro X hP hw hK hc i pins s σ H E I hf st hg
    subst hP hw hK
    obtain ⟨⟨old, he⟩, hit, hne⟩ := st
    obtain ⟨k1, l1⟩ := hg
    obtain ⟨f0, f1, f2, f3, f4, f5⟩ := hf it (by simp)
    exact enum_over (I.ok.hd hc) he hit (sk_at I k1) (List.getElem?_eq_none_iff.mpr l1) fun h' eb => ⟨rfl, I.turned (t' := s.toks) (fun b o hb q => eb b o hb q) f0 f1 f3 f4 f5⟩
  self := fun A i s Q E st h => let ⟨⟨_, he⟩, _⟩ := st; wpAny_pyIter_enum he h
def nK (K : PySem.W.Frag) (R : It → Hp → Prop) : List V → Hp → Prop := fun vs H => ∃ S xs, vs = [S.v] ∧ SK K H xs S ∧ R (ItN K S xs) H
def iNumQ (K : PySem.W.Frag) (ta : TA) : TI := fun σ H R => ta σ H (nK K R)
theorem pi_enumQ {X : Cx} {e : Expr} {ta : TA} {p pos tpos : Pos} {elts : List Expr} {kk : Nat} (hg : Gl X "enumerate") (hm : X.mg "enumerate" = none) (ha : PA X [e] ta) (hs : starEach [e] X.env = [(false, eval e X.env)] := by rfl) :
    PI X (.Tuple elts kk tpos) (.Call (.Name "enumerate" p) [e] [] pos) (iNumQ X.K ta) := by
  refine ⟨fun pins s σ H R I h => ?_⟩
  refine Call_ (ld_blt I hg hm boot_enumerate (PyProof.Rows.callWith_type1 (thn (ha.run pos pins s σ H _ I h) fun us s1 z => ?_) hs rfl))
  obtain ⟨vs, H1, I1, r, S, xs, rfl, k1, q⟩ := z
  cases r with
  | cons r1 rr =>
    cases rr
    refine call_enumQ (sk_at I1 k1) r1 fun h' he hit hk => wpAny_pyIter_enum he ?_
    have I2 : Inv X pins σ H1 { s1 with heap := h' } := I1.kept (t' := s1.toks) hk
    have big : ∀ b ∈ [s1.heap.objs.size + 1, s1.heap.objs.size], s1.heap.objs.size ≤ b := by
      intro b hb
      have e' : b = s1.heap.objs.size + 1 ∨ b = s1.heap.objs.size := by simpa using hb
      rcases e' with z | z
      · rw [z]; exact Nat.le_add_right _ _
      · rw [z]; exact Nat.le_refl _
    refine ⟨s1.heap.objs.size + 1, [s1.heap.objs.size + 1, s1.heap.objs.size], _, _, H1, rfl, I2, turn_n (sk_lt I1 k1 _ big), ⟨⟨.none, he⟩, hit, Nat.succ_ne_self _⟩, fun b hb => ?_, q⟩
    exact I1.fpOk (big b hb) (I1.hok.fresh (big b hb))
/-! ### loops over any walk of n turns -/
section
variable {σ : L2.St} {H : Hp} {D : Ends} {J : It} {n : Nat} {g : TG} {tb : TS} {tt : TT} {te : TE} {vs : List Nat} {Q : VK} {K : PySem.W.Frag} {S T : Src} {xs ys : List V}
theorem r_forG (Pv : Nat → L2.St → Hp → Prop) (h0 : Pv 0 σ H) (hg : ∀ i σ H, i < n → Pv i σ H → J.go i H) (hz : ∀ σ H, Pv n σ H → J.stop n H)
    (hs : ∀ i x σ H H', i < n → Pv i σ H → J.yld i H x H' → g x σ H' fun σ2 H2 => tb { D with nx := Pv (i + 1), ct := Pv (i + 1), bk := D.nx } σ2 H2) (hd : ∀ σ H, Pv n σ H → D.nx σ H) : forK g tb D σ J H := by
  refine ⟨fun i m σ H => i + m = n ∧ Pv i σ H, ⟨n, by omega, h0⟩, fun i m σ H h => ?_⟩
  obtain ⟨e, p⟩ := h
  by_cases hi : i < n
  · exact .inr ⟨hg i σ H hi p, Pv (i + 1), fun σ' H' q => ⟨n - (i + 1), by omega, by omega, q⟩, fun x H' y => hs i x σ H H' hi p y⟩
  · have : i = n := by omega
    subst this
    exact .inl ⟨hz σ H p, hd σ H p⟩
theorem r_lcG (Pv : Addr → Nat → Hp → Prop) (h0 : ∀ E, H E = none → Pv E 0 (upd H E (.lst []))) (hg : ∀ E i H', H E = none → i < n → Pv E i H' → J.go i H') (hz : ∀ E H', H E = none → Pv E n H' → J.stop n H')
    (hs : ∀ E i x H' H2, H E = none → i < n → Pv E i H' → J.yld i H' x H2 → g x (wipe σ vs) H2 (wK vs σ tt te E (Pv E (i + 1)))) (hd : ∀ E H', H E = none → Pv E n H' → Q (.ref E) H') : lcK g tt te vs σ Q J H := by
  intro E hE
  refine ⟨fun i m H' => i + m = n ∧ Pv E i H', ⟨n, by omega, h0 E hE⟩, fun i m H' h => ?_⟩
  obtain ⟨e, p⟩ := h
  by_cases hi : i < n
  · exact .inr ⟨hg E i H' hE hi p, Pv E (i + 1), fun H2 q => ⟨n - (i + 1), by omega, by omega, q⟩, fun x H2 y => hs E i x H' H2 hE hi p y⟩
  · have : i = n := by omega
    subst this
    exact .inl ⟨hz E H' hE p, hd E H' hE p⟩
theorem r_zk {R : It → Hp → Prop} (S T : Src) (h1 : SK K H xs S) (h2 : SK K H ys T) (h : R (ItQ K S T xs ys) H) : zK K R [S.v, T.v] H := ⟨S, T, xs, ys, rfl, h1, h2, h⟩
theorem r_nk {R : It → Hp → Prop} (S : Src) (h1 : SK K H xs S) (h : R (ItN K S xs) H) : nK K R [S.v] H := ⟨S, xs, rfl, h1, h⟩
theorem r_iZ {ta : TA} {R : It → Hp → Prop} (h : ta σ H (zK K R)) : iZipQ K ta σ H R := h
theorem r_iN {ta : TA} {R : It → Hp → Prop} (h : ta σ H (nK K R)) : iNumQ K ta σ H R := h
/-- over pairs -/
theorem r_forZ (Pv : Nat → L2.St → Hp → Prop) (h0 : Pv 0 σ H) (hk : ∀ i σ H, i ≤ min xs.length ys.length → Pv i σ H → SK K H xs S ∧ SK K H ys T)
    (hs : ∀ i p x y σ H, xs[i]? = some x → ys[i]? = some y → H p = none → Pv i σ H → g (.ref p) σ (upd H p (.tup [x, y])) fun σ2 H2 => tb { D with nx := Pv (i + 1), ct := Pv (i + 1), bk := D.nx } σ2 H2)
    (hd : ∀ σ H, Pv (min xs.length ys.length) σ H → D.nx σ H) : forK g tb D σ (ItQ K S T xs ys) H := by
  refine r_forG Pv h0 (fun i σ H hi p => ?_) (fun σ H p => ?_) (fun i v σ H H' hi p y => ?_) hd
  · obtain ⟨a, b⟩ := hk i σ H (by omega) p
    exact ⟨a, b, by omega, by omega⟩
  · obtain ⟨a, b⟩ := hk _ σ H (Nat.le_refl _) p
    exact ⟨a, b, by omega⟩
  · obtain ⟨q, x, z, rfl, hq, rfl, hx, hz⟩ := y
    exact hs i q x z σ H hx hz hq p
theorem r_lcZ (Pv : Addr → Nat → Hp → Prop) (h0 : ∀ E, H E = none → Pv E 0 (upd H E (.lst []))) (hk : ∀ E i H', H E = none → i ≤ min xs.length ys.length → Pv E i H' → SK K H' xs S ∧ SK K H' ys T)
    (hs : ∀ E i p x y H', H E = none → xs[i]? = some x → ys[i]? = some y → H' p = none → Pv E i H' → g (.ref p) (wipe σ vs) (upd H' p (.tup [x, y])) (wK vs σ tt te E (Pv E (i + 1))))
    (hd : ∀ E H', H E = none → Pv E (min xs.length ys.length) H' → Q (.ref E) H') : lcK g tt te vs σ Q (ItQ K S T xs ys) H := by
  refine r_lcG Pv h0 (fun E i H' hE hi p => ?_) (fun E H' hE p => ?_) (fun E i v H' H2 hE hi p y => ?_) hd
  · obtain ⟨a, b⟩ := hk E i H' hE (by omega) p
    exact ⟨a, b, by omega, by omega⟩
  · obtain ⟨a, b⟩ := hk E _ H' hE (Nat.le_refl _) p
    exact ⟨a, b, by omega⟩
  · obtain ⟨q, x, z, rfl, hq, rfl, hx, hz⟩ := y
    exact hs E i q x z H' hE hx hz hq p
/-- over numbers and items -/
theorem r_forN (Pv : Nat → L2.St → Hp → Prop) (h0 : Pv 0 σ H) (hk : ∀ i σ H, i ≤ xs.length → Pv i σ H → SK K H xs S)
    (hs : ∀ i p x σ H, xs[i]? = some x → H p = none → Pv i σ H → g (.ref p) σ (upd H p (.tup [.int (i : Nat), x])) fun σ2 H2 => tb { D with nx := Pv (i + 1), ct := Pv (i + 1), bk := D.nx } σ2 H2)
    (hd : ∀ σ H, Pv xs.length σ H → D.nx σ H) : forK g tb D σ (ItN K S xs) H := by
  refine r_forG Pv h0 (fun i σ H hi p => ⟨hk i σ H (by omega) p, hi⟩) (fun σ H p => ⟨hk _ σ H (Nat.le_refl _) p, Nat.le_refl _⟩) (fun i v σ H H' hi p y => ?_) hd
  obtain ⟨q, x, rfl, hq, rfl, hx⟩ := y
  exact hs i q x σ H hx hq p
theorem r_lcN (Pv : Addr → Nat → Hp → Prop) (h0 : ∀ E, H E = none → Pv E 0 (upd H E (.lst []))) (hk : ∀ E i H', H E = none → i ≤ xs.length → Pv E i H' → SK K H' xs S)
    (hs : ∀ E i p x H', H E = none → xs[i]? = some x → H' p = none → Pv E i H' → g (.ref p) (wipe σ vs) (upd H' p (.tup [.int (i : Nat), x])) (wK vs σ tt te E (Pv E (i + 1))))
    (hd : ∀ E H', H E = none → Pv E xs.length H' → Q (.ref E) H') : lcK g tt te vs σ Q (ItN K S xs) H := by
  refine r_lcG Pv h0 (fun E i H' hE hi p => ⟨hk E i H' hE (by omega) p, hi⟩) (fun E H' hE p => ⟨hk E _ H' hE (Nat.le_refl _) p, Nat.le_refl _⟩) (fun E i v H' H2 hE hi p y => ?_) hd
  obtain ⟨q, x, rfl, hq, rfl, hx⟩ := y
  exact hs E i q x H' hE hx hq p
end
/-! ### sum of a tuple, list and tuple of a text -/
section
variable {X : Cx}
def rSumT (K : PySem.W.Frag) : List V → Hp → VK → Prop := fun vs H Q => ∃ (a : Addr) (ns : List Int), vs = [V.ref a] ∧ (SqL K H a (ns.map V.int) ∨ SqT K H a (ns.map V.int)) ∧ Q (.int ns.sum) H
theorem sumT_raw {prog : Program} {w : World} {A : Around} {E : Value → Shared → Prop} {s : Shared} {l : Addr} {its : List Value} {ns : List Int} {Q : Value → Shared → Prop} (hh : A.handled = none) (hl : s.heap.IsTuple l its.toArray) (hi : IntsAre its ns)
    (h : ∀ h' tk t', (∀ b o, s.heap.get? b = some o → h'.get? b = some o) → Q (.int ns.sum t') { s with heap := h', toks := tk }) : wpAny (model prog w) A (call (.builtin "sum") [.ref l]) Q E s := by
  obtain ⟨xs, e⟩ := hi.allInts.items
  have hn : numsOf (intItems xs).toList = ns := by rw [← e]; exact hi.numsOf
  rw [nums_intItems] at hn
  rw [e] at hl
  have hlt : l < s.heap.objs.size := by obtain ⟨_, e, _⟩ := hl; exact Heap.lt_size e
  refine call_sum_walkG (wpAny_pyIter_tuple hl ?_)
  refine ⟨_, [s.heap.objs.size, l], _, _, _, _, numAt xs, rfl, Walks.tuple (A := A.in1) hh _ l (Nat.ne_of_lt hlt) (intItems xs), ⟨⟨_, Heap.get?_push_size _ rfl, rfl, rfl⟩, hl.push _⟩, fun b hb => ?_, (fun _ _ => intItems_at), fun h' tk t' hk => ?_⟩
  · show b < (s.heap.push _).objs.size
    rw [Heap.size_push]
    rcases List.mem_cons.mp hb with rfl | hb
    · exact Nat.lt_succ_self _
    · rcases List.mem_cons.mp hb with rfl | hb
      · exact Nat.lt_succ_of_lt hlt
      · cases hb
  · have old : ∀ b o, s.heap.get? b = some o → h'.get? b = some o := fun b o eo => by
      refine hk b o (fun hm => ?_) (Heap.get?_push_of_some _ eo)
      rcases List.mem_cons.mp hm with e1 | hm
      · exact absurd (e1 ▸ Heap.lt_size eo) (Nat.lt_irrefl _)
      · cases hm
    have := h h' tk t' old
    have e2 : preSum (numAt xs) (intItems xs).size = ns.sum := by
      rw [show (intItems xs).size = xs.size from by simp [intItems], preSum_eq, List.take_of_length_le (by simp), hn]
    rw [e2]
    exact this
theorem cr_sumT (hc : X.calm = true) : CallR X (.builtin "sum") (rSumT X.K) := by
  intro pins s σ H vs us Q I r h
  obtain ⟨a, ns, rfl, hs, q⟩ := h
  rcases hs with hs | hs
  · obtain ⟨its, rv, hl, _⟩ := I.list hs
    rw [Vals.ref1 r]
    exact sum_raw (I.ok.hd hc) hl.isList rv.ints fun h' tk t' hk => ⟨.int _, H, I.kept hk, ⟨_, rfl⟩, q⟩
  · obtain ⟨its, rv, hl, _⟩ := I.tuple hs
    rw [Vals.ref1 r]
    exact sumT_raw (I.ok.hd hc) hl rv.ints fun h' tk t' hk => ⟨.int _, H, I.kept hk, ⟨_, rfl⟩, q⟩
/-- list(text) -/
def rListS : List V → Hp → VK → Prop := fun xs H Q => ∃ z : Str, xs = [.str z] ∧ z.cps.size ≤ sizeLine ∧ ∀ l, H l = none → Q (.ref l) (upd H l (.lst (z.cps.toList.map fun c => V.str ⟨#[c]⟩)))
theorem vals_get : ∀ (xs : List V) (us : List Value), xs.length = us.length → (∀ (j : Nat) (x : V) (u : Value), xs[j]? = some x → us[j]? = some u → RelV x u) → Vals xs us
  | [], [], _, _ => .nil
  | [], _ :: _, h, _ => nomatch h
  | _ :: _, [], h, _ => nomatch h
  | x :: xs, u :: us, h, k => .cons (k 0 x u rfl rfl) (vals_get xs us (Nat.succ.inj h) fun j y v h1 h2 => k (j + 1) y v h1 h2)
theorem sign_vals (z : Str) (its : Array Value) (h : ItemsOf (SignAt z) its z.cps.size) : Vals (z.cps.toList.map fun c => V.str ⟨#[c]⟩) its.toList := by
  obtain ⟨hn, hi⟩ := h
  refine vals_get _ _ (by simp [hn]) fun j x y h1 h2 => ?_
  rw [List.getElem?_map] at h1
  obtain ⟨c, u, hc, rfl⟩ := hi j y (by simpa using h2)
  have hc' : z.cps.toList[j]? = some c := by simpa using hc
  rw [hc'] at h1
  cases h1
  exact ⟨u, rfl⟩
theorem call_listS (hc : X.calm = true) : CallR X (.type "list") rListS := by
  intro pins s σ H xs us Q I r h
  obtain ⟨z, rfl, hz, q⟩ := h
  obtain ⟨u, rfl, rx⟩ := vals1 r
  obtain ⟨t, rfl⟩ := rx
  refine call_list_str (I.ok.hd hc) z t (hn := hz) fun h' tk acc' c' hk e hacc => ?_
  exact ⟨.ref s.heap.objs.size, _, I.laid (t' := tk) hk (Nat.le_refl _) (show ObjOk X.prog X.w _ h' _ (.lst _) from ⟨by simpa using hz, acc'.toList, c', sign_vals z acc' hacc, by simpa using e⟩), rfl, q _ (I.hok.fresh (Nat.le_refl _))⟩
end
end VZ

/-! VC1: what is hidden while something is written; data, its readings; comprehensions of data -/
namespace VC
open PySem PySem.Spec PyProof.Rows L2 VB VZ
/-- a deck (its two objects), and objects that are being written -/
structure Md where
  dk : Option (Addr × Addr)
  ex : List Addr
def vd : Option (Addr × Addr) → Hp → Hp
  | none, H => H
  | some (d, l), H => hid d l H
def vw (m : Md) (H : Hp) : Hp := fun a => if a ∈ m.ex then none else vd m.dk H a
structure Ok (m : Md) (H : Hp) : Prop where
  dk : ∀ d l, m.dk = some (d, l) → DeckOk H d l
  ex : ∀ a ∈ m.ex, H a ≠ none
structure Go (m : Md) (H H' : Hp) : Prop where
  ok : Ok m H'
  st : Same (vd m.dk H) (vd m.dk H')
def Md.off (m : Md) (a : Addr) : Prop := ∀ d l, m.dk = some (d, l) → a ≠ d ∧ a ≠ l
def Md.add (m : Md) (E : Addr) : Md := ⟨m.dk, E :: m.ex⟩
section
variable {m : Md} {H H1 H2 H' : Hp} {a p E : Addr} {o : HO} {K : PySem.W.Frag}
theorem vd_sub {dk : Option (Addr × Addr)} : Same (vd dk H) H := by
  cases dk with
  | none => exact Same.refl _
  | some x => exact hid_sub
theorem vw_sub : Same (vw m H) H := fun b x e => by
  unfold vw at e
  split at e
  · cases e
  · exact vd_sub b x e
theorem vd_off (h : m.off a) : vd m.dk H a = H a := by
  cases e : m.dk with
  | none => rfl
  | some x => obtain ⟨d, l⟩ := x; exact hid_get (h d l e).1 (h d l e).2
theorem vw_some (e : vw m H a = some o) : a ∉ m.ex ∧ m.off a ∧ H a = some o := by
  unfold vw at e
  split at e
  · cases e
  · rename_i z
    refine ⟨z, fun d l hd => ?_, vd_sub _ _ e⟩
    rw [hd] at e
    obtain ⟨h1, h2, _⟩ := hid_some e
    exact ⟨h1, h2⟩
theorem vw_get (h1 : a ∉ m.ex) (h2 : m.off a) : vw m H a = H a := by
  unfold vw
  rw [if_neg h1, vd_off h2]
theorem same_vd {dk : Option (Addr × Addr)} (h : Same H H') : Same (vd dk H) (vd dk H') := by
  cases dk with
  | none => exact h
  | some x => exact same_hid h
theorem Ok.up (h : Ok m H) (e : Same H H') : Ok m H' := by
  refine ⟨fun d l q => (h.dk d l q).up e, fun a ha z => ?_⟩
  cases w : H a with
  | none => exact h.ex a ha w
  | some o => rw [e a o w] at z; cases z
theorem Go.refl (h : Ok m H) : Go m H H := ⟨h, Same.refl _⟩
theorem Go.trans (a : Go m H H1) (b : Go m H1 H2) : Go m H H2 := ⟨b.ok, a.st.trans b.st⟩
theorem _root_.L2.Dp.mv {K : PySem.W.Frag} {H H' : Hp} {v : V} {d : PyData} (h : Dp K H v d) (e : Same H H') : Dp K H' v d := dp_same e d v h
theorem _root_.L2.DpAll.mv {K : PySem.W.Frag} {H H' : Hp} {vs : List V} {ds : List PyData} (h : DpAll K H vs ds) (e : Same H H') : DpAll K H' vs ds := dpa_same e ds vs h
theorem Go.same (h : Ok m H) (e : Same H H') : Go m H H' := ⟨h.up e, same_vd e⟩
theorem Go.new (h : Ok m H) (hp : H p = none) : Go m H (upd H p o) := .same h (same_new hp)
theorem Go.vw (g : Go m H H') : Same (vw m H) (vw m H') := fun b x e => by
  obtain ⟨h1, h2, h3⟩ := vw_some e
  have z := g.st b x (by rw [vd_off h2]; exact h3)
  rw [vd_off h2] at z
  rw [vw_get h1 h2]
  exact z
theorem Go.at (g : Go m H H') (h : m.off a) (e : H a = some o) : H' a = some o := by
  have z := g.st a o (by rw [vd_off h]; exact e)
  rw [vd_off h] at z
  exact z
theorem Go.ne (g : Go m H H') (e : H a ≠ none) : H' a ≠ none := by
  cases w : H a with
  | none => exact absurd w e
  | some o =>
    by_cases h : m.off a
    · rw [g.at h w]
      intro z
      cases z
    · cases q : m.dk with
      | none => exact absurd (fun d l z => by rw [q] at z; cases z) h
      | some x =>
        obtain ⟨d, l⟩ := x
        have dk := g.ok.dk d l q
        by_cases z : a = d
        · rw [z]; intro y; exact (dk.ne y).1 rfl
        · by_cases y : a = l
          · rw [y]; intro y; exact (dk.ne y).2 rfl
          · exact absurd (fun d' l' q' => by rw [q] at q'; cases q'; exact ⟨z, y⟩) h
theorem Go.free (g : Go m H H') (e : H' a = none) : H a = none := Classical.byContradiction fun z => g.ne z e
theorem Ok.off (h : Ok m H) (hp : H p = none) : m.off p := fun d l q => (h.dk d l q).ne hp
theorem Ok.nex (h : Ok m H) (hp : H p = none) : p ∉ m.ex := fun q => h.ex p q hp
theorem vw_new (h : Ok m H) (hp : H p = none) : vw m (upd H p o) p = some o := by
  rw [vw_get (h.nex hp) (h.off hp)]
  exact upd_same
theorem Go.mut (g : Go m H H1) (h : Ok m H) (hp : H p = none) : Go m H (upd H1 p o) := by
  refine ⟨⟨fun d l q => ?_, fun a ha => ?_⟩, fun b x e => ?_⟩
  · obtain ⟨h1, h2⟩ := h.off hp d l q
    exact (g.ok.dk d l q).upo h1 h2
  · by_cases z : a = p
    · rw [z, upd_same]; intro y; cases y
    · rw [upd_ne z]; exact g.ok.ex a ha
  · have ho : H b = some x := vd_sub b x e
    have hb : b ≠ p := ne_of_none ho hp
    have := g.st b x e
    cases q : m.dk with
    | none => rw [q] at this; show upd H1 p o b = some x; rw [upd_ne hb]; exact this
    | some w =>
      obtain ⟨d, l⟩ := w
      rw [q] at this
      obtain ⟨i1, i2, i3⟩ := hid_some this
      show hid d l (upd H1 p o) b = some x
      rw [hid_get i1 i2, upd_ne hb]
      exact i3
theorem Ok.add (h : Ok m H) (e : H E ≠ none) : Ok (m.add E) H := ⟨h.dk, fun a ha => by
  rcases List.mem_cons.mp ha with rfl | z
  · exact e
  · exact h.ex a z⟩
theorem Ok.sub (h : Ok (m.add E) H) : Ok m H := ⟨h.dk, fun a ha => h.ex a (List.mem_cons_of_mem _ ha)⟩
theorem Go.sub (g : Go (m.add E) H H') : Go m H H' := ⟨g.ok.sub, g.st⟩
theorem Go.add (g : Go m H H') (e : H E ≠ none) : Go (m.add E) H H' := ⟨g.ok.add (g.ne e), g.st⟩
/-- what stood before E was made -/
theorem Go.old (g : Go m H H') (hE : H E = none) : Same (VC.vw m H) (VC.vw (m.add E) H') := fun b x e => by
  obtain ⟨h1, h2, h3⟩ := vw_some (g.vw b x e)
  have hb : b ≠ E := ne_of_none (vw_some e).2.2 hE
  rw [vw_get (m := m.add E) (fun z => (List.mem_cons.mp z).elim hb h1) h2]
  exact h3
theorem vw_addsub : Same (VC.vw (m.add E) H) (VC.vw m H) := fun b x e => by
  obtain ⟨h1, h2, h3⟩ := vw_some e
  rw [vw_get (fun z => h1 (List.mem_cons_of_mem _ z)) (m := m) h2]
  exact h3
theorem vw_addupd : VC.vw (m.add E) (upd H E o) = VC.vw (m.add E) H := by
  funext b
  unfold VC.vw
  by_cases z : b = E
  · rw [if_pos (z ▸ List.mem_cons_self), if_pos (z ▸ List.mem_cons_self)]
  · by_cases y : b ∈ (m.add E).ex
    · rw [if_pos y, if_pos y]
    · rw [if_neg y, if_neg y]
      cases q : (m.add E).dk with
      | none => exact upd_ne z
      | some w => obtain ⟨d, l⟩ := w; show hid d l _ b = hid d l _ b; unfold hid; rw [upd_ne z]
/-- E is written anew -/
theorem Go.write (g : Go m H H') (hE : H E = none) (h : Ok m H) : Go m H (upd H' E o) := g.mut h hE
/-! ### the deck's promises, here -/
theorem Go.adv {d l : Addr} (q : m.dk = some (d, l)) (h : Ok m H) (a : Adv d l H H') : Go m H H' := by
  have st : Same (vd m.dk H) (vd m.dk H') := by rw [q]; exact a.st
  have dkk : ∀ d' l', m.dk = some (d', l') → DeckOk H' d' l' := fun d' l' q' => by rw [q] at q'; cases q'; exact a.ok
  have g0 : Go ⟨m.dk, []⟩ H H' := ⟨⟨dkk, fun a ha => nomatch ha⟩, st⟩
  exact ⟨⟨dkk, fun b hb => g0.ne (h.ex b hb)⟩, st⟩
theorem vw_hid {d l : Addr} (q : m.dk = some (d, l)) : Same (VC.vw m H) (hid d l H) := fun b x e => by
  obtain ⟨h1, h2, h3⟩ := vw_some e
  rw [hid_get (h2 d l q).1 (h2 d l q).2]
  exact h3
end
/-! ### data at values -/
section
variable {K : PySem.W.Frag} {H H' : Hp} {v : V} {ds : List PyData} {vs : List V} {d : PyData}
theorem dp_tup (h : Dp K H v (.tuple ds)) : ∃ p xs, v = .ref p ∧ SqT K H p xs ∧ DpAll K H xs ds := by
  cases h with
  | tup hs ha => exact ⟨_, _, rfl, hs, ha⟩
theorem dp_lst (h : Dp K H v (.list ds)) : ∃ p xs, v = .ref p ∧ SqL K H p xs ∧ DpAll K H xs ds := by
  cases h with
  | lst hs ha => exact ⟨_, _, rfl, hs, ha⟩
theorem dp_int {i : Int} (h : Dp K H v (.int i)) : v = .int i := by cases h; rfl
theorem dp_str {x : Str} (h : Dp K H v (.str x)) : v = .str x := by cases h; rfl
theorem dpa_ints_inv : ∀ {ns : List Int} {vs : List V}, DpAll K H vs (ns.map PyData.int) → vs = ns.map V.int
  | [], _, h => by cases h; rfl
  | n :: r, _, h => by
    cases h with
    | cons h1 h2 =>
      rw [dp_int h1, dpa_ints_inv h2]
      rfl
theorem dpa_len : ∀ {vs : List V} {ds : List PyData}, DpAll K H vs ds → vs.length = ds.length
  | _, _, .nil => rfl
  | _, _, .cons _ h => congrArg (· + 1) (dpa_len h)
theorem dpa_get : ∀ {vs : List V} {ds : List PyData} {i : Nat} {v : V}, DpAll K H vs ds → vs[i]? = some v → ∃ d, ds[i]? = some d ∧ Dp K H v d
  | _, _, 0, _, .cons h _, e => by cases e; exact ⟨_, rfl, h⟩
  | _, _, i + 1, _, .cons _ h, e => dpa_get (i := i) h e
theorem dpa_get' : ∀ {vs : List V} {ds : List PyData} {i : Nat} {d : PyData}, DpAll K H vs ds → ds[i]? = some d → ∃ v, vs[i]? = some v ∧ Dp K H v d
  | _, _, 0, _, .cons h _, e => by cases e; exact ⟨_, rfl, h⟩
  | _, _, i + 1, _, .cons _ h, e => dpa_get' (i := i) h e
theorem dpa_app : ∀ {vs ws : List V} {ds es : List PyData}, DpAll K H vs ds → DpAll K H ws es → DpAll K H (vs ++ ws) (ds ++ es)
  | _, _, _, _, .nil, k => k
  | _, _, _, _, .cons h t, k => .cons h (dpa_app t k)
/-- a line of integers -/
def lnD (ns : List Int) : PyData := .tuple (ns.map .int)
def mtD (ls : List (List Int)) : PyData := .tuple (ls.map lnD)
theorem dp_line {ns : List Int} (h : Dp K H v (lnD ns)) : ∃ p, v = .ref p ∧ SqT K H p (ns.map V.int) := by
  obtain ⟨p, xs, rfl, hs, ha⟩ := dp_tup h
  rw [dpa_ints_inv ha] at hs
  exact ⟨p, rfl, hs⟩
theorem line_dp {ns : List Int} {p : Addr} (h : SqT K H p (ns.map V.int)) : Dp K H (.ref p) (lnD ns) := .tup h (dpa_ints ns)
theorem tyT {p : Addr} {xs : List V} (h : SqT K H p xs) : TyX K H (.ref p) (.type "tuple") := by
  rcases h with (h | ⟨o, h⟩) | ⟨o, its, n, h1, h2, _⟩
  · exact .base (.tup h)
  · exact .fTuple h
  · exact .kTuple h1 h2
end
/-! ### comprehensions that make data -/
section
variable {σ : L2.St} {H : Hp} {J : It} {n j : Nat} {te : TE} {Q : VK} {K : PySem.W.Frag} {m : Md}
/-- [e for x in J]: J yields f(0), f(1), ..; each e is data -/
theorem r_lcV (m : Md) (hm : Ok m H) (f : Nat → V) (hn : n ≤ 1000) (R : Nat → PyData → Prop) (hg : ∀ i H', i < n → Same (vw m H) (vw m H') → J.go i H') (hz : ∀ H', Same (vw m H) (vw m H') → J.stop n H')
    (hy : ∀ i H' x H2, i < n → Same (vw m H) (vw m H') → J.yld i H' x H2 → x = f i ∧ H2 = H')
    (hs : ∀ (E : Addr) (i : Nat) (H' : Hp) (S : VK), i < n → Go m H H' → Ok (m.add E) H' → Same (vw m H) (vw (m.add E) H') → (∀ v H2 x, Go (m.add E) H' H2 → Dp K (vw (m.add E) H2) v x → R i x → S v H2) → te ((wipe σ [j]).set j (some (f i))) H' S)
    (hd : ∀ (E : Addr) (H' : Hp) (acc : List V) (xs : List PyData), Go m H H' → H E = none → H' E = some (.lst acc) → DpAll K (vw (m.add E) H') acc xs → xs.length = n → (∀ i x, xs[i]? = some x → R i x) → Q (.ref E) H') :
    lcK (gName j) tYes te [j] σ Q J H := by
  refine r_lcG (n := n) (fun E i H' => Go m H H' ∧ ∃ acc xs, H' E = some (.lst acc) ∧ DpAll K (vw (m.add E) H') acc xs ∧ xs.length = i ∧ ∀ k x, xs[k]? = some x → R k x) (fun E hE => ?_) (fun E i H' hE hi p => hg i H' hi p.1.vw) (fun E H' hE p => hz H' p.1.vw) (fun E i x H' H2 hE hi p y => ?_) (fun E H' hE p => ?_)
  · exact ⟨(Go.refl hm).mut hm hE, [], [], upd_same, .nil, rfl, fun k x h => nomatch h⟩
  · obtain ⟨rfl, rfl⟩ := hy i H' x H2 hi p.1.vw y
    obtain ⟨g, acc, xs, e, da, hl, hR⟩ := p
    refine r_gName (r_wk wipe_set (r_yesT (r_ck1 ?_)))
    have okE : Ok (m.add E) H2 := g.ok.add (by rw [e]; intro z; cases z)
    refine hs E i H2 _ hi g okE (g.old hE) fun v H3 x g3 dx rx => ?_
    have offE : m.off E := hm.off hE
    have e3 : H3 E = some (.lst acc) := g3.at (m := m.add E) offE e
    refine r_ap e3 (by rw [dpa_len da, hl]; omega) ⟨(g.trans g3.sub).mut hm hE, acc ++ [v], xs ++ [x], upd_same, ?_, by simp [hl], fun k y hk => ?_⟩
    · rw [vw_addupd]
      exact dpa_app (da.mv g3.vw) (.cons dx .nil)
    · by_cases c : k < xs.length
      · rw [List.getElem?_append_left c] at hk
        exact hR k y hk
      · rw [List.getElem?_append_right (by omega)] at hk
        have : k - xs.length = 0 := by
          cases w : k - xs.length with
          | zero => rfl
          | succ t => rw [w] at hk; exact nomatch hk
        rw [this] at hk
        cases hk
        have : k = i := by omega
        rw [this]
        exact rx
  · obtain ⟨g, acc, xs, e, da, hl, hR⟩ := p
    exact hd E H' acc xs g hE e da hl hR
theorem r_lcVR (m : Md) (hm : Ok m H) {lo : Int} (hn : n ≤ 1000) (R : Nat → PyData → Prop)
    (hs : ∀ (E : Addr) (i : Nat) (H' : Hp) (S : VK), i < n → Go m H H' → Ok (m.add E) H' → Same (vw m H) (vw (m.add E) H') → (∀ v H2 x, Go (m.add E) H' H2 → Dp K (vw (m.add E) H2) v x → R i x → S v H2) → te ((wipe σ [j]).set j (some (.int (lo + i)))) H' S)
    (hd : ∀ (E : Addr) (H' : Hp) (acc : List V) (xs : List PyData), Go m H H' → H E = none → H' E = some (.lst acc) → DpAll K (vw (m.add E) H') acc xs → xs.length = n → (∀ i x, xs[i]? = some x → R i x) → Q (.ref E) H') :
    lcK (gName j) tYes te [j] σ Q (Itr lo n) H :=
  r_lcV m hm (fun i => .int (lo + i)) hn R (fun i H' hi _ => hi) (fun H' _ => Nat.le_refl _) (fun i H' x H2 _ _ y => ⟨y.2, y.1⟩) hs hd
theorem r_lcVL (m : Md) (hm : Ok m H) {a : Addr} {vs : List V} (ha : SqL K (vw m H) a vs) (hn : vs.length ≤ 1000) (R : Nat → PyData → Prop)
    (hs : ∀ (E : Addr) (i : Nat) (v0 : V) (H' : Hp) (S : VK), vs[i]? = some v0 → Go m H H' → Ok (m.add E) H' → Same (vw m H) (vw (m.add E) H') → (∀ v H2 x, Go (m.add E) H' H2 → Dp K (vw (m.add E) H2) v x → R i x → S v H2) → te ((wipe σ [j]).set j (some v0)) H' S)
    (hd : ∀ (E : Addr) (H' : Hp) (acc : List V) (xs : List PyData), Go m H H' → H E = none → H' E = some (.lst acc) → DpAll K (vw (m.add E) H') acc xs → xs.length = vs.length → (∀ i x, xs[i]? = some x → R i x) → Q (.ref E) H') :
    lcK (gName j) tYes te [j] σ Q (Itl K a) H :=
  r_lcV m hm (fun i => vs.getD i .non) hn R (fun i H' hi e => ⟨vs, _, seqL_same (e.trans vw_sub) ha, List.getElem?_eq_getElem hi⟩) (fun H' e => ⟨vs, seqL_same (e.trans vw_sub) ha, Nat.le_refl _⟩)
    (fun i H' x H2 hi e y => ⟨by
      have z := y.2 vs (seqL_same (e.trans vw_sub) ha)
      show x = (vs[i]?).getD V.non
      rw [z]; rfl, y.1⟩)
    (fun E i H' S hi g o e k => hs E i _ H' S (by show vs[i]? = some ((vs[i]?).getD V.non); rw [List.getElem?_eq_getElem hi]; rfl) g o e k) hd
theorem r_lcVT (m : Md) (hm : Ok m H) {a : Addr} {vs : List V} (ha : SqT K (vw m H) a vs) (hn : vs.length ≤ 1000) (R : Nat → PyData → Prop)
    (hs : ∀ (E : Addr) (i : Nat) (v0 : V) (H' : Hp) (S : VK), vs[i]? = some v0 → Go m H H' → Ok (m.add E) H' → Same (vw m H) (vw (m.add E) H') → (∀ v H2 x, Go (m.add E) H' H2 → Dp K (vw (m.add E) H2) v x → R i x → S v H2) → te ((wipe σ [j]).set j (some v0)) H' S)
    (hd : ∀ (E : Addr) (H' : Hp) (acc : List V) (xs : List PyData), Go m H H' → H E = none → H' E = some (.lst acc) → DpAll K (vw (m.add E) H') acc xs → xs.length = vs.length → (∀ i x, xs[i]? = some x → R i x) → Q (.ref E) H') :
    lcK (gName j) tYes te [j] σ Q (Itt K a) H :=
  r_lcV m hm (fun i => vs.getD i .non) hn R (fun i H' hi e => ⟨vs, _, seqT_same (e.trans vw_sub) ha, List.getElem?_eq_getElem hi⟩) (fun H' e => ⟨vs, seqT_same (e.trans vw_sub) ha, Nat.le_refl _⟩)
    (fun i H' x H2 hi e y => ⟨by
      have z := y.2 vs (seqT_same (e.trans vw_sub) ha)
      show x = (vs[i]?).getD V.non
      rw [z]; rfl, y.1⟩)
    (fun E i H' S hi g o e k => hs E i _ H' S (by show vs[i]? = some ((vs[i]?).getD V.non); rw [List.getElem?_eq_getElem hi]; rfl) g o e k) hd
end
end VC

/-! VC2: lines, chains; common divisors, shares -/
namespace VC
open PySem PySem.Spec PyProof.Rows L2 VB VZ
structure Ch where
  sg : Str
  st : List Int
  sp : List (List Int)
  tl : List (List Int)
def chD (c : Ch) : PyData := .tuple [.str c.sg, lnD c.st, mtD c.sp, mtD c.tl]
/-- so many weights, none below 0, of so many bits, not all 0 -/
structure Lin (b n : Nat) (ns : List Int) : Prop where
  len : ns.length = n
  bd : ∀ x ∈ ns, 0 ≤ x ∧ Bd b x
  sum : 0 < ns.sum
structure Mtx (b r n : Nat) (ls : List (List Int)) : Prop where
  len : ls.length = r
  lin : ∀ l ∈ ls, Lin b n l
/-- ascending small letters -/
structure Sgs (k : Nat) (z : Str) : Prop where
  len : z.cps.toList.length = k
  let_ : ∀ c ∈ z.cps.toList, 97 ≤ c ∧ c ≤ 122
  asc : z.cps.toList.Pairwise (· < ·)
structure ChOk (b n k : Nat) (c : Ch) : Prop where
  n1 : 1 ≤ n
  n6 : n ≤ 6
  k1 : 1 ≤ k
  k5 : k ≤ 5
  sg : Sgs k c.sg
  st : Lin b n c.st
  sp : Mtx b n n c.sp
  tl : Mtx b n k c.tl
theorem Lin.mono {b b' n : Nat} {ns : List Int} (h : Lin b n ns) (e : b ≤ b') : Lin b' n ns := ⟨h.len, fun x hx => ⟨(h.bd x hx).1, (h.bd x hx).2.mono e⟩, h.sum⟩
theorem Mtx.mono {b b' r n : Nat} {ls : List (List Int)} (h : Mtx b r n ls) (e : b ≤ b') : Mtx b' r n ls := ⟨h.len, fun l hl => (h.lin l hl).mono e⟩
theorem ChOk.mono {b b' n k : Nat} {c : Ch} (h : ChOk b n k c) (e : b ≤ b') : ChOk b' n k c := ⟨h.n1, h.n6, h.k1, h.k5, h.sg, h.st.mono e, h.sp.mono e, h.tl.mono e⟩
/-! ### common divisors of a line -/
def gcdF (g : Int) (ns : List Int) : Int := ns.foldl gcdI g
def gcdL (ns : List Int) : Int := gcdF 0 ns
def plL (ns : List Int) : List Int := ns.map fun x => x.fdiv (gcdL ns)
def plC (c : Ch) : Ch := ⟨c.sg, plL c.st, c.sp.map plL, c.tl.map plL⟩
theorem gcdI_nn (a b : Int) : 0 ≤ gcdI a b := Int.natCast_nonneg _
theorem gcdI_dl (a b : Int) : gcdI a b ∣ a := Int.natAbs_dvd_natAbs.mp (by unfold gcdI; rw [Int.natAbs_natCast]; exact Nat.gcd_dvd_left _ _)
theorem gcdI_dr (a b : Int) : gcdI a b ∣ b := Int.natAbs_dvd_natAbs.mp (by unfold gcdI; rw [Int.natAbs_natCast]; exact Nat.gcd_dvd_right _ _)
theorem gcdI_mul (a b k : Int) (hk : 0 < k) : gcdI (a * k) (b * k) = gcdI a b * k := by
  unfold gcdI
  rw [Int.natAbs_mul, Int.natAbs_mul, Nat.gcd_mul_right, Int.natCast_mul]
  have : (k.natAbs : Int) = k := by omega
  rw [this]
theorem gcdF_nn : ∀ (ns : List Int) (g : Int), 0 ≤ g → 0 ≤ gcdF g ns
  | [], g, h => h
  | x :: r, g, h => gcdF_nn r _ (gcdI_nn g x)
theorem gcdF_dvd : ∀ (ns : List Int) (g : Int), gcdF g ns ∣ g ∧ ∀ x ∈ ns, gcdF g ns ∣ x
  | [], g => ⟨Int.dvd_refl _, fun x h => nomatch h⟩
  | y :: r, g => by
    obtain ⟨h1, h2⟩ := gcdF_dvd r (gcdI g y)
    refine ⟨Int.dvd_trans h1 (gcdI_dl g y), fun x hx => ?_⟩
    rcases List.mem_cons.mp hx with rfl | hx
    · exact Int.dvd_trans h1 (gcdI_dr g x)
    · exact h2 x hx
theorem gcdF_mul (k : Int) (hk : 0 < k) : ∀ (ns : List Int) (g : Int), gcdF (g * k) (ns.map (· * k)) = gcdF g ns * k
  | [], g => rfl
  | y :: r, g => by
    show gcdF (gcdI (g * k) (y * k)) (r.map (· * k)) = gcdF (gcdI g y) r * k
    rw [gcdI_mul _ _ _ hk]
    exact gcdF_mul k hk r _
theorem gcdL_mul (ns : List Int) {k : Int} (hk : 0 < k) : gcdL (ns.map (· * k)) = gcdL ns * k := by
  have := gcdF_mul k hk ns 0
  rw [Int.zero_mul] at this
  exact this
theorem gcdL_dvd {ns : List Int} {x : Int} (h : x ∈ ns) : gcdL ns ∣ x := (gcdF_dvd ns 0).2 x h
theorem dvd_sum {d : Int} : ∀ {ns : List Int}, (∀ x ∈ ns, d ∣ x) → d ∣ ns.sum
  | [], _ => Int.dvd_zero d
  | x :: r, h => by
    rw [List.sum_cons]
    exact Int.dvd_add (h x (by simp)) (dvd_sum fun y hy => h y (by simp [hy]))
theorem gcdL_pos {ns : List Int} (h : 0 < ns.sum) : 0 < gcdL ns := by
  have h0 : 0 ≤ gcdL ns := gcdF_nn ns 0 (Int.le_refl _)
  have h1 : gcdL ns ∣ ns.sum := dvd_sum fun x hx => gcdL_dvd hx
  by_cases z : gcdL ns = 0
  · rw [z] at h1
    have := Int.zero_dvd.mp h1
    omega
  · omega
theorem plL_back {ns : List Int} : (plL ns).map (· * gcdL ns) = ns := by
  unfold plL
  rw [List.map_map]
  conv => rhs; rw [← List.map_id ns]
  exact List.map_congr_left fun x hx => Int.fdiv_mul_cancel (gcdL_dvd hx)
theorem sum_mul (k : Int) : ∀ ns : List Int, (ns.map (· * k)).sum = ns.sum * k
  | [] => (Int.zero_mul k).symm
  | x :: r => by rw [List.map_cons, List.sum_cons, List.sum_cons, sum_mul k r, Int.add_mul]
theorem pos_of_mul {a k : Int} (hk : 0 < k) (h : 0 < a * k) : 0 < a := by
  refine Classical.byContradiction fun z => ?_
  have : a * k ≤ 0 := by
    have := Int.mul_le_mul_of_nonneg_right (show a ≤ 0 by omega) (Int.le_of_lt hk)
    rw [Int.zero_mul] at this
    exact this
  omega
theorem plL_sum {ns : List Int} (h : 0 < ns.sum) : 0 < (plL ns).sum := by
  have e := sum_mul (gcdL ns) (plL ns)
  rw [plL_back] at e
  rw [e] at h
  exact pos_of_mul (gcdL_pos (ns := ns) (by rw [e]; exact h)) h
theorem plL_mul {ns : List Int} (h : 0 < ns.sum) {k : Int} (hk : 0 < k) : plL (ns.map (· * k)) = plL ns := by
  have g0 := gcdL_pos h
  unfold plL
  rw [gcdL_mul ns hk, List.map_map]
  refine List.map_congr_left fun x hx => ?_
  show (x * k).fdiv (gcdL ns * k) = x.fdiv (gcdL ns)
  obtain ⟨q, rfl⟩ := gcdL_dvd hx
  rw [Int.mul_fdiv_cancel_left _ (by omega), show gcdL ns * q * k = (gcdL ns * k) * q by rw [Int.mul_assoc, Int.mul_comm q k, Int.mul_assoc], Int.mul_fdiv_cancel_left _ (Int.mul_ne_zero (by omega) (by omega))]
theorem plL_idem {ns : List Int} (h : 0 < ns.sum) : plL (plL ns) = plL ns := by
  have z := plL_mul (plL_sum h) (gcdL_pos h)
  rw [plL_back] at z
  exact z.symm
theorem fdiv_le {x g : Int} (h : 0 ≤ x) (hg : 0 < g) (d : g ∣ x) : 0 ≤ x.fdiv g ∧ (x.fdiv g).natAbs ≤ x.natAbs := ⟨fdiv_nn h (by omega), fdiv_abs d (by omega)⟩
theorem plL_lin {b n : Nat} {ns : List Int} (h : Lin b n ns) : Lin b n (plL ns) := by
  refine ⟨by unfold plL; rw [List.length_map]; exact h.len, fun x hx => ?_, plL_sum h.sum⟩
  obtain ⟨y, hy, rfl⟩ := List.mem_map.mp hx
  have z := fdiv_le (h.bd y hy).1 (gcdL_pos h.sum) (gcdL_dvd hy)
  exact ⟨z.1, (h.bd y hy).2.of_le z.2⟩
theorem plL_mtx {b r n : Nat} {ls : List (List Int)} (h : Mtx b r n ls) : Mtx b r n (ls.map plL) := by
  refine ⟨by rw [List.length_map]; exact h.len, fun l hl => ?_⟩
  obtain ⟨y, hy, rfl⟩ := List.mem_map.mp hl
  exact plL_lin (h.lin y hy)
theorem plC_ok {b n k : Nat} {c : Ch} (h : ChOk b n k c) : ChOk b n k (plC c) := ⟨h.n1, h.n6, h.k1, h.k5, h.sg, plL_lin h.st, plL_mtx h.sp, plL_mtx h.tl⟩
theorem plC_idem {b n k : Nat} {c : Ch} (h : ChOk b n k c) : plC (plC c) = plC c := by
  unfold plC
  have m : ∀ {r n : Nat} {ls : List (List Int)}, Mtx b r n ls → (ls.map plL).map plL = ls.map plL := fun hm => by
    rw [List.map_map]
    exact List.map_congr_left fun l hl => plL_idem (hm.lin l hl).sum
  rw [plL_idem h.st.sum, m h.sp, m h.tl]
/-! ### lines of the same shares -/
def LEq (a b : List Int) : Prop := ∃ i j : Int, 0 < i ∧ 0 < j ∧ a.map (· * i) = b.map (· * j)
structure MEq (A B : List (List Int)) : Prop where
  len : A.length = B.length
  eq : ∀ (i : Nat) (x y : List Int), A[i]? = some x → B[i]? = some y → LEq x y
structure CEq (c e : Ch) : Prop where
  sg : c.sg = e.sg
  st : LEq c.st e.st
  sp : MEq c.sp e.sp
  tl : MEq c.tl e.tl
theorem LEq.refl (a : List Int) : LEq a a := ⟨1, 1, by decide, by decide, rfl⟩
theorem MEq.refl (A : List (List Int)) : MEq A A := ⟨rfl, fun i x y h1 h2 => by rw [h1] at h2; cases h2; exact .refl _⟩
theorem CEq.refl (c : Ch) : CEq c c := ⟨rfl, .refl _, .refl _, .refl _⟩
theorem leq_mul (a : List Int) {k : Int} (hk : 0 < k) : LEq (a.map (· * k)) a := ⟨1, k, by decide, hk, by rw [List.map_map]; exact List.map_congr_left fun x _ => by show x * k * 1 = x * k; rw [Int.mul_one]⟩
theorem leq_pl {a : List Int} (h : 0 < a.sum) : LEq a (plL a) := ⟨1, gcdL a, by decide, gcdL_pos h, by rw [plL_back]; conv => rhs; rw [← List.map_id a]
                                                                                                       exact List.map_congr_left fun x _ => Int.mul_one x⟩
theorem LEq.trans {a b c : List Int} (h : LEq a b) (k : LEq b c) : LEq a c := by
  obtain ⟨i, j, hi, hj, e⟩ := h
  obtain ⟨i', j', hi', hj', e'⟩ := k
  refine ⟨i * i', j * j', Int.mul_pos hi hi', Int.mul_pos hj hj', ?_⟩
  have m : ∀ (l : List Int) (p q : Int), l.map (· * (p * q)) = (l.map (· * p)).map (· * q) := fun l p q => by
    rw [List.map_map]
    exact List.map_congr_left fun x _ => (Int.mul_assoc x p q).symm
  rw [m, e, ← m, Int.mul_comm j i', m, e', ← m, Int.mul_comm j' j]
theorem low_mul (a b k : Int) (hk : 0 < k) (hb : 0 < b) : lowA (a * k) (b * k) = lowA a b ∧ lowB (a * k) (b * k) = lowB a b := by
  have hbk : 0 < b * k := Int.mul_pos hb hk
  have e1 : comI (a * k) (b * k) = comI a b * k := by
    unfold comI
    rw [if_neg (by omega), if_neg (by omega), gcdI_mul _ _ _ hk]
  have c0 : comI a b ≠ 0 := comI_ne (by omega)
  have f : ∀ x, comI a b ∣ x → (x * k).fdiv (comI a b * k) = x.fdiv (comI a b) := fun x ⟨q, hq⟩ => by
    rw [hq, Int.mul_fdiv_cancel_left _ c0, show comI a b * q * k = (comI a b * k) * q by rw [Int.mul_assoc, Int.mul_comm q k, Int.mul_assoc], Int.mul_fdiv_cancel_left _ (Int.mul_ne_zero c0 (by omega))]
  unfold lowA lowB
  rw [e1]
  exact ⟨f a (comI_dvd a b).1, f b (comI_dvd a b).2⟩
theorem leq_low {a b : List Int} (h : LEq a b) (ha : 0 < a.sum) (hb : 0 < b.sum) {i : Nat} {x y : Int} (hx : a[i]? = some x) (hy : b[i]? = some y) :
    lowA x a.sum = lowA y b.sum ∧ lowB x a.sum = lowB y b.sum := by
  obtain ⟨p, q, hp, hq, e⟩ := h
  have es := congrArg List.sum e
  rw [sum_mul, sum_mul] at es
  have ex := congrArg (fun l => l[i]?) e
  simp only [List.getElem?_map, hx, hy, Option.map_some, Option.some.injEq] at ex
  have z1 := low_mul x a.sum p hp ha
  have z2 := low_mul y b.sum q hq hb
  rw [ex, es] at z1
  exact ⟨z1.1.symm.trans z2.1, z1.2.symm.trans z2.2⟩
end VC

/-! VC3: more readings; signs; promises of drawn chains -/
namespace VC
open PySem PySem.Spec PyProof.Rows L2 VB VZ
section
variable {σ : L2.St} {H : Hp} {D : Ends} {v x y : V} {ta tb tc te : TE} {ts : TA} {Q : VK} {r r' : R2} {K : PySem.W.Frag} {m : Md}
def chK (r' : R2) (tc : TE) (σ : L2.St) (y : V) (Q : VK) : VK := fun z H3 => ∃ k, z = .bl k ∧ if k = true then tc σ H3 fun w H4 => r' y w H4 Q else Q (.bl false) H3
theorem r_chain (h : ta σ H fun x H1 => tb σ H1 fun y H2 => r x y H2 (chK r' tc σ y Q)) : tChain r r' ta tb tc σ H Q := h
theorem r_chk {b : Bool} (h1 : b = true → tc σ H fun w H4 => r' y w H4 Q) (h2 : b = false → Q (.bl false) H) : chK r' tc σ y Q (.bl b) H := ⟨b, rfl, by
  cases b with
  | true => exact h1 rfl
  | false => exact h2 rfl⟩
def mK1 (f : V → List V → Hp → VK → Prop) (te : TE) (σ : L2.St) (Q : VK) : VK := fun x H1 => (∃ a, x = .str a) ∧ te σ H1 fun y H2 => f x [y] H2 Q
theorem r_m1 {f : V → List V → Hp → VK → Prop} (h : ta σ H (mK1 f te σ Q)) : tM1 f ta te σ H Q := h
theorem r_mk1 {f : V → List V → Hp → VK → Prop} {z : Str} (h : te σ H fun y H2 => f (.str z) [y] H2 Q) : mK1 f te σ Q (.str z) H := ⟨⟨z, rfl⟩, h⟩
theorem r_gsub {t : TSet} {RS : L2.St → Hp → Prop} (h : ta σ H fun o H1 => tb σ H1 fun i H2 => t o i v H2 fun H3 => RS σ H3) : gSub ta tb t v σ H RS := h
theorem ixN_n {n j : Nat} (h : j < n) : ixN n (j : Int) = some j := by
  unfold ixN
  rw [if_pos (by omega), if_pos (by omega)]
  rfl
theorem r_setL {p : Addr} {xs : List V} {k : Nat} {S : Hp → Prop} (h : H p = some (.lst xs)) (hk : k < xs.length) (q : S (upd H p (.lst (xs.set k v)))) : rSetL (.ref p) (.int (k : Int)) v H S :=
  ⟨p, xs, _, k, rfl, rfl, h, ixN_n hk, q⟩
theorem r_popAt {l : Addr} {xs : List V} {k : Nat} (h : H l = some (.lst xs)) (hk : k < xs.length) (hn : xs.length ≤ 1000) (q : Q xs[k] (upd H l (.lst (xs.eraseIdx k)))) : rPopAt (.ref l) [.int (k : Int)] H Q :=
  ⟨l, xs, _, k, _, rfl, rfl, h, by omega, by omega, PySem.seqIndex_of (by omega) (by omega), List.getElem?_eq_getElem hk, q⟩
theorem r_sumT {a : Addr} {ns : List Int} (h : SqL K H a (ns.map V.int) ∨ SqT K H a (ns.map V.int)) (q : Q (.int ns.sum) H) : rSumT K [.ref a] H Q := ⟨a, ns, rfl, h, q⟩
theorem r_all {a : Addr} {bs : List Bool} (h : SqL K H a (bs.map V.bl)) (q : Q (.bl (bs.all id)) H) : rAll K [.ref a] H Q := ⟨a, bs, rfl, h, q⟩
theorem r_slT {a : Addr} {xs : List V} {lo hi : Option Int} (h : SqT K H a xs) (q : rSlT K (.ref a) lo hi H Q) : rSlT K (.ref a) lo hi H Q := q
theorem r_isi {x : V} {a b : String} {k : Bool} (h : TyX K H x (.type a)) (e : kitB a b = some k) (q : Q (.bl k) H) : rIsi K [x, .ty b] H Q := ⟨x, _, _, _, k, rfl, .ty b, h, kit_ty e, q⟩
theorem log_small {n : Int} (h0 : 0 ≤ n) (h : n < 4294967296) : n.natAbs.log2 < 9000 := log2_small (by omega)
end
/-! ### signs -/
def sg1 (c : Nat) : Str := ⟨#[c]⟩
theorem join_cps : ∀ (cs : List Nat), (Txt.join (⟨#[]⟩ : Str) (cs.map sg1)).cps.toList = cs := by
  intro cs
  show ((List.drop 1 (cs.map sg1)).foldl (fun acc p => acc ++ (⟨#[]⟩ : Str).cps ++ p.cps) ((cs.map sg1).headD Str.empty).cps).toList = cs
  cases cs with
  | nil => rfl
  | cons c r =>
    have g : ∀ (r : List Nat) (a : Array Nat), ((r.map sg1).foldl (fun acc p => acc ++ (⟨#[]⟩ : Str).cps ++ p.cps) a).toList = a.toList ++ r := by
      intro r
      induction r with
      | nil => intro a; simp
      | cons x t ih =>
        intro a
        rw [List.map_cons, List.foldl_cons, ih]
        simp [sg1]
    exact g r _
theorem lt_sg1 {a b : Nat} : ltCps (sg1 a).cps.toList (sg1 b).cps.toList = false → b ≤ a := by
  intro h
  show b ≤ a
  refine Classical.byContradiction fun z => ?_
  have : ltCps [a] [b] = true := by simp [ltCps]; omega
  have e : ltCps [a] [b] = false := h
  rw [e] at this
  cases this
theorem rising_pw : ∀ (l : List Nat) (p : Nat), risingS (sg1 p) (l.map sg1) = true → (p :: l).Pairwise (· ≤ ·)
  | [], p, _ => by simp
  | x :: r, p, h => by
    have h' : (!ltCps (sg1 x).cps.toList (sg1 p).cps.toList && risingS (sg1 x) (r.map sg1)) = true := h
    simp only [Bool.and_eq_true, Bool.not_eq_true'] at h'
    have px : p ≤ x := lt_sg1 h'.1
    have ih := rising_pw r x h'.2
    refine List.pairwise_cons.mpr ⟨fun y hy => ?_, ih⟩
    rcases List.mem_cons.mp hy with rfl | hy
    · exact px
    · exact Nat.le_trans px ((List.pairwise_cons.mp ih).1 y hy)
theorem sorted_pw {l : List Nat} (h : sortedS (l.map sg1) = true) : l.Pairwise (· ≤ ·) := by
  cases l with
  | nil => exact .nil
  | cons p r => exact rising_pw r p h
def pool : List Nat := [97, 98, 99, 100, 101, 109, 120, 121, 122]
/-- sorted, of the pool, each once -/
theorem pool_sgs {l cs : List Nat} {k : Nat} (hp : l.Perm pool) (hk : k ≤ 9) (hc : cs.Perm (l.take k)) (hs : sortedS (cs.map sg1) = true) : Sgs k (Txt.join (⟨#[]⟩ : Str) (cs.map sg1)) := by
  have ll : l.length = 9 := hp.length_eq
  have mem : ∀ c ∈ cs, c ∈ pool := fun c h => hp.mem_iff.mp (List.mem_of_mem_take (hc.mem_iff.mp h))
  have nd : cs.Nodup := hc.nodup_iff.mpr ((hp.nodup_iff.mpr (by decide)).sublist (List.take_sublist _ _))
  refine ⟨by rw [join_cps, hc.length_eq, List.length_take, ll]; omega, fun c h => ?_, ?_⟩
  · rw [join_cps] at h
    have := mem c h
    revert this
    have : ∀ c ∈ pool, 97 ≤ c ∧ c ≤ 122 := by decide
    exact this c
  · rw [join_cps]
    have pw := sorted_pw hs
    have pw2 := pw.and nd
    exact pw2.imp fun {a b} h => Nat.lt_of_le_of_ne h.1 h.2
theorem erase_perm : ∀ {l : List V} {k : Nat} (h : k < l.length), (l[k] :: l.eraseIdx k).Perm l
  | x :: r, 0, _ => .refl _
  | x :: r, k + 1, h => by
    have h' : k < r.length := Nat.lt_of_succ_lt_succ h
    show (r[k] :: x :: r.eraseIdx k).Perm (x :: r)
    exact (List.Perm.swap x r[k] _).trans ((erase_perm h').cons x)
theorem ints_of {Pz : Int → Prop} : ∀ xs : List PyData, (∀ x ∈ xs, ∃ z : Int, x = .int z ∧ Pz z) → ∃ ns : List Int, xs = ns.map PyData.int ∧ ∀ z ∈ ns, Pz z
  | [], _ => ⟨[], rfl, fun z h => nomatch h⟩
  | x :: r, h => by
    obtain ⟨z, rfl, hz⟩ := h x (by simp)
    obtain ⟨ns, rfl, hn⟩ := ints_of r fun y hy => h y (by simp [hy])
    exact ⟨z :: ns, rfl, fun y hy => (List.mem_cons.mp hy).elim (fun e => e ▸ hz) (hn y)⟩
theorem bd_small32 {r : Int} (h0 : 0 ≤ r) (h : r < 4294967296) : Bd 32 r := by
  show r.natAbs < 2 ^ 32
  omega
theorem sum_nn : ∀ {ns : List Int}, (∀ x ∈ ns, 0 ≤ x) → 0 ≤ ns.sum
  | [], _ => Int.le_refl _
  | x :: r, h => by
    rw [List.sum_cons]
    have := h x (by simp)
    have := sum_nn (ns := r) fun y hy => h y (by simp [hy])
    omega
theorem sum_pos {x : Int} : ∀ {ns : List Int}, (∀ x ∈ ns, 0 ≤ x) → x ∈ ns → 0 < x → 0 < ns.sum
  | y :: r, h, hx, hp => by
    rw [List.sum_cons]
    have h0 := h y (by simp)
    have h1 := sum_nn (ns := r) fun y hy => h y (by simp [hy])
    rcases List.mem_cons.mp hx with rfl | hx
    · omega
    · have := sum_pos (ns := r) (fun y hy => h y (by simp [hy])) hx hp
      omega
theorem r_fin {σ : L2.St} {H : Hp} {D : Ends} {c : TT} {t u : TS} (J : L2.St → Hp → Prop) (hJ : ∀ σ H, J σ H → D.nx σ H) (h : (∀ σ H, J σ H → D.nx σ H) → tIfS c t u D σ H) : tIfS c t u D σ H := h hJ
theorem cut_take (xs : List V) (n : Nat) : cutV xs none (some (n : Int)) = xs.take n := by
  unfold cutV
  rw [HT.sIx_none, show HT.sIx xs.length xs.length (some (n : Int)) = min n xs.length from HT.sIx_nat _ _ n, List.drop_zero, Nat.sub_zero]
  by_cases h : n ≤ xs.length
  · rw [Nat.min_eq_left h]
  · rw [Nat.min_eq_right (by omega), List.take_of_length_le (Nat.le_refl _), List.take_of_length_le (by omega)]
def sgN : V → Nat
  | .str z => z.cps.toList.headD 0
  | _ => 0
def sgV (c : Nat) : V := .str (sg1 c)
theorem perm_sg {ys : List V} {l : List Nat} (h : ys.Perm (l.map sgV)) : ∃ cs : List Nat, ys = cs.map sgV ∧ cs.Perm l := by
  refine ⟨ys.map sgN, ?_, ?_⟩
  · rw [List.map_map]
    conv => lhs; rw [← List.map_id ys]
    refine List.map_congr_left fun y hy => ?_
    obtain ⟨c, _, rfl⟩ := List.mem_map.mp (h.mem_iff.mp hy)
    rfl
  · have := h.map sgN
    rw [List.map_map] at this
    have e : (sgN ∘ sgV) = id := rfl
    rw [e, List.map_id] at this
    exact this
theorem perm_sgS {ys : List Str} {l : List Nat} (h : ys.Perm (l.map sg1)) : ∃ cs : List Nat, ys = cs.map sg1 ∧ cs.Perm l := by
  obtain ⟨cs, e, p⟩ := perm_sg (ys := ys.map V.str) (l := l) (by have := h.map V.str; rw [List.map_map] at this; exact this)
  refine ⟨cs, ?_, p⟩
  have e2 : ys.map V.str = (cs.map sg1).map V.str := by rw [e, List.map_map]; rfl
  exact List.map_inj_right (fun a b h => V.str.inj h) |>.mp e2
theorem join_len (cs : List Nat) : ((cs.map sg1).map (·.length)).sum = cs.length := by
  induction cs with
  | nil => rfl
  | cons c r ih => rw [List.map_cons, List.map_cons, List.sum_cons, ih, List.length_cons]; show 1 + r.length = r.length + 1; omega
theorem lins_of {b n : Nat} : ∀ xs : List PyData, (∀ x ∈ xs, ∃ ns : List Int, x = lnD ns ∧ Lin b n ns) → ∃ ls : List (List Int), xs = ls.map lnD ∧ ∀ l ∈ ls, Lin b n l
  | [], _ => ⟨[], rfl, fun z h => nomatch h⟩
  | x :: r, h => by
    obtain ⟨ns, rfl, hz⟩ := h x (by simp)
    obtain ⟨ls, rfl, hn⟩ := lins_of r fun y hy => h y (by simp [hy])
    exact ⟨ns :: ls, rfl, fun y hy => (List.mem_cons.mp hy).elim (fun e => e ▸ hz) (hn y)⟩
theorem mtx_of {b r n : Nat} {xs : List PyData} (hl : xs.length = r) (h : ∀ (i : Nat) (x : PyData), xs[i]? = some x → ∃ ns : List Int, x = lnD ns ∧ Lin b n ns) : ∃ ls : List (List Int), xs = ls.map lnD ∧ Mtx b r n ls := by
  obtain ⟨ls, rfl, hn⟩ := lins_of xs fun x hx => by
    obtain ⟨i, hi⟩ := List.getElem?_of_mem hx
    exact h i x hi
  exact ⟨ls, rfl, ⟨by rw [← hl, List.length_map], hn⟩⟩
theorem dpa_set {K : PySem.W.Frag} {H : Hp} : ∀ {vs : List V} {ds : List PyData} {k : Nat} {v : V} {d : PyData}, DpAll K H vs ds → Dp K H v d → DpAll K H (vs.set k v) (ds.set k d)
  | _, _, _, _, _, .nil, _ => .nil
  | _, _, 0, _, _, .cons _ t, h => .cons h t
  | _, _, k + 1, _, _, .cons a t, h => .cons a (dpa_set (k := k) t h)
theorem mtx_set {b r n : Nat} {ls : List (List Int)} {k : Nat} {l : List Int} (h : Mtx b r n ls) (hl : Lin b n l) : Mtx b r n (ls.set k l) :=
  ⟨by rw [List.length_set]; exact h.len, fun x hx => (List.mem_or_eq_of_mem_set hx).elim (h.lin x) fun e => e ▸ hl⟩
theorem tup_done {m : Md} {K : PySem.W.Frag} {E p : Addr} {H' : Hp} {acc : List V} {xs : List PyData} (ok : Ok m H') (hp : H' p = none) (da : DpAll K (vw (m.add E) H') acc xs) : Dp K (vw m (upd H' p (.tup acc))) (.ref p) (.tuple xs) :=
  .tup (SqT.of (vw_new ok hp)) ((da.mv vw_addsub).mv (Go.new ok hp).vw)
/-- a chain's parts -/
theorem dp_chain {K : PySem.W.Frag} {H : Hp} {v : V} {c : Ch} (h : Dp K H v (chD c)) : ∃ p v1 v2 v3, v = .ref p ∧ SqT K H p [.str c.sg, v1, v2, v3] ∧ Dp K H v1 (lnD c.st) ∧ Dp K H v2 (mtD c.sp) ∧ Dp K H v3 (mtD c.tl) := by
  obtain ⟨p, xs, rfl, hs, ha⟩ := dp_tup h
  cases ha with
  | cons h0 ha =>
    cases ha with
    | cons h1 ha =>
      cases ha with
      | cons h2 ha =>
        cases ha with
        | cons h3 ha =>
          cases ha
          rw [dp_str h0] at hs
          exact ⟨p, _, _, _, rfl, hs, h1, h2, h3⟩
theorem chain_dp {K : PySem.W.Frag} {H : Hp} {p : Addr} {z : Str} {v1 v2 v3 : V} {ns : List Int} {a b : List (List Int)} (hs : SqT K H p [.str z, v1, v2, v3]) (h1 : Dp K H v1 (lnD ns)) (h2 : Dp K H v2 (mtD a)) (h3 : Dp K H v3 (mtD b)) : Dp K H (.ref p) (chD ⟨z, ns, a, b⟩) :=
  .tup hs (.cons (.str _) (.cons h1 (.cons h2 (.cons h3 .nil))))
/-- lines made from lines, one by one -/
theorem lines_by {f : List Int → List Int} {ls : List (List Int)} {xs : List PyData} (hl : xs.length = ls.length) (h : ∀ (i : Nat) (x : PyData), xs[i]? = some x → ∃ l, ls[i]? = some l ∧ x = lnD (f l)) : xs = (ls.map f).map lnD := by
  refine List.ext_getElem? fun i => ?_
  cases e : xs[i]? with
  | none =>
    have : xs.length ≤ i := List.getElem?_eq_none_iff.mp e
    rw [List.getElem?_map, List.getElem?_map, List.getElem?_eq_none_iff.mpr (by omega)]
    rfl
  | some x =>
    obtain ⟨l, hl, rfl⟩ := h i x e
    rw [List.getElem?_map, List.getElem?_map, hl]
    rfl
theorem mul_lin {b n : Nat} {ns : List Int} (h : Lin b n ns) {k : Int} (h0 : 0 < k) (h1 : k < 2 ^ 30) : Lin (b + 30) n (ns.map (· * k)) := by
  refine ⟨by rw [List.length_map]; exact h.len, fun x hx => ?_, by rw [sum_mul]; exact Int.mul_pos h.sum h0⟩
  obtain ⟨y, hy, rfl⟩ := List.mem_map.mp hx
  refine ⟨Int.mul_nonneg (h.bd y hy).1 (by omega), (h.bd y hy).2.mul ?_⟩
  show k.natAbs < 2 ^ 30
  omega
/-- lines multiplied one by one -/
theorem many_of {b r n : Nat} {ls : List (List Int)} (hm : Mtx b r n ls) {xs : List PyData} (hl : xs.length = ls.length) (h : ∀ (i : Nat) (x : PyData), xs[i]? = some x → ∃ l k, ls[i]? = some l ∧ x = lnD (l.map (· * k)) ∧ 0 < k ∧ k < 2 ^ 30) :
    ∃ es : List (List Int), xs = es.map lnD ∧ Mtx (b + 30) r n es ∧ MEq es ls ∧ es.map plL = ls.map plL := by
  obtain ⟨es, rfl, he⟩ : ∃ es : List (List Int), xs = es.map lnD ∧ es.length = ls.length ∧ ∀ (i : Nat) (e : List Int), es[i]? = some e → ∃ l k, ls[i]? = some l ∧ e = l.map (· * k) ∧ 0 < k ∧ k < 2 ^ 30 := by
    clear hm
    induction xs generalizing ls with
    | nil => exact ⟨[], rfl, hl, fun i e z => nomatch z⟩
    | cons x t ih =>
      cases ls with
      | nil => cases hl
      | cons l0 lt =>
        obtain ⟨l, k, hl0, rfl, h0, h1⟩ := h 0 x rfl
        obtain ⟨es, rfl, e1, e2⟩ := ih (ls := lt) (Nat.succ.inj hl) fun i x hx => h (i + 1) x hx
        refine ⟨l.map (· * k) :: es, rfl, congrArg (· + 1) e1, fun i e z => ?_⟩
        cases i with
        | zero => cases z; exact ⟨l, k, hl0, rfl, h0, h1⟩
        | succ i => exact e2 i e z
  obtain ⟨e1, e2⟩ := he
  refine ⟨es, rfl, ⟨by rw [e1]; exact hm.len, fun l hl => ?_⟩, ⟨e1, fun i x y hx hy => ?_⟩, ?_⟩
  · obtain ⟨i, hi⟩ := List.getElem?_of_mem hl
    obtain ⟨l', k, hl', rfl, h0, h1⟩ := e2 i l hi
    exact mul_lin (hm.lin l' (List.mem_of_getElem? hl')) h0 h1
  · obtain ⟨l', k, hl', rfl, h0, h1⟩ := e2 i x hx
    rw [hy] at hl'
    cases hl'
    exact leq_mul _ h0
  · refine List.ext_getElem? fun i => ?_
    rw [List.getElem?_map, List.getElem?_map]
    cases e : es[i]? with
    | none =>
      have : es.length ≤ i := List.getElem?_eq_none_iff.mp e
      rw [List.getElem?_eq_none_iff.mpr (by omega)]
    | some x =>
      obtain ⟨l', k, hl', rfl, h0, h1⟩ := e2 i x e
      rw [hl']
      show some _ = some _
      rw [plL_mul (hm.lin l' (List.mem_of_getElem? hl')).sum h0]
theorem gcdF_step (g : Int) (ns : List Int) (i : Nat) (x : Int) (h : ns[i]? = some x) : gcdI (gcdF g (ns.take i)) x = gcdF g (ns.take (i + 1)) := by
  rw [List.take_add_one, h]
  unfold gcdF
  rw [List.foldl_append]
  rfl
/-! ### promises -/
def spShuf (K : PySem.W.Frag) : Sp := fun vs H Q _ => ∃ (m : Md) (d l q : Addr) (xs : List V), vs = [.ref d, .ref q] ∧ m.dk = some (d, l) ∧ Ok m H ∧ SqL K (vw m H) q xs ∧ xs.length ≤ 100 ∧
  ∀ p H' ys, Go m H H' → vw m H' p = some (.lst ys) → ys.Perm xs → Q (.ref p) H'
def spLine (K : PySem.W.Frag) : Sp := fun vs H Q _ => ∃ (m : Md) (d l : Addr) (n : Nat), vs = [.ref d, .int (n : Int)] ∧ m.dk = some (d, l) ∧ Ok m H ∧ 1 ≤ n ∧ n ≤ 6 ∧
  ∀ v H' ns, Go m H H' → Dp K (vw m H') v (lnD ns) → Lin 32 n ns → Q v H'
def spChain (K : PySem.W.Frag) : Sp := fun vs H Q _ => ∃ (m : Md) (d l : Addr) (n k : Nat), vs = [.ref d, .int (n : Int), .int (k : Int)] ∧ m.dk = some (d, l) ∧ Ok m H ∧ 1 ≤ n ∧ n ≤ 6 ∧ 1 ≤ k ∧ k ≤ 5 ∧
  ∀ v H' c, Go m H H' → Dp K (vw m H') v (chD c) → ChOk 32 n k c → Q v H'
def spBy (K : PySem.W.Frag) : Sp := fun vs H Q _ => ∃ (m : Md) (d l : Addr) (v : V) (ns : List Int) (b n : Nat), vs = [.ref d, v] ∧ m.dk = some (d, l) ∧ Ok m H ∧ Dp K (vw m H) v (lnD ns) ∧ Lin b n ns ∧ n ≤ 6 ∧ b ≤ 2000 ∧
  ∀ v H' k, Go m H H' → 0 < k → k < 2 ^ 30 → Dp K (vw m H') v (lnD (ns.map (· * k))) → Q v H'
def spManyBy (K : PySem.W.Frag) : Sp := fun vs H Q _ => ∃ (m : Md) (d l : Addr) (v : V) (c : Ch) (b n k : Nat), vs = [.ref d, v] ∧ m.dk = some (d, l) ∧ Ok m H ∧ Dp K (vw m H) v (chD c) ∧ ChOk b n k c ∧ b ≤ 2000 ∧
  ∀ v H' e, Go m H H' → Dp K (vw m H') v (chD e) → ChOk (b + 30) n k e → CEq e c → plC e = plC c → Q v H'
def spWide (K : PySem.W.Frag) : Sp := fun vs H Q _ => ∃ (m : Md) (d l : Addr) (v : V) (c : Ch) (n k : Nat), vs = [.ref d, v] ∧ m.dk = some (d, l) ∧ Ok m H ∧ Dp K (vw m H) v (chD c) ∧ ChOk 1400 n k c ∧
  ∀ v H' e, Go m H H' → Dp K (vw m H') v (chD e) → ChOk 1400 n k e → Q v H'
def spLnPl (K : PySem.W.Frag) : Sp := fun vs H Q _ => ∃ (m : Md) (v : V) (ns : List Int) (b n : Nat), vs = [v] ∧ Ok m H ∧ Dp K (vw m H) v (lnD ns) ∧ Lin b n ns ∧ n ≤ 6 ∧ b ≤ 2000 ∧
  ∀ r H', Go m H H' → Dp K (vw m H') r (lnD (plL ns)) → Q r H'
def spMtPl (K : PySem.W.Frag) : Sp := fun vs H Q _ => ∃ (m : Md) (v : V) (ls : List (List Int)) (b r n : Nat), vs = [v] ∧ Ok m H ∧ Dp K (vw m H) v (mtD ls) ∧ Mtx b r n ls ∧ r ≤ 6 ∧ n ≤ 6 ∧ b ≤ 2000 ∧
  ∀ r H', Go m H H' → Dp K (vw m H') r (mtD (ls.map plL)) → Q r H'
def spPlain (K : PySem.W.Frag) : Sp := fun vs H Q _ => ∃ (m : Md) (v : V) (c : Ch) (b n k : Nat), vs = [v] ∧ Ok m H ∧ Dp K (vw m H) v (chD c) ∧ ChOk b n k c ∧ b ≤ 2000 ∧
  ∀ r H', Go m H H' → Dp K (vw m H') r (chD (plC c)) → Q r H'
/-- shares: of a line's place -/
def shD (x s : Int) : PyData := .tuple [.int (lowA x s), .int (lowB x s)]
def spShare (K : PySem.W.Frag) : Sp := fun vs H Q _ => ∃ (m : Md) (v : V) (ns : List Int) (b n i : Nat) (x : Int), vs = [v, .int (i : Int)] ∧ Ok m H ∧ Dp K (vw m H) v (lnD ns) ∧ Lin b n ns ∧ n ≤ 6 ∧ b ≤ 2000 ∧ ns[i]? = some x ∧
  ∀ r H', Go m H H' → Dp K (vw m H') r (shD x ns.sum) → Q r H'
def spStart (K : PySem.W.Frag) : Sp := fun vs H Q _ => ∃ (m : Md) (v : V) (c : Ch) (b n k i : Nat) (x : Int), vs = [v, .int (i : Int)] ∧ Ok m H ∧ Dp K (vw m H) v (chD c) ∧ ChOk b n k c ∧ b ≤ 2000 ∧ c.st[i]? = some x ∧
  ∀ r H', Go m H H' → Dp K (vw m H') r (shD x c.st.sum) → Q r H'
def spStep (K : PySem.W.Frag) : Sp := fun vs H Q _ => ∃ (m : Md) (v : V) (c : Ch) (b n k i j : Nat) (l : List Int) (x : Int), vs = [v, .int (i : Int), .int (j : Int)] ∧ Ok m H ∧ Dp K (vw m H) v (chD c) ∧ ChOk b n k c ∧ b ≤ 2000 ∧ c.sp[i]? = some l ∧ l[j]? = some x ∧
  ∀ r H', Go m H H' → Dp K (vw m H') r (shD x l.sum) → Q r H'
def spTell (K : PySem.W.Frag) : Sp := fun vs H Q _ => ∃ (m : Md) (v : V) (c : Ch) (b n k i j g : Nat) (l : List Int) (x : Int), vs = [v, .int (i : Int), .str (sg1 g)] ∧ Ok m H ∧ Dp K (vw m H) v (chD c) ∧ ChOk b n k c ∧ b ≤ 2000 ∧ c.tl[i]? = some l ∧ c.sg.cps.toList[j]? = some g ∧ l[j]? = some x ∧
  ∀ r H', Go m H H' → Dp K (vw m H') r (shD x l.sum) → Q r H'
/-- a chain of the package: nothing is wrong -/
def spNoErr (K : PySem.W.Frag) : Sp := fun vs H Q _ => ∃ (m : Md) (v : V) (c : Ch) (b n k : Nat), vs = [v] ∧ Ok m H ∧ Dp K (vw m H) v (chD c) ∧ ChOk b n k c ∧
  ∀ H', Go m H H' → Q .non H'
def spAreShares (K : PySem.W.Frag) : Sp := fun vs H Q _ => ∃ (m : Md) (d l : Addr) (v u : V) (c e : Ch) (b n k : Nat), vs = [.ref d, v, u] ∧ m.dk = some (d, l) ∧ Ok m H ∧ Dp K (vw m H) v (chD c) ∧ Dp K (vw m H) u (chD e) ∧ ChOk b n k c ∧ ChOk b n k e ∧ b ≤ 1500 ∧ CEq c e ∧
  ∀ H', Go m H H' → Q (.bl true) H'
theorem one_pl {K : PySem.W.Frag} {b r N : Nat} {ls : List (List Int)} {ws : List V} {m : Md} {H0 : Hp} (hm : Mtx b r N ls) (hN : N ≤ 6) (hb : b ≤ 2000) (da : DpAll K (vw m H0) ws (ls.map lnD)) {i : Nat} {v0 : V} {H' : Hp} {E' : Addr} {S : VK} (hi : ws[i]? = some v0) (okE : Ok (m.add E') H') (old : Same (vw m H0) (vw (m.add E') H'))
    (kq : ∀ v H2 x, Go (m.add E') H' H2 → Dp K (vw (m.add E') H2) v x → (∃ l, ls[i]? = some l ∧ x = lnD (plL l)) → S v H2) : spLnPl K [v0] H' S E0 := by
  obtain ⟨x, hx, dx⟩ := dpa_get da hi
  rw [List.getElem?_map] at hx
  cases e : ls[i]? with
  | none => rw [e] at hx; cases hx
  | some l0 =>
    rw [e] at hx
    cases hx
    exact ⟨m.add E', v0, l0, b, N, rfl, okE, dx.mv old, hm.lin l0 (List.mem_of_getElem? e), hN, hb, fun v H2 g' dv => kq v H2 _ g' dv ⟨l0, e, rfl⟩⟩
theorem gcd_log {b n : Nat} {ns : List Int} (h : Lin b n ns) (hb : b ≤ 2000) : (gcdL ns).natAbs.log2 < 9000 := by
  have g0 := gcdL_pos h.sum
  obtain ⟨x, hx, x0⟩ : ∃ x ∈ ns, x ≠ 0 := by
    refine Classical.byContradiction fun z => ?_
    have : ∀ l : List Int, (∀ x ∈ l, x = 0) → l.sum = 0 := by
      intro l
      induction l with
      | nil => intro _; rfl
      | cons y t ih => intro hz; rw [List.sum_cons, hz y (by simp), ih fun x hx => hz x (by simp [hx])]; rfl
    have := this ns fun x hx => Classical.byContradiction fun y => z ⟨x, hx, y⟩
    have := h.sum
    omega
  have d := gcdL_dvd hx
  have le : (gcdL ns).natAbs ≤ x.natAbs := Nat.le_of_dvd (by omega) (Int.natAbs_dvd_natAbs.mpr d)
  exact Bd.log (k := 2000) (((h.bd x hx).2.mono hb).of_le le) (by decide) (by decide)
theorem idx_sg {z : Str} {j g : Nat} (nd : z.cps.toList.Pairwise (· < ·)) (h : z.cps.toList[j]? = some g) : ∃ r, Builtin.Str.occurrences z (sg1 g) 0 z.length 1 = j :: r := by
  have at_ : ∀ i, StrLaws.At z (sg1 g) z.length i ↔ z.cps.toList[i]? = some g := fun i => StrLaws.subAt_one z g i
  rcases StrLaws.occ_head z (sg1 g) 1 (Nat.le_refl _) with ⟨_, h2⟩ | ⟨i, r, h1, h2, h3⟩
  · exact absurd ((at_ j).mpr h) (h2 j)
  · have hi := (at_ i).mp h2
    have : i = j := by
      have hi' := hi
      refine Classical.byContradiction fun ne => ?_
      have li := (List.getElem?_eq_some_iff.mp hi')
      have lj := (List.getElem?_eq_some_iff.mp h)
      obtain ⟨li, ei⟩ := li
      obtain ⟨lj, ej⟩ := lj
      rcases Nat.lt_or_gt_of_ne ne with q | q
      · have := List.pairwise_iff_getElem.mp nd i j li lj q
        rw [ei, ej] at this
        exact Nat.lt_irrefl _ this
      · have := List.pairwise_iff_getElem.mp nd j i lj li q
        rw [ei, ej] at this
        exact Nat.lt_irrefl _ this
    subst this
    exact ⟨r, h1⟩
theorem sum_le {B : Int} : ∀ {ns : List Int}, (∀ x ∈ ns, 0 ≤ x ∧ x ≤ B) → ns.sum ≤ ns.length * B
  | [], _ => by simp
  | x :: r, h => by
    have h1 := (h x (by simp)).2
    have h2 := sum_le (ns := r) fun y hy => h y (by simp [hy])
    rw [List.sum_cons, List.length_cons, Int.natCast_add, Int.add_mul]
    omega
theorem lin_sum {b n : Nat} {ns : List Int} (h : Lin b n ns) (hn : n ≤ 6) : Bd (b + 3) ns.sum := by
  have z := sum_le (B := (2 : Int) ^ b) (ns := ns) fun x hx => by
    obtain ⟨h0, h1⟩ := h.bd x hx
    refine ⟨h0, ?_⟩
    have h1 : x.natAbs < 2 ^ b := h1
    have : ((2 ^ b : Nat) : Int) = (2 : Int) ^ b := by rw [Int.natCast_pow]; rfl
    omega
  rw [h.len] at z
  have s0 := h.sum
  show ns.sum.natAbs < 2 ^ (b + 3)
  have e : ((2 ^ b : Nat) : Int) = (2 : Int) ^ b := by rw [Int.natCast_pow]; rfl
  have p : 0 < 2 ^ b := Nat.two_pow_pos b
  rw [Nat.pow_add]
  have z2 : (n : Int) * (2 : Int) ^ b ≤ 6 * (2 : Int) ^ b := Int.mul_le_mul_of_nonneg_right (by omega) (by omega)
  omega
end VC

/-! VC4: bools, texts walked; promises about what chains are -/
namespace VC
open PySem PySem.Spec PyProof.Rows L2 VB VZ
section
variable {σ : L2.St} {H : Hp} {D : Ends} {v x y : V} {ta tb tc te : TE} {ts : TA} {Q : VK} {r r' : R2} {K : PySem.W.Frag} {m : Md} {j : Nat}
theorem dp_bool {b : Bool} (h : Dp K H v (.bool b)) : v = .bl b := by cases h; rfl
theorem dpa_bools : ∀ {bs : List Bool} {vs : List V}, DpAll K H vs (bs.map PyData.bool) → vs = bs.map V.bl
  | [], _, h => by cases h; rfl
  | n :: r, _, h => by
    cases h with
    | cons h1 h2 =>
      rw [dp_bool h1, dpa_bools h2]
      rfl
theorem bools_by {n : Nat} {f : Nat → Bool} {xs : List PyData} (hl : xs.length = n) (h : ∀ (i : Nat) (x : PyData), xs[i]? = some x → x = .bool (f i)) : xs = ((List.range n).map f).map PyData.bool := by
  refine List.ext_getElem? fun i => ?_
  cases e : xs[i]? with
  | none =>
    have : xs.length ≤ i := List.getElem?_eq_none_iff.mp e
    rw [List.getElem?_map, List.getElem?_map, List.getElem?_eq_none_iff.mpr (by rw [List.length_range]; omega)]
    rfl
  | some x =>
    have lt := (List.getElem?_eq_some_iff.mp e).1
    rw [h i x e, List.getElem?_map, List.getElem?_map, List.getElem?_range (by omega)]
    rfl
def sK (R : It → Hp → Prop) : VK := fun v H => ∃ z, v = .str z ∧ R (Its z) H
theorem r_iS {R : It → Hp → Prop} (h : te σ H (sK R)) : iStr te σ H R := h
theorem r_sk {R : It → Hp → Prop} {z : Str} (h : R (Its z) H) : sK R (.str z) H := ⟨z, rfl, h⟩
theorem r_lcVS (m : Md) (hm : Ok m H) {z : Str} (hn : z.cps.toList.length ≤ 1000) (R : Nat → PyData → Prop)
    (hs : ∀ (E : Addr) (i : Nat) (c : Nat) (H' : Hp) (S : VK), z.cps.toList[i]? = some c → Go m H H' → Ok (m.add E) H' → Same (vw m H) (vw (m.add E) H') → (∀ v H2 x, Go (m.add E) H' H2 → Dp K (vw (m.add E) H2) v x → R i x → S v H2) → te ((wipe σ [j]).set j (some (.str (sg1 c)))) H' S)
    (hd : ∀ (E : Addr) (H' : Hp) (acc : List V) (xs : List PyData), Go m H H' → H E = none → H' E = some (.lst acc) → DpAll K (vw (m.add E) H') acc xs → xs.length = z.cps.toList.length → (∀ i x, xs[i]? = some x → R i x) → Q (.ref E) H') :
    lcK (gName j) tYes te [j] σ Q (Its z) H := by
  have sz : z.cps.toList.length = z.cps.size := by simp
  refine r_lcV m hm (fun i => .str (sg1 (z.cps.toList.getD i 0))) hn R (fun i H' hi e => ?_) (fun H' e => ?_) (fun i H' x H2 hi e y => ?_) (fun E i H' S hi g o e k => ?_) hd
  · show i < z.cps.size
    omega
  · show z.cps.size ≤ _
    omega
  · obtain ⟨e1, c, hc, rfl⟩ := y
    refine ⟨?_, e1⟩
    have : z.cps.toList[i]? = some c := by simpa using hc
    show V.str ⟨#[c]⟩ = .str (sg1 ((z.cps.toList[i]?).getD 0))
    rw [this]
    rfl
  · exact hs E i _ H' S (by show z.cps.toList[i]? = some ((z.cps.toList[i]?).getD 0); rw [List.getElem?_eq_getElem hi]; rfl) g o e k
end
def kinds7 : List String := ["NoneType", "bool", "int", "str", "list", "tuple", "dict"]
/-- is it an integer, and no bool -/
def spWhole (K : PySem.W.Frag) : Sp := fun vs H Q _ => ∃ (v : V) (t : String), vs = [v] ∧ TyX K H v (.type t) ∧ t ∈ kinds7 ∧ Q (.bl (t == "int")) H
def spIsLine0 (K : PySem.W.Frag) : Sp := fun vs H Q _ => ∃ (m : Md) (v : V) (ns : List Int) (b n : Nat), vs = [v] ∧ Ok m H ∧ Dp K (vw m H) v (lnD ns) ∧ Lin b n ns ∧ n ≤ 6 ∧ ∀ H', Go m H H' → Q (.bl true) H'
def spSigns0 : Sp := fun vs H Q _ => ∃ (m : Md) (z : Str) (k : Nat), vs = [.str z] ∧ Ok m H ∧ Sgs k z ∧ 1 ≤ k ∧ k ≤ 5 ∧ ∀ H', Go m H H' → Q (.bl true) H'
def spLines0 (K : PySem.W.Frag) : Sp := fun vs H Q _ => ∃ (m : Md) (v : V) (ls : List (List Int)) (b r n : Nat) (wd : Str), vs = [v, .str wd, .int (r : Int), .int (n : Int)] ∧ Ok m H ∧ Dp K (vw m H) v (mtD ls) ∧ Mtx b r n ls ∧ r ≤ 6 ∧ n ≤ 6 ∧ ∀ H', Go m H H' → Q .non H'
theorem whole_go {K : PySem.W.Frag} {H : Hp} {Q : VK} {v : V} {t : String} {σ : L2.St} {tb : TE} (ht : TyX K H v (.type t)) (hk : t ∈ kinds7) (k : Q (.bl (t == "int")) H)
    (hb : ∀ c : Bool, rIsi K [v, .ty "bool"] H (notV Q) → tb σ H Q) : rIsi K [v, .ty "int"] H (andV tb σ Q) := by
  have go : ∀ (a b : Bool), kitB t "int" = some a → kitB t "bool" = some b → (t == "int") = (a && !b) → rIsi K [v, .ty "int"] H (andV tb σ Q) := fun a b h1 h2 h3 => by
    refine r_isi ht h1 (r_av (fun c => hb true (r_isi ht h2 (r_nv ?_))) fun c => ?_)
    · rw [h3, c] at k
      exact k
    · rw [h3, c] at k
      exact k
  have hk' : t = "NoneType" ∨ t = "bool" ∨ t = "int" ∨ t = "str" ∨ t = "list" ∨ t = "tuple" ∨ t = "dict" := by simpa [kinds7] using hk
  rcases hk' with rfl | rfl | rfl | rfl | rfl | rfl | rfl
  · exact go false false (by decide +kernel) (by decide +kernel) (by decide +kernel)
  · exact go true true (by decide +kernel) (by decide +kernel) (by decide +kernel)
  · exact go true false (by decide +kernel) (by decide +kernel) (by decide +kernel)
  · exact go false false (by decide +kernel) (by decide +kernel) (by decide +kernel)
  · exact go false false (by decide +kernel) (by decide +kernel) (by decide +kernel)
  · exact go false false (by decide +kernel) (by decide +kernel) (by decide +kernel)
  · exact go false false (by decide +kernel) (by decide +kernel) (by decide +kernel)
theorem cutS_from (z : Str) (n : Nat) : (cutS z (some (n : Int)) none).cps.toList = z.cps.toList.drop n := by
  unfold cutS
  rw [HT.sIx_none, HT.sIx_nat]
  show List.take (z.length - min n z.length) (List.drop (min n z.length) z.cps.toList) = _
  have e : z.length = z.cps.toList.length := by simp [Str.length]
  by_cases h : n ≤ z.length
  · rw [Nat.min_eq_left h, List.take_of_length_le (by rw [List.length_drop]; omega)]
  · rw [Nat.min_eq_right (by omega), Nat.sub_self, List.take_zero, List.drop_eq_nil_of_le (by omega)]
theorem r_isN {x : V} {H : Hp} {Q : VK} (q : Q (.bl (decide (x = .non))) H) : (fun x y H Q => y = V.non ∧ Q (.bl (decide (x = .non))) H : R2) x .non H Q := ⟨rfl, q⟩
theorem sg_repr {k : Nat} {z : Str} (h : Sgs k z) (hk : k ≤ 5) : (reprText z).length ≤ 1000 := by
  have := StrLaws.reprText_len z fun c hc => by have := (h.let_ c hc).2; omega
  have e : z.length = z.cps.toList.length := by simp [Str.length]
  rw [e, h.len] at this
  omega
theorem fit_ch {b n k : Nat} {c : Ch} (h : ChOk b n k c) (hb : b ≤ 1900) : (chD c).showable = true ∧ (chD c).depth ≤ 3 ∧ wt (chD c) ≤ 170000 := by
  have hl : ∀ {n : Nat} {ns : List Int}, Lin b n ns → n ≤ 6 → (lnD ns).showable = true ∧ (lnD ns).depth ≤ 1 ∧ wt (lnD ns) ≤ 1923 * 6 + 3 := by
    intro n ns hl hn
    have sh : ∀ l : List Int, (∀ x ∈ l, Bd b x) → PyData.showableAll (l.map PyData.int) = true := by
      intro l
      induction l with
      | nil => intro _; rfl
      | cons x t ih => intro hx; show ((PyData.int x).showable && PyData.showableAll (t.map PyData.int)) = true; rw [sh_int (hx x (by simp)) (by omega), ih fun y hy => hx y (by simp [hy])]; rfl
    have wt_ : ∀ l : List Int, wtAll (l.map PyData.int) = 1923 * l.length := by
      intro l
      induction l with
      | nil => rfl
      | cons x t ih => show wt (.int x) + 2 + wtAll (t.map PyData.int) = _; rw [ih, List.length_cons]; show 1921 + 2 + 1923 * t.length = _; omega
    refine ⟨?_, ?_, ?_⟩
    · show (PyData.tuple (ns.map .int)).showable = true
      simp only [PyData.showable]
      exact sh ns fun x hx => (hl.bd x hx).2
    · show PyData.depth (.tuple (ns.map .int)) ≤ 1
      show PyData.depthAll (ns.map .int) + 1 ≤ 1
      rw [ints_depth]
      omega
    · show wtAll (ns.map .int) + 3 ≤ _
      rw [wt_, hl.len]
      omega
  have hm : ∀ {r n : Nat} {ls : List (List Int)}, Mtx b r n ls → r ≤ 6 → n ≤ 6 → (mtD ls).showable = true ∧ (mtD ls).depth ≤ 2 ∧ wt (mtD ls) ≤ 70000 := by
    intro r n ls hm hr hn
    have all : ∀ l : List (List Int), (∀ x ∈ l, Lin b n x) → PyData.showableAll (l.map lnD) = true ∧ PyData.depthAll (l.map lnD) ≤ 1 ∧ wtAll (l.map lnD) ≤ 11543 * l.length := by
      intro l
      induction l with
      | nil => intro _; exact ⟨rfl, Nat.zero_le _, Nat.le_refl _⟩
      | cons x t ih =>
        intro hx
        obtain ⟨a1, a2, a3⟩ := hl (hx x (by simp)) hn
        obtain ⟨b1, b2, b3⟩ := ih fun y hy => hx y (by simp [hy])
        refine ⟨?_, ?_, ?_⟩
        · show ((lnD x).showable && PyData.showableAll (t.map lnD)) = true
          rw [a1, b1]; rfl
        · show max (lnD x).depth (PyData.depthAll (t.map lnD)) ≤ 1
          omega
        · show wt (lnD x) + 2 + wtAll (t.map lnD) ≤ _
          rw [List.length_cons]
          omega
    obtain ⟨a1, a2, a3⟩ := all ls hm.lin
    have hlen := hm.len
    refine ⟨?_, ?_, ?_⟩
    · show (PyData.tuple (ls.map lnD)).showable = true
      simp only [PyData.showable]
      exact a1
    · show PyData.depthAll (ls.map lnD) + 1 ≤ 2
      omega
    · show wtAll (ls.map lnD) + 3 ≤ _
      have : ls.length ≤ 6 := by omega
      omega
  have k5 := h.k5
  obtain ⟨a1, a2, a3⟩ := hl h.st h.n6
  obtain ⟨b1, b2, b3⟩ := hm h.sp h.n6 h.n6
  obtain ⟨c1, c2, c3⟩ := hm h.tl h.n6 (by omega)
  have sl : (reprText c.sg).length ≤ 1000 := sg_repr h.sg h.k5
  refine ⟨?_, ?_, ?_⟩
  · show (PyData.tuple [.str c.sg, lnD c.st, mtD c.sp, mtD c.tl]).showable = true
    simp only [PyData.showable, PyData.showableAll]
    rw [a1, b1, c1]
    rfl
  · show max (PyData.depth (.str c.sg)) (max (lnD c.st).depth (max (mtD c.sp).depth (max (mtD c.tl).depth 0))) + 1 ≤ 3
    have : PyData.depth (.str c.sg) = 0 := rfl
    omega
  · show (reprText c.sg).length + 2 + (wt (lnD c.st) + 2 + (wt (mtD c.sp) + 2 + (wt (mtD c.tl) + 2 + 0))) + 3 ≤ _
    omega
theorem sh_fit {b k : Nat} {x s : Int} (hx : Bd b x) (hs : Bd k s) (h0 : s ≠ 0) (hb : b ≤ 1900) (hk : k ≤ 1900) : (shD x s).showable = true ∧ (shD x s).depth = 1 ∧ wt (shD x s) = 3849 := by
  have h1 : (PyData.int (lowA x s)).showable = true := sh_int (lowA_bd hx h0) (by omega)
  have h2 : (PyData.int (lowB x s)).showable = true := sh_int (lowB_bd hs h0) (by omega)
  refine ⟨?_, rfl, rfl⟩
  show (PyData.tuple [.int (lowA x s), .int (lowB x s)]).showable = true
  simp only [PyData.showable, PyData.showableAll] at h1 h2 ⊢
  rw [h1, h2]
  rfl
theorem fit_sh3 {x1 s1 x2 s2 x3 s3 : Int} (h1 : Bd 1500 x1) (k1 : Bd 1503 s1) (z1 : s1 ≠ 0) (h2 : Bd 1500 x2) (k2 : Bd 1503 s2) (z2 : s2 ≠ 0) (h3 : Bd 1500 x3) (k3 : Bd 1503 s3) (z3 : s3 ≠ 0) : Fit (.list [shD x1 s1, shD x2 s2, shD x3 s3]) := by
  obtain ⟨a1, a2, a3⟩ := sh_fit h1 k1 z1 (by decide) (by decide)
  obtain ⟨b1, b2, b3⟩ := sh_fit h2 k2 z2 (by decide) (by decide)
  obtain ⟨c1, c2, c3⟩ := sh_fit h3 k3 z3 (by decide) (by decide)
  refine ⟨?_, ?_, ?_⟩
  · simp only [PyData.showable, PyData.showableAll]
    rw [a1, b1, c1]
    rfl
  · show wt (shD x1 s1) + 2 + (wt (shD x2 s2) + 2 + (wt (shD x3 s3) + 2 + 0)) + 3 ≤ _
    omega
  · show max (shD x1 s1).depth (max (shD x2 s2).depth (max (shD x3 s3).depth 0)) + 1 < 60
    omega
theorem cut_mid (xs : List V) (a b : Nat) (hb : b ≤ xs.length) (hab : a ≤ b) : cutV xs (some (a : Int)) (some (b : Int)) = (xs.drop a).take (b - a) := by
  unfold cutV
  rw [HT.sIx_nat, HT.sIx_nat, Nat.min_eq_left hb, Nat.min_eq_left (Nat.le_trans hab hb)]
theorem cut_drop (xs : List V) (a : Nat) (ha : a ≤ xs.length) : cutV xs (some (a : Int)) none = xs.drop a := by
  unfold cutV
  rw [HT.sIx_nat, HT.sIx_none, Nat.min_eq_left ha, List.take_of_length_le (by rw [List.length_drop]; omega)]
theorem dpa_take {K : PySem.W.Frag} {H : Hp} : ∀ (n : Nat) {vs : List V} {ds : List PyData}, DpAll K H vs ds → DpAll K H (vs.take n) (ds.take n)
  | 0, _, _, _ => .nil
  | n + 1, _, _, .nil => .nil
  | n + 1, _, _, .cons a t => .cons a (dpa_take n t)
theorem dpa_drop {K : PySem.W.Frag} {H : Hp} : ∀ (n : Nat) {vs : List V} {ds : List PyData}, DpAll K H vs ds → DpAll K H (vs.drop n) (ds.drop n)
  | 0, _, _, h => h
  | n + 1, _, _, .nil => .nil
  | n + 1, _, _, .cons a t => dpa_drop n t
/-- lines of told lengths -/
theorem linesL {b : Nat} {len : Nat → Nat} {xs : List PyData} (h : ∀ (i : Nat) (x : PyData), xs[i]? = some x → ∃ ns : List Int, x = lnD ns ∧ Lin b (len i) ns) : ∃ L : List (List Int), xs = L.map lnD ∧ ∀ (i : Nat) (l : List Int), L[i]? = some l → Lin b (len i) l := by
  induction xs generalizing len with
  | nil => exact ⟨[], rfl, fun i l z => nomatch z⟩
  | cons x t ih =>
    obtain ⟨ns, rfl, hn⟩ := h 0 x rfl
    obtain ⟨L, rfl, hL⟩ := ih (len := fun i => len (i + 1)) fun i x hx => h (i + 1) x hx
    exact ⟨ns :: L, rfl, fun i l z => by
      cases i with
      | zero => cases z; exact hn
      | succ i => exact hL i l z⟩
theorem lin_set {b n j : Nat} {ns : List Int} {g : Int} (h : Lin b n ns) (h0 : 0 < g) (hg : Bd b g) (hj : j < n) : Lin b n (ns.set j g) := by
  refine ⟨by rw [List.length_set]; exact h.len, fun x hx => ?_, ?_⟩
  · rcases List.mem_or_eq_of_mem_set hx with z | rfl
    · exact h.bd x z
    · exact ⟨by omega, hg⟩
  · refine sum_pos (x := g) (fun x hx => ?_) (List.mem_iff_getElem?.mpr ⟨j, by rw [List.getElem?_set_self (by rw [h.len]; exact hj)]⟩) h0
    rcases List.mem_or_eq_of_mem_set hx with z | rfl
    · exact (h.bd x z).1
    · omega
theorem r_lenL {a : Addr} {xs : List V} {K : PySem.W.Frag} {H : Hp} {Q : VK} (h : SqL K H a xs) (q : Q (.int xs.length) H) : (fun xs H Q => ∃ x n, xs = [x] ∧ LenV K x H n ∧ Q (V.int n) H : List V → Hp → VK → Prop) [.ref a] H Q := ⟨.ref a, xs.length, rfl, .inl ⟨xs, h, rfl⟩, q⟩
theorem ints_inj {a b : List Int} (h : a.map V.int = b.map V.int) : a = b := List.map_inj_right (fun _ _ h => V.int.inj h) |>.mp h
abbrev rListOf (K : PySem.W.Frag) : List V → Hp → VK → Prop := fun xs H Q => ∃ p ys, xs = [.ref p] ∧ (SqL K H p ys ∨ SqT K H p ys) ∧ ∀ l, H l = none → Q (.ref l) (upd H l (.lst ys))
theorem cl_listOf {X : Cx} : CallR X (.type "list") (rListOf X.K) := call_list_of
abbrev rTupOf (K : PySem.W.Frag) : List V → Hp → VK → Prop := fun xs H Q => ∃ p ys, xs = [.ref p] ∧ ((SqL K H p ys ∧ ∀ l, H l = none → Q (.ref l) (upd H l (.tup ys))) ∨ (SqT K H p ys ∧ Q (.ref p) H))
theorem cl_tupOf {X : Cx} : CallR X (.type "tuple") (rTupOf X.K) := call_tuple_of
theorem r_finA {σ : L2.St} {H : Hp} {D : Ends} {te : TE} {i : Nat} (J : V → Hp → Prop) (hJ : ∀ x H, J x H → D.nx (σ.set i (some x)) H) (h : ∀ N : V → Hp → Prop, (∀ x H, J x H → N x H) → te σ H N) : tAsg te (gName i) D σ H := h _ hJ
theorem ne_refl (v : V) : (!decide (v = v)) = false := by rw [decide_eq_true rfl]; rfl
theorem not_ne {v : V} {G : Prop} (h : (!decide (v = v)) = true) : G := by rw [ne_refl] at h; cases h
theorem MEq.trans {A B C : List (List Int)} (h : MEq A B) (k : MEq B C) : MEq A C := by
  refine ⟨h.len.trans k.len, fun i x z hx hz => ?_⟩
  have hi := (List.getElem?_eq_some_iff.mp hx).1
  obtain ⟨y, hy⟩ : ∃ y, B[i]? = some y := ⟨_, List.getElem?_eq_getElem (by rw [← h.len]; exact hi)⟩
  exact (h.eq i x y hx hy).trans (k.eq i y z hy hz)
theorem CEq.trans {a b c : Ch} (h : CEq a b) (k : CEq b c) : CEq a c := ⟨h.sg.trans k.sg, h.st.trans k.st, h.sp.trans k.sp, h.tl.trans k.tl⟩
theorem meq_pl {b r n : Nat} {ls : List (List Int)} (h : Mtx b r n ls) : MEq ls (ls.map plL) := by
  refine ⟨by rw [List.length_map], fun i x y hx hy => ?_⟩
  rw [List.getElem?_map, hx] at hy
  cases hy
  exact leq_pl (h.lin x (List.mem_of_getElem? hx)).sum
theorem ceq_pl {b n k : Nat} {c : Ch} (h : ChOk b n k c) : CEq c (plC c) := ⟨rfl, leq_pl h.st.sum, meq_pl h.sp, meq_pl h.tl⟩
theorem fit_chs {b n k : Nat} : ∀ (cs : List Ch), cs.length ≤ 20 → (∀ c ∈ cs, ChOk b n k c) → b ≤ 1900 → Fit (.list (cs.map chD)) := by
  intro cs hl h hb
  have all : ∀ cs : List Ch, (∀ c ∈ cs, ChOk b n k c) → PyData.showableAll (cs.map chD) = true ∧ PyData.depthAll (cs.map chD) ≤ 3 ∧ wtAll (cs.map chD) ≤ 170002 * cs.length := by
    intro cs
    induction cs with
    | nil => intro _; exact ⟨rfl, Nat.zero_le _, Nat.le_refl _⟩
    | cons c t ih =>
      intro hc
      obtain ⟨a1, a2, a3⟩ := fit_ch (hc c (by simp)) hb
      obtain ⟨b1, b2, b3⟩ := ih fun x hx => hc x (by simp [hx])
      refine ⟨?_, ?_, ?_⟩
      · show ((chD c).showable && PyData.showableAll (t.map chD)) = true
        rw [a1, b1]; rfl
      · show max (chD c).depth (PyData.depthAll (t.map chD)) ≤ 3
        omega
      · show wt (chD c) + 2 + wtAll (t.map chD) ≤ _
        rw [List.length_cons]
        omega
  obtain ⟨a1, a2, a3⟩ := all cs h
  refine ⟨?_, ?_, ?_⟩
  · simp only [PyData.showable]
    exact a1
  · show wtAll (cs.map chD) + 3 ≤ _
    have : 170002 * cs.length ≤ 170002 * 20 := Nat.mul_le_mul_left _ hl
    omega
  · show PyData.depthAll (cs.map chD) + 1 < 60
    omega
theorem r_reprS {K : PySem.W.Frag} {v : V} {d : PyData} {H : Hp} {Q : VK} {S : Str} (e : S = d.shown) (h : Dp K H v d) (f : Fit d) (q : Q (.str S) H) : rRepr K [v] H Q := r_repr h f (e ▸ q)
end VC

namespace VK
open PySem PySem.Spec PyProof.Rows L2 VB VZ VC
/-! own short words: "rd" takes one construct of a reading -/
local macro_rules | `(tactic| walk_at "rd") => `(tactic| (first
  | with_reducible refine r_seq ?_ | with_reducible refine r_set ?_ | with_reducible refine r_ret ?_ | with_reducible refine r_drop ?_ | with_reducible refine r_if ?_ | with_reducible refine r_next ?_ | with_reducible refine r_par ?_ | with_reducible refine r_two ?_ | with_reducible refine r_par3 ?_ | with_reducible refine r_three ?_ | with_reducible refine r_gName ?_
  | with_reducible refine r_var (by with_unfolding_all rfl) ?_ | with_reducible refine r_eq (by with_unfolding_all rfl) ?_ | with_reducible refine r_ne (by with_unfolding_all rfl) ?_
  | with_reducible refine r_c ?_ | with_reducible refine r_op ?_ | with_reducible refine r_un ?_ | with_reducible refine r_I0 ?_ | with_reducible refine r_U ?_ | with_reducible refine r_test ?_ | with_reducible refine r_tB ?_ | with_reducible refine r_bl ?_ | with_reducible refine r_and ?_ | with_reducible refine r_or ?_ | with_reducible refine r_not ?_ | with_reducible refine r_andV ?_ | with_reducible refine r_orV ?_ | with_reducible refine r_notV ?_ | with_reducible refine r_nv ?_ | with_reducible refine r_ifx ?_ | with_reducible refine r_tup ?_ | with_reducible refine r_lst ?_ | with_reducible refine r_nil ?_ | with_reducible refine r_cons ?_ | with_reducible refine r_cb ?_ | with_reducible refine r_call ?_ | with_reducible refine r_ck ?_ | with_reducible refine r_abs ?_ | with_reducible refine r_int ?_ | with_reducible refine r_intb ?_ | with_reducible refine r_dget ?_ | with_reducible refine r_dput ?_ | with_reducible refine r_bm ?_ | with_reducible refine r_bm0 ?_ | with_reducible refine r_sl ?_ | with_reducible refine r_none ?_ | with_reducible refine r_some ?_ | with_reducible refine r_someI ?_ | with_reducible refine r_iL ?_ | with_reducible refine r_iT ?_ | with_reducible refine r_rng1 ?_ | with_reducible refine r_rng2 ?_ | with_reducible refine r_for ?_ | with_reducible refine r_lc ?_ | with_reducible refine r_yesT ?_ | with_reducible refine r_pcons ?_ | with_reducible refine r_pnil ?_ | with_reducible refine r_gcons ?_ | with_reducible refine r_gnil ?_ | with_reducible refine r_asg ?_ | with_reducible refine r_chain ?_ | with_reducible refine r_m1 ?_ | with_reducible refine r_mk1 ?_ | with_reducible refine r_gsub ?_ | with_reducible refine r_iZ ?_ | with_reducible refine r_iN ?_ | with_reducible refine r_iS ?_ | with_reducible refine r_sk ?_ | with_reducible refine r_iRV ?_))
local macro_rules | `(tactic| walk_at "rds") => `(tactic| (repeat walk_at "rd"))
def topS (i : Nat) : Stmt := PySem.Challenge.pw_veiledchains_k04_whole_plain_chains_and.main.body.getD i (.Pass ⟨0, 0, 0, 0⟩)
abbrev s_lowest : Stmt := topS 7
theorem sc_lowest : FnScope ["a", "b", "common"] ["a", "b"] (defScope s_lowest) := ⟨rfl, rfl, rfl, by decide +kernel, rfl, by decide +kernel, by decide +kernel⟩
abbrev s_is_whole : Stmt := topS 9
theorem sc_is_whole : FnScope ["value"] ["value"] (defScope s_is_whole) := ⟨rfl, rfl, rfl, by decide +kernel, rfl, by decide +kernel, by decide +kernel⟩
abbrev s_ascends : Stmt := topS 10
theorem sc_ascends : FnScope ["items", "one", "other"] ["items"] (defScope s_ascends) := ⟨rfl, rfl, rfl, by decide +kernel, rfl, by decide +kernel, by decide +kernel⟩
abbrev s_chain_error : Stmt := topS 12
theorem sc_chain_error : FnScope ["value", "signs", "start", "steps", "tells", "error"] ["value"] (defScope s_chain_error) := ⟨rfl, rfl, rfl, by decide +kernel, rfl, by decide +kernel, by decide +kernel⟩
abbrev s_are_signs : Stmt := topS 13
theorem sc_are_signs : FnScope ["value", "sign"] ["value"] (defScope s_are_signs) := ⟨rfl, rfl, rfl, by decide +kernel, rfl, by decide +kernel, by decide +kernel⟩
abbrev s_is_line : Stmt := topS 14
theorem sc_is_line : FnScope ["value", "item"] ["value"] (defScope s_is_line) := ⟨rfl, rfl, rfl, by decide +kernel, rfl, by decide +kernel, by decide +kernel⟩
abbrev s_lines_error : Stmt := topS 15
theorem sc_lines_error : FnScope ["value", "word", "states", "width", "state", "line"] ["value", "word", "states", "width"] (defScope s_lines_error) := ⟨rfl, rfl, rfl, by decide +kernel, rfl, by decide +kernel, by decide +kernel⟩
abbrev s_plain : Stmt := topS 16
theorem sc_plain : FnScope ["chain", "signs", "start", "steps", "tells"] ["chain"] (defScope s_plain) := ⟨rfl, rfl, rfl, by decide +kernel, rfl, by decide +kernel, by decide +kernel⟩
abbrev s_plain_lines : Stmt := topS 17
theorem sc_plain_lines : FnScope ["lines", "line"] ["lines"] (defScope s_plain_lines) := ⟨rfl, rfl, rfl, by decide +kernel, rfl, by decide +kernel, by decide +kernel⟩
abbrev s_plain_line : Stmt := topS 18
theorem sc_plain_line : FnScope ["line", "common", "weight"] ["line"] (defScope s_plain_line) := ⟨rfl, rfl, rfl, by decide +kernel, rfl, by decide +kernel, by decide +kernel⟩
abbrev s_start_share : Stmt := topS 19
theorem sc_start_share : FnScope ["chain", "state"] ["chain", "state"] (defScope s_start_share) := ⟨rfl, rfl, rfl, by decide +kernel, rfl, by decide +kernel, by decide +kernel⟩
abbrev s_step_share : Stmt := topS 20
theorem sc_step_share : FnScope ["chain", "one", "other"] ["chain", "one", "other"] (defScope s_step_share) := ⟨rfl, rfl, rfl, by decide +kernel, rfl, by decide +kernel, by decide +kernel⟩
abbrev s_tell_share : Stmt := topS 21
theorem sc_tell_share : FnScope ["chain", "state", "sign"] ["chain", "state", "sign"] (defScope s_tell_share) := ⟨rfl, rfl, rfl, by decide +kernel, rfl, by decide +kernel, by decide +kernel⟩
abbrev s_share : Stmt := topS 22
theorem sc_share : FnScope ["line", "place"] ["line", "place"] (defScope s_share) := ⟨rfl, rfl, rfl, by decide +kernel, rfl, by decide +kernel, by decide +kernel⟩
abbrev s_law_deck : Stmt := topS 24
theorem sc_law_deck : FnScope ["script", "cell", "cells", "stirred"] ["script"] (defScope s_law_deck) := ⟨rfl, rfl, rfl, by decide +kernel, rfl, by decide +kernel, by decide +kernel⟩
abbrev s_law_draw : Stmt := topS 25
theorem sc_law_draw : FnScope ["deck", "many", "great", "cell", "one"] ["deck", "many"] (defScope s_law_draw) := ⟨rfl, rfl, rfl, by decide +kernel, rfl, by decide +kernel, by decide +kernel⟩
abbrev s_law_pick : Stmt := topS 26
theorem sc_law_pick : FnScope ["deck", "items"] ["deck", "items"] (defScope s_law_pick) := ⟨rfl, rfl, rfl, by decide +kernel, rfl, by decide +kernel, by decide +kernel⟩
abbrev s_law_shuffled : Stmt := topS 27
theorem sc_law_shuffled : FnScope ["deck", "items", "left", "found", "turn"] ["deck", "items"] (defScope s_law_shuffled) := ⟨rfl, rfl, rfl, by decide +kernel, rfl, by decide +kernel, by decide +kernel⟩
abbrev s_law_gcd : Stmt := topS 28
theorem sc_law_gcd : FnScope ["a", "b"] ["a", "b"] (defScope s_law_gcd) := ⟨rfl, rfl, rfl, by decide +kernel, rfl, by decide +kernel, by decide +kernel⟩
abbrev s_law_low : Stmt := topS 29
theorem sc_law_low : FnScope ["a", "b", "common"] ["a", "b"] (defScope s_law_low) := ⟨rfl, rfl, rfl, by decide +kernel, rfl, by decide +kernel, by decide +kernel⟩
abbrev s_law_line : Stmt := topS 30
theorem sc_law_line : FnScope ["deck", "many", "line", "turn"] ["deck", "many"] (defScope s_law_line) := ⟨rfl, rfl, rfl, by decide +kernel, rfl, by decide +kernel, by decide +kernel⟩
abbrev s_law_chain : Stmt := topS 31
theorem sc_law_chain : FnScope ["deck", "states", "signs", "letters", "steps", "tells", "state"] ["deck", "states", "signs"] (defScope s_law_chain) := ⟨rfl, rfl, rfl, by decide +kernel, rfl, by decide +kernel, by decide +kernel⟩
abbrev s_law_by : Stmt := topS 32
theorem sc_law_by : FnScope ["deck", "line", "by", "weight"] ["deck", "line"] (defScope s_law_by) := ⟨rfl, rfl, rfl, by decide +kernel, rfl, by decide +kernel, by decide +kernel⟩
abbrev s_law_many_by : Stmt := topS 33
theorem sc_law_many_by : FnScope ["deck", "chain", "signs", "start", "steps", "tells", "line"] ["deck", "chain"] (defScope s_law_many_by) := ⟨rfl, rfl, rfl, by decide +kernel, rfl, by decide +kernel, by decide +kernel⟩
abbrev s_law_great : Stmt := topS 34
theorem sc_law_great : FnScope ["deck", "figures", "found", "turn"] ["deck", "figures"] (defScope s_law_great) := ⟨rfl, rfl, rfl, by decide +kernel, rfl, by decide +kernel, by decide +kernel⟩
abbrev s_law_wide_chain : Stmt := topS 35
theorem sc_law_wide_chain : FnScope ["deck", "chain", "signs", "start", "steps", "tells", "line", "lines", "turn", "many"] ["deck", "chain"] (defScope s_law_wide_chain) := ⟨rfl, rfl, rfl, by decide +kernel, rfl, by decide +kernel, by decide +kernel⟩
abbrev s_law_divided_line : Stmt := topS 36
theorem sc_law_divided_line : FnScope ["line", "common", "weight"] ["line"] (defScope s_law_divided_line) := ⟨rfl, rfl, rfl, by decide +kernel, rfl, by decide +kernel, by decide +kernel⟩
abbrev s_law_plain : Stmt := topS 37
theorem sc_law_plain : FnScope ["chain", "signs", "start", "steps", "tells", "line"] ["chain"] (defScope s_law_plain) := ⟨rfl, rfl, rfl, by decide +kernel, rfl, by decide +kernel, by decide +kernel⟩
abbrev s_law_are_shares : Stmt := topS 38
theorem sc_law_are_shares : FnScope ["deck", "chain", "due", "signs", "start", "steps", "tells", "turn", "one", "other", "spot", "wanted", "found"] ["deck", "chain", "due"] (defScope s_law_are_shares) := ⟨rfl, rfl, rfl, by decide +kernel, rfl, by decide +kernel, by decide +kernel⟩
abbrev s_law : Stmt := topS 39
theorem sc_law : FnScope ["script", "deck", "turn", "chain", "is_wide", "due", "great", "known", "found"] ["script"] (defScope s_law) := ⟨rfl, rfl, rfl, by decide +kernel, rfl, by decide +kernel, by decide +kernel⟩
def gW_start_share_state_chain : List Value → List Value → List Value
  | [], [k0, k1] => [k1, k0]
  | _, _ => []
def gV_start_share_state_chain : List V → List V → List V
  | [], [k0, k1] => [k1, k0]
  | _, _ => []
theorem kw_start_share_state_chain : KwIs s_start_share "start_share" ["chain", "state"] ["state", "chain"] gW_start_share_state_chain gV_start_share_state_chain where
  to := by
    intro kV doc pm an cdv ct us ws hl
    have h : ∃ k0 k1, us = [] ∧ ws = [k0, k1] := by
      unfold gW_start_share_state_chain at hl
      split at hl
      · exact ⟨_, _, rfl, rfl⟩
      · cases hl
    obtain ⟨k0, k1, rfl, rfl⟩ := h
    rfl
  rel := by
    intro vs us zs ws r q
    cases r with
    | nil => 
      cases q with
      | nil => exact .nil
      | cons rk0 q =>
        cases q with
        | nil => exact .nil
        | cons rk1 q =>
          cases q with
          | nil => exact (.cons rk1 (.cons rk0 .nil))
          | cons _ _ => exact .nil
    | cons _ _ => exact .nil
def gW_step_share_other_one_chain : List Value → List Value → List Value
  | [], [k0, k1, k2] => [k2, k1, k0]
  | _, _ => []
def gV_step_share_other_one_chain : List V → List V → List V
  | [], [k0, k1, k2] => [k2, k1, k0]
  | _, _ => []
theorem kw_step_share_other_one_chain : KwIs s_step_share "step_share" ["chain", "one", "other"] ["other", "one", "chain"] gW_step_share_other_one_chain gV_step_share_other_one_chain where
  to := by
    intro kV doc pm an cdv ct us ws hl
    have h : ∃ k0 k1 k2, us = [] ∧ ws = [k0, k1, k2] := by
      unfold gW_step_share_other_one_chain at hl
      split at hl
      · exact ⟨_, _, _, rfl, rfl⟩
      · cases hl
    obtain ⟨k0, k1, k2, rfl, rfl⟩ := h
    rfl
  rel := by
    intro vs us zs ws r q
    cases r with
    | nil => 
      cases q with
      | nil => exact .nil
      | cons rk0 q =>
        cases q with
        | nil => exact .nil
        | cons rk1 q =>
          cases q with
          | nil => exact .nil
          | cons rk2 q =>
            cases q with
            | nil => exact (.cons rk2 (.cons rk1 (.cons rk0 .nil)))
            | cons _ _ => exact .nil
    | cons _ _ => exact .nil
def gW_tell_share_sign_state_chain : List Value → List Value → List Value
  | [], [k0, k1, k2] => [k2, k1, k0]
  | _, _ => []
def gV_tell_share_sign_state_chain : List V → List V → List V
  | [], [k0, k1, k2] => [k2, k1, k0]
  | _, _ => []
theorem kw_tell_share_sign_state_chain : KwIs s_tell_share "tell_share" ["chain", "state", "sign"] ["sign", "state", "chain"] gW_tell_share_sign_state_chain gV_tell_share_sign_state_chain where
  to := by
    intro kV doc pm an cdv ct us ws hl
    have h : ∃ k0 k1 k2, us = [] ∧ ws = [k0, k1, k2] := by
      unfold gW_tell_share_sign_state_chain at hl
      split at hl
      · exact ⟨_, _, _, rfl, rfl⟩
      · cases hl
    obtain ⟨k0, k1, k2, rfl, rfl⟩ := h
    rfl
  rel := by
    intro vs us zs ws r q
    cases r with
    | nil => 
      cases q with
      | nil => exact .nil
      | cons rk0 q =>
        cases q with
        | nil => exact .nil
        | cons rk1 q =>
          cases q with
          | nil => exact .nil
          | cons rk2 q =>
            cases q with
            | nil => exact (.cons rk2 (.cons rk1 (.cons rk0 .nil)))
            | cons _ _ => exact .nil
    | cons _ _ => exact .nil
def gW_plain_chain : List Value → List Value → List Value
  | [], [k0] => [k0]
  | _, _ => []
def gV_plain_chain : List V → List V → List V
  | [], [k0] => [k0]
  | _, _ => []
theorem kw_plain_chain : KwIs s_plain "plain" ["chain"] ["chain"] gW_plain_chain gV_plain_chain where
  to := by
    intro kV doc pm an cdv ct us ws hl
    have h : ∃ k0, us = [] ∧ ws = [k0] := by
      unfold gW_plain_chain at hl
      split at hl
      · exact ⟨_, rfl, rfl⟩
      · cases hl
    obtain ⟨k0, rfl, rfl⟩ := h
    rfl
  rel := by
    intro vs us zs ws r q
    cases r with
    | nil => 
      cases q with
      | nil => exact .nil
      | cons rk0 q =>
        cases q with
        | nil => exact (.cons rk0 .nil)
        | cons _ _ => exact .nil
    | cons _ _ => exact .nil
section
variable {P : Program} {w : World} {K : PySem.W.Frag} {mg : Str → Option Value} {base : Heap}
theorem ok_law_draw (B : Blt mg) {f : Addr} {fd : FuncData} (F : Fun K "_law_draw" "_law_draw" s_law_draw f fd) : FG P w K mg base 1 f fd ["deck", "many"] spDraw := by
  refine okX F sc_law_draw (fun vs H Q E h => ?_) (fun cdv A out s H vs Q E gu hr h => ?_)
  · obtain ⟨d, l, m, rfl, _⟩ := h
    rfl
  · obtain ⟨d, l, m, rfl, hD, hm, k⟩ := h
    have hu := hu_of hr
    refine ⟨_, (pss_cons (ps_set (i := 2) sc_law_draw.nd rfl (.inl rfl) (pe_dget hu (pv 0) pe_str (fun _ _ => rfl)))
      (pss_cons (ps_if (pt_cmpR op_lt (pv 1) pe_int (nomark _)) (pss_one (ps_ret pe_int)) pss_nil)
      (pss_cons (ps_if (pt_cmpR (op_neD hr.units) (pv 2) (pe_lst pa_nil) (nomark _)) (pss_cons (ps_set (i := 3) sc_law_draw.nd rfl (.inl rfl) (pe_bm0 PySem.F.plainAttrs_list PySem.F.slot_list_pop PySem.F.type_list_pop mt_pop (pv 2)))
      (pss_cons (ps_if (pt_cmpR op_ge (pv 3) (pv 1) (nomark _)) (pss_one (ps_expr (pe_bm PySem.F.plainAttrs_list PySem.F.slot_list_append PySem.F.type_list_append mt_append (pv 2) (pa_cons (pe_op op_dv (pv 3) (pv 1)) pa_nil)))) pss_nil)
      (pss_one (ps_ret (pe_op op_modN (pe_callTy (T := "int") cl_int (by rfl) B.int (by decide +kernel) (pa_cons (pv 3) pa_nil)) (pv 1)))))) pss_nil)
      (pss_cons (ps_dput hu (pv 0) pe_str (pe_op op_add (pe_dget hu (pv 0) pe_str (fun _ _ => rfl)) pe_int) rfl)
      (pss_cons (ps_set (i := 4) sc_law_draw.nd rfl (.inl rfl) (pe_op op_mod (pe_callTy (T := "int") cl_int (by rfl) B.int (by decide +kernel) (pa_cons (pe_op op_add (pe_dget hu (pv 0) pe_str (fun _ _ => rfl)) (pe_op op_ml pe_int (pe_dget hu (pv 0) pe_str (fun _ _ => rfl)))) pa_nil)) pe_int))
      (pss_cons (ps_set (i := 4) sc_law_draw.nd rfl (.inl rfl) (pe_op op_mod (pe_callTy (T := "int") cl_int (by rfl) B.int (by decide +kernel) (pa_cons (pe_op op_add (pe_op op_add (pe_op op_ml (pv 4) (pv 4)) (pe_op op_ml pe_int (pe_dget hu (pv 0) pe_str (fun _ _ => rfl)))) pe_int) pa_nil)) pe_int))
      (pss_cons (ps_set (i := 4) sc_law_draw.nd rfl (.inl rfl) (pe_op op_mod (pe_callTy (T := "int") cl_int (by rfl) B.int (by decide +kernel) (pa_cons (pe_op op_add (pe_op op_ml (pv 4) (pv 4)) (pe_dget hu (pv 0) pe_str (fun _ _ => rfl))) pa_nil)) pe_int))
      (pss_one (ps_ret (pe_op op_modN (pe_callTy (T := "int") cl_int (by rfl) B.int (by decide +kernel) (pa_cons (pe_op op_fdiv (pv 4) pe_int) pa_nil)) (pv 1))))))))))), ?_⟩
    obtain ⟨⟨kvs, st, tn, hd, hl, vG, vS, vT, h0⟩, ⟨ns, hL, hn, hln⟩⟩ := id hD
    have dl := hD.dl
    walk_at "rds"
    refine r_dgetK (k := kG) hd vG ?_
    walk_at "rds"
    refine r_ifs (fun c => ?_) (fun c => ?_)
    · walk_at "rds"
      exact k 0 H (Adv.refl hD) (Int.le_refl _) (.inr rfl)
    · have hm2 : 2 ≤ m := by
        have := of_decide_eq_false c
        omega
      walk_at "rds"
      refine r_newL (Nat.zero_le _) fun p hp => ?_
      have hpl : p ≠ d ∧ p ≠ l := hD.ne hp
      have hd1 : upd H p (.lst []) d = some (.dK kvs) := by rw [upd_ne hpl.1.symm]; exact hd
      have hL1 : upd H p (.lst []) l = some (.lst (ns.map V.int)) := by rw [upd_ne hpl.2.symm]; exact hL
      have a1 : Adv d l H (upd H p (.lst [])) := .new hD hp
      refine r_neNil (SqL.of hL1) (SqL.of upd_same) ?_
      walk_at "rds"
      refine r_ifs (fun c2 => ?_) (fun c2 => ?_)
      · have hne : ns ≠ [] := by intro z; subst z; exact absurd c2 (by decide)
        obtain ⟨r, x, rfl, e1, e2⟩ := last_int hne
        have hx : 0 ≤ x := hn x (by simp)
        have a2 : Adv d l H (upd (upd H p (.lst [])) l (.lst (r.map V.int))) :=
          ⟨⟨⟨kvs, st, tn, by rw [upd_ne dl]; exact hd1, hl, vG, vS, vT, h0⟩, ⟨r, upd_same, fun n hm => hn n (by simp [hm]), by simp at hln; omega⟩⟩, by rw [hid_updl]; exact a1.st⟩
        walk_at "rds"
        refine r_pop hL1 e1 ?_
        rw [e2]
        walk_at "rds"
        refine r_ifs (fun c3 => ?_) (fun c3 => ?_)
        · walk_at "rds"
          refine r_tyL upd_same ?_
          walk_at "rds"
          refine r_I ⟨by omega, hm⟩ ?_
          walk_at "rds"
          refine r_app upd_same (by simp at hln ⊢; omega) ?_
          walk_at "rds"
          refine r_I (by omega) ?_
          walk_at "rds"
          have hf := fmod_lt (a := x) hm2
          refine k _ _ ⟨⟨⟨kvs, st, tn, ?_, hl, vG, vS, vT, h0⟩, ⟨r ++ [x.fdiv m], ?_, ?_, ?_⟩⟩, ?_⟩ hf.1 (.inl hf.2)
          · rw [upd_ne dl, upd_ne dl]; exact hd1
          · rw [upd_same, List.map_append]; rfl
          · intro n hm
            rcases List.mem_append.mp hm with z | z
            · exact hn n (by simp [z])
            · rw [List.mem_singleton.mp z]; exact fdiv_nn hx (by omega)
          · simp at hln ⊢; omega
          · rw [hid_updl]; exact a2.st
        · walk_at "rds"
          refine r_I (by omega) ?_
          walk_at "rds"
          have hf := fmod_lt (a := x) hm2
          exact k _ _ a2 hf.1 (.inl hf.2)
      · walk_at "rds"
        refine r_dgetK (k := kT) hd1 vT ?_
        walk_at "rds"
        refine r_dputK (k := kT) hd1 (by omega) ?_
        have hd2 : upd (upd H p (.lst [])) d (.dK (putK kvs kT (.int (tn + 1)))) d = some (.dK (putK kvs kT (.int (tn + 1)))) := upd_same
        have wS : valV (putK kvs kT (.int (tn + 1))) kS = some (.int st) := by rw [valV_put, if_neg kST]; exact vS
        have wG : valV (putK kvs kT (.int (tn + 1))) kG = some (.ref l) := by rw [valV_put, if_neg kGT]; exact vG
        have wT : valV (putK kvs kT (.int (tn + 1))) kT = some (.int (tn + 1)) := by rw [valV_put, if_pos rfl]
        have a2 : Adv d l H (upd (upd H p (.lst [])) d (.dK (putK kvs kT (.int (tn + 1))))) :=
          ⟨⟨⟨_, st, tn + 1, upd_same, by rw [put_len vT]; exact hl, wG, wS, wT, h0⟩, ⟨ns, by rw [upd_ne dl.symm]; exact hL1, hn, hln⟩⟩, by rw [hid_updd]; exact a1.st⟩
        walk_at "rds"
        refine r_dgetK (k := kS) hd2 wS ?_
        walk_at "rds"
        refine r_dgetK (k := kT) hd2 wT ?_
        walk_at "rds"
        refine r_I (mul_small (by decide) (by decide)) ?_
        walk_at "rds"
        refine r_I (by decide) ?_
        walk_at "rds"
        have q1 : ∀ z : Int, 0 ≤ z % 4294967279 ∧ z % 4294967279 < 4294967279 := fun z => ⟨Int.emod_nonneg z (by decide), Int.emod_lt_of_pos z (by decide)⟩
        refine r_I (mul_small (q1 _).1 (by have := (q1 (st + 2654435761 * (tn + 1))).2; omega)) ?_
        walk_at "rds"
        refine r_dgetK (k := kT) hd2 wT ?_
        walk_at "rds"
        refine r_I (mul_small (by decide) (by decide)) ?_
        walk_at "rds"
        refine r_I (by decide) ?_
        walk_at "rds"
        have q2 : ∀ z : Int, 0 ≤ z % 4294967231 ∧ z % 4294967231 < 4294967231 := fun z => ⟨Int.emod_nonneg z (by decide), Int.emod_lt_of_pos z (by decide)⟩
        generalize (st + 2654435761 * (tn + 1)) % 4294967279 = y1
        refine r_I (mul_small (q2 _).1 (by have := (q2 (y1 * y1 + 97 * (tn + 1) + 53)).2; omega)) ?_
        walk_at "rds"
        refine r_dgetK (k := kS) hd2 wS ?_
        walk_at "rds"
        refine r_I (by decide) ?_
        walk_at "rds"
        refine r_I ⟨by decide, by decide⟩ ?_
        walk_at "rds"
        refine r_I (by omega) ?_
        walk_at "rds"
        generalize (y1 * y1 + 97 * (tn + 1) + 53) % 4294967231 = y2
        have hf := fmod_lt (a := (y2 * y2 + st) % 4294967197 / 16) hm2
        exact k _ _ a2 hf.1 (.inl hf.2)
theorem ok_law_pick (B : Blt mg) {f : Addr} {fd : FuncData} (F : Fun K "_law_pick" "_law_pick" s_law_pick f fd) (c_law_draw : FnAt P w K mg base s_law_draw 1 "_law_draw" ["deck", "many"] spDraw) :
    FG P w K mg base 2 f fd ["deck", "items"] (spPick K) := by
  refine okX F sc_law_pick (fun vs H Q E h => ?_) (fun cdv A out s H vs Q E gu hr h => ?_)
  · obtain ⟨d, l, q, xs, rfl, _⟩ := h
    rfl
  · obtain ⟨d, l, q, xs, rfl, hD, hS, h0, h1, k⟩ := h
    have hu := hu_of hr
    refine ⟨_, (pss_one (ps_ret (pe_ix (r := rIxL K) ix_list (pv 1) (pe_c c_law_draw gu (hr.mono (by decide)) (fun σ => passN σ) (pa_cons (pv 0) (pa_cons (pe_callB (r := VB.rLen K) cl_len (by rfl) B.len (by decide +kernel) (pa_cons (pv 1) pa_nil)) pa_nil))) (fun _ _ => rfl)))), ?_⟩
    walk_at "rds"
    refine r_len (.inl (seqL_same hid_sub hS)) ?_
    walk_at "rds"
    refine ⟨d, l, _, rfl, hD, log2_small (by omega), fun r H' a hr0 hr1 => ?_⟩
    have hlt : r.toNat < xs.length := by omega
    have e : ((r.toNat : Nat) : Int) = r := by omega
    have z := atI_nat (List.getElem?_eq_getElem hlt)
    rw [e] at z
    refine r_ixL (seqL_same hid_sub (seqL_same a.st hS)) z ?_
    exact k _ _ a (List.getElem_mem hlt)

theorem ok_law_deck (B : Blt mg) {f : Addr} {fd : FuncData} (F : Fun K "_law_deck" "_law_deck" s_law_deck f fd) : FG P w K mg base 1 f fd ["script"] (spDeck K) := by
  refine okX F sc_law_deck (fun vs H Q E h => ?_) (fun cdv A out s H vs Q E gu hr h => ?_)
  · obtain ⟨a, ns, rfl, _⟩ := h
    rfl
  · obtain ⟨a, ns, rfl, hS, hlen, k⟩ := h
    have hu := hu_of hr
    refine ⟨_, (pss_cons (ps_par (i := 2) (j := 3) (by rfl) sc_law_deck.nd rfl rfl (by decide) rfl rfl (pa_cons (pe_lc (own := [("cell", 1)]) (g := (gName 1)) (tt := tYes) rfl sc_law_deck.nd (pi_list (pe_slice sl_list (pv 0) po_none (po_some pe_int))) (blkOk_by (own := [("cell", 1)]) (N := ["script", "cell", "cells", "stirred"]) (sc := defScope s_law_deck) (by decide +kernel)) (fun _ _ _ _ _ => (pg_name (i := 1) sc_law_deck.nd rfl (.inl rfl))) (fun _ _ _ _ _ => pts_nil) (fun _ _ _ _ _ => (pe_op op_add (pe_op op_ml pe_int (pe_callB cl_abs (by rfl) B.abs (by decide +kernel) (pa_cons (pv 1) pa_nil))) (pe_callTy (T := "int") cl_int (by rfl) B.int (by decide +kernel) (pa_cons (pe_cmpR op_lt (pv 1) pe_int (nomark _)) pa_nil))))) (pa_cons (pe_op op_add pe_int (pe_callB (r := VB.rLen K) cl_len (by rfl) B.len (by decide +kernel) (pa_cons (pv 0) pa_nil))) pa_nil)) (by rfl))
      (pss_cons (ps_for (passes_of rfl) rfl (pi_list (pv 2)) (pg_name (i := 1) sc_law_deck.nd rfl (.inl rfl))
        (pss_one (ps_set (i := 3) sc_law_deck.nd rfl (.inl rfl) (pe_op op_mod (pe_callTy (T := "int") cl_int (by rfl) B.int (by decide +kernel) (pa_cons (pe_op op_add (pe_op op_add (pe_op op_ml (pv 3) pe_int) (pv 1)) pe_int) pa_nil)) pe_int))))
      (pss_one (ps_ret (pe_disp (pps_cons pe_str (pe_lc (own := [("cell", 1)]) (g := (gName 1)) rfl sc_law_deck.nd (pi_list (pv 2)) (blkOk_by (own := [("cell", 1)]) (N := ["script", "cell", "cells", "stirred"]) (sc := defScope s_law_deck) (by decide +kernel)) (fun _ _ _ _ _ => (pg_name (i := 1) sc_law_deck.nd rfl (.inl rfl))) (fun _ _ _ _ _ => (pts_one (pt_cmpR op_ge (pv 1) (pe_op op_pow pe_int pe_int) (nomark _)))) (fun _ _ _ _ _ => (pv 1))) (pps_cons pe_str (pv 3) (pps_cons pe_str pe_int pps_nil))) (by rfl) (by rfl) (fun z => by cases z) (by decide)))))), ?_⟩
    walk_at "rds"
    refine r_slL hS fun b hb => ?_
    have s1 : Same H (upd H b (.lst (cutV (ns.map V.int) none (some 60)))) := same_new hb
    obtain ⟨ms, em, lm⟩ := cut_ints ns 60
    have em : cutV (ns.map V.int) none (some 60) = ms.map V.int := em
    rw [em] at s1 ⊢
    refine r_lk (SqL.of upd_same) (r_lcM (fun v => match v with | .int i => .int (2 * (if i < 0 then -i else i) + (if decide (i < 0) = true then 1 else 0)) | v => v) (SqL.of upd_same) (by rw [List.length_map]; omega) (fun x hx H' S h => ?_) fun c hc => ?_)
    · obtain ⟨i, _, rfl⟩ := List.mem_map.mp hx
      walk_at "rds"
      refine r_I (mul_small (by decide) (by decide)) ?_
      walk_at "rds"
      exact h
    · rw [List.map_map]
      have fe : ((fun v => match v with | .int i => .int (2 * (if i < 0 then -i else i) + (if decide (i < 0) = true then 1 else 0)) | v => v) ∘ V.int : Int → V) = V.int ∘ cellV := rfl
      rw [fe, ← List.map_map]
      have s2 : Same H (upd (upd H b (.lst (ms.map V.int))) c (.lst ((ms.map cellV).map V.int))) := s1.trans (same_new hc)
      walk_at "rds"
      refine r_len (.inl (seqL_same s2 hS)) ?_
      walk_at "rds"
      generalize hH : upd (upd H b (.lst (ms.map V.int))) c (.lst ((ms.map cellV).map V.int)) = H1 at *
      have hC : H1 c = some (.lst ((ms.map cellV).map V.int)) := by rw [← hH]; exact upd_same
      refine r_lk (SqL.of hC) (r_forL (xs := (ms.map cellV).map V.int) (fun i σ H' => ∃ (y : Option V) (st : Int), σ = [some (.ref a), y, some (.ref c), some (.int st)] ∧ 0 ≤ st ∧ H' = H1) ⟨none, _, rfl, by omega, rfl⟩ (fun i σ H' _ h => ?_) (fun i x σ H' hx h => ?_) fun σ H' h => ?_)
      · obtain ⟨_, _, _, _, rfl⟩ := h
        exact SqL.of hC
      · obtain ⟨y, st, rfl, h0, rfl⟩ := h
        obtain ⟨z, _, rfl⟩ := List.mem_map.mp (List.mem_of_getElem? hx)
        walk_at "rds"
        refine r_I (mul_smallR (by decide) (by decide)) ?_
        walk_at "rds"
        refine r_I (by decide) ?_
        walk_at "rds"
        exact ⟨_, _, rfl, Int.emod_nonneg _ (by decide), rfl⟩
      · obtain ⟨y, st, rfl, h0, rfl⟩ := h
        walk_at "rds"
        refine r_disp fun p hp => ?_
        walk_at "rds"
        have hCp : upd H' p (.dK []) c = some (.lst ((ms.map cellV).map V.int)) := by rw [upd_ne (ne_of_none hC hp)]; exact hC
        refine r_lk (SqL.of hCp) (r_lcFM (fun v => match v with | .int i => decide (10 ^ 16 ≤ i) | _ => false) (fun v => v) (SqL.of hCp) (by simp; omega) (fun x hx H' S h => ?_) (fun x hx _ H' S h => ?_) fun l hl => ?_)
        · obtain ⟨i, _, rfl⟩ := List.mem_map.mp hx
          walk_at "rds"
          refine r_I ⟨by decide, by decide, by decide⟩ ?_
          walk_at "rds"
          exact h
        · obtain ⟨i, _, rfl⟩ := List.mem_map.mp hx
          walk_at "rds"
          exact h
        · have e1 : List.map (fun v => v) (List.filter (fun v : V => match v with | .int i => decide (10 ^ 16 ≤ i) | _ => false) (List.map V.int (List.map cellV ms))) = List.map V.int (List.filter (fun i => decide (10 ^ 16 ≤ i)) (ms.map cellV)) := by
            rw [List.map_id', List.filter_map]; rfl
          rw [e1]
          walk_at "rds"
          have npl : p ≠ l := ne_of_none upd_same hl
          refine r_dispk [(kG, .ref l), (kS, .int st), (kT, .int 0)] (by rw [upd_ne npl]; exact upd_same) (by simp) ?_
          have hp0 : H p = none := s2.free hp
          have hl0 : H l = none := s2.free ((same_new hp).free hl)
          refine k p l _ hp0 hl0 ?_ ⟨⟨_, st, 0, upd_same, ?_, ?_, ?_, ?_, h0⟩, ⟨_, by rw [upd_ne npl.symm]; exact upd_same, ?_, ?_⟩⟩
          · intro x o hx
            rw [upd_ne (ne_of_none hx hp0), upd_ne (ne_of_none hx hl0), upd_ne (ne_of_none hx hp0)]
            exact s2 x o hx
          · exact Nat.le_trans (length_mergeK _ _) (by simp)
          · show valV (putK (putK (putK [] kG (V.ref l)) kS (V.int st)) kT (V.int 0)) kG = _
            rw [valV_put, if_neg kGT, valV_put, if_neg kGS, valV_put, if_pos rfl]
          · show valV (putK (putK (putK [] kG (V.ref l)) kS (V.int st)) kT (V.int 0)) kS = _
            rw [valV_put, if_neg kST, valV_put, if_pos rfl]
          · show valV (putK (putK (putK [] kG (V.ref l)) kS (V.int st)) kT (V.int 0)) kT = _
            rw [valV_put, if_pos rfl]
          · intro n hn
            have := (List.mem_filter.mp hn).2
            have h2 : (10 ^ 16 : Int) ≤ n := of_decide_eq_true this
            omega
          · refine Nat.le_trans (List.length_filter_le _ _) ?_
            rw [List.length_map]
            omega
theorem ok_law_gcd (B : Blt mg) {f : Addr} {fd : FuncData} (F : Fun K "_law_gcd" "_law_gcd" s_law_gcd f fd) : FG P w K mg base 1 f fd ["a", "b"] spGcd := by
  refine okX F sc_law_gcd (fun vs H Q E h => ?_) (fun cdv A out s H vs Q E gu hr h => ?_)
  · obtain ⟨a, b, rfl, _⟩ := h
    rfl
  · obtain ⟨a, b, rfl, k⟩ := h
    refine ⟨_, (pss_cons (ps_par (i := 0) (j := 1) (by rfl) sc_law_gcd.nd rfl rfl (by decide) rfl rfl (pa_cons (pe_callB cl_abs (by rfl) B.abs (by decide +kernel) (pa_cons (pv 0) pa_nil)) (pa_cons (pe_callB cl_abs (by rfl) B.abs (by decide +kernel) (pa_cons (pv 1) pa_nil)) pa_nil)) (by rfl))
      (pss_cons (ps_while (passes_of rfl) (pt_cmpR op_ne (pv 1) pe_int (nomark _)) (pss_one (ps_par (i := 0) (j := 1) (by rfl) sc_law_gcd.nd rfl rfl (by decide) rfl rfl (pa_cons (pv 1) (pa_cons (pe_op op_modN (pe_callTy (T := "int") cl_int (by rfl) B.int (by decide +kernel) (pa_cons (pv 0) pa_nil)) (pv 1)) pa_nil)) (by rfl))))
      (pss_one (ps_ret (pv 0))))), ?_⟩
    walk_at "rds"
    refine while_by (fun σ H' => ∃ x y : Int, σ = [some (.int x), some (.int y)] ∧ 0 ≤ x ∧ 0 ≤ y ∧ Nat.gcd x.natAbs y.natAbs = Nat.gcd a.natAbs b.natAbs ∧ H' = H) (fun σ _ => match σ with | [_, some (.int y)] => y.natAbs | _ => 0) ⟨_, _, rfl, by split <;> omega, by split <;> omega, ?_, rfl⟩ (fun σ H' h => ?_) (fun σ H' R R' m h => ?_)
    · have e1 : (if a < 0 then -a else a).natAbs = a.natAbs := by split <;> omega
      have e2 : (if b < 0 then -b else b).natAbs = b.natAbs := by split <;> omega
      rw [e1, e2]
    · obtain ⟨x, y, rfl, hx, hy, hg, rfl⟩ := h
      walk_at "rds"
      refine ite2 (fun c => ?_) (fun c => ?_)
      · have y0 : y ≠ 0 := fun z => by subst z; exact absurd c (by decide)
        walk_at "rds"
        refine r_I y0 ?_
        walk_at "rds"
        have hm : x.fmod y = x % y := Int.fmod_eq_emod_of_nonneg x hy
        refine ⟨⟨y, x.fmod y, rfl, hy, by rw [hm]; exact Int.emod_nonneg x y0, ?_, rfl⟩, ?_⟩
        · rw [← hg, hm, Int.natAbs_emod_of_nonneg hx, Nat.gcd_comm x.natAbs, Nat.gcd_rec y.natAbs x.natAbs, Nat.gcd_comm]
        · show (x.fmod y).natAbs < y.natAbs
          rw [hm]
          have := Int.emod_nonneg x y0
          have := Int.emod_lt_of_pos x (show 0 < y by omega)
          omega
      · have y0 : y = 0 := by
          refine Classical.byContradiction fun z => c ?_
          rw [decide_eq_false (fun e => z (V.int.inj e))]
          rfl
        subst y0
        walk_at "rds"
        have e : x = gcdI a b := by
          show x = ((Nat.gcd a.natAbs b.natAbs : Nat) : Int)
          rw [← hg, Int.natAbs_zero, Nat.gcd_zero_right]
          omega
        rw [e]
        exact k
    · obtain ⟨v, h1, h2, kk, h3, h4⟩ := h
      exact ⟨v, h1, h2, kk, h3, m _ _ h4⟩
theorem ok_law_low (B : Blt mg) {f : Addr} {fd : FuncData} (F : Fun K "_law_low" "_law_low" s_law_low f fd) (c_law_gcd : FnAt P w K mg base s_law_gcd 1 "_law_gcd" ["a", "b"] spGcd) : FG P w K mg base 2 f fd ["a", "b"] spLow := by
  refine okX F sc_law_low (fun vs H Q E h => ?_) (fun cdv A out s H vs Q E gu hr h => ?_)
  · obtain ⟨a, b, rfl, _⟩ := h
    rfl
  · obtain ⟨a, b, rfl, hb, hz, k⟩ := h
    refine ⟨_, (pss_cons (ps_set (i := 2) sc_law_low.nd rfl (.inl rfl) (pe_c c_law_gcd gu (hr.mono (by decide)) (fun σ => passN σ) (pa_cons (pv 0) (pa_cons (pv 1) pa_nil))))
      (pss_cons (ps_set (i := 2) sc_law_low.nd rfl (.inl rfl) (pe_ifExp (pt_cmpR op_lt (pv 1) pe_int (nomark _)) (pe_un un_neg (pv 2)) (pv 2)))
      (pss_one (ps_ret (pe_tup (pa_cons (pe_op op_dv (pv 0) (pv 2)) (pa_cons (pe_op op_dv (pv 1) (pv 2)) pa_nil))))))), ?_⟩
    walk_at "rds"
    refine ⟨a, b, rfl, ?_⟩
    have cl : (comI a b).natAbs.log2 < 9000 := Bd.log (k := 8000) (hz.of_le (comI_le hb)) (by decide) (by decide)
    walk_at "rds"
    refine r_ife (fun c => ?_) (fun c => ?_)
    all_goals
      walk_at "rds"
      have e : comI a b = _ := (show comI a b = if b < 0 then -gcdI a b else gcdI a b from rfl)
      first | rw [if_pos (of_decide_eq_true c)] at e | rw [if_neg (of_decide_eq_false c)] at e
      rw [← e]
      refine r_I ⟨comI_ne hb, cl⟩ ?_
      walk_at "rds"
      refine r_I ⟨comI_ne hb, cl⟩ ?_
      walk_at "rds"
      refine r_newT (by simp) fun p hp => ?_
      exact k p hp
theorem ok_law_great (B : Blt mg) {f : Addr} {fd : FuncData} (F : Fun K "_law_great" "_law_great" s_law_great f fd) (c_law_draw : FnAt P w K mg base s_law_draw 1 "_law_draw" ["deck", "many"] spDraw) : FG P w K mg base 2 f fd ["deck", "figures"] spGreat := by
  refine okX F sc_law_great (fun vs H Q E h => ?_) (fun cdv A out s H vs Q E gu hr h => ?_)
  · obtain ⟨d, l, n, rfl, _⟩ := h
    rfl
  · obtain ⟨d, l, n, rfl, hD, hn1, hn2, k⟩ := h
    refine ⟨_, (pss_cons (ps_set (i := 2) sc_law_great.nd rfl (.inl rfl) (pe_op op_add pe_int (pe_c c_law_draw gu (hr.mono (by decide)) (fun σ => passN σ) (pa_cons (pv 0) (pa_cons pe_int pa_nil)))))
      (pss_cons (ps_for (passes_of rfl) rfl (pi_range1 rfl B.range (pa_cons (pe_op op_fdiv (pe_callTy (T := "int") cl_int (by rfl) B.int (by decide +kernel) (pa_cons (pe_op op_sub (pv 1) pe_int) pa_nil)) pe_int) pa_nil)) (pg_name (i := 3) sc_law_great.nd rfl (.inl rfl))
        (pss_one (ps_set (i := 2) sc_law_great.nd rfl (.inl rfl) (pe_op op_add (pe_op op_ml (pv 2) (pe_op op_pow pe_int pe_int)) (pe_c c_law_draw gu (hr.mono (by decide)) (fun σ => passN σ) (pa_cons (pv 0) (pa_cons (pe_op op_pow pe_int pe_int) pa_nil)))))))
      (pss_cons (ps_for (passes_of rfl) rfl (pi_range1 rfl B.range (pa_cons (pe_op op_mod (pe_callTy (T := "int") cl_int (by rfl) B.int (by decide +kernel) (pa_cons (pe_op op_sub (pv 1) pe_int) pa_nil)) pe_int) pa_nil)) (pg_name (i := 3) sc_law_great.nd rfl (.inl rfl))
        (pss_one (ps_set (i := 2) sc_law_great.nd rfl (.inl rfl) (pe_op op_add (pe_op op_ml (pv 2) pe_int) (pe_c c_law_draw gu (hr.mono (by decide)) (fun σ => passN σ) (pa_cons (pv 0) (pa_cons pe_int pa_nil)))))))
      (pss_one (ps_ret (pv 2)))))), ?_⟩
    walk_at "rds"
    have e7 : (10 : Int) ^ (7 : Int).toNat = 10000000 := by decide
    refine ⟨d, l, 9, rfl, hD, by decide, fun r H1 a1 r0 r1 => ?_⟩
    walk_at "rds"
    refine r_I ⟨by decide, by decide⟩ ?_
    walk_at "rds"
    refine r_rk (by omega) (by omega) (r_forR (fun i σ H' => ∃ (x : Int) (y : Option V), σ = [some (.ref d), some (.int n), some (.int x), y] ∧ Adv d l H H' ∧ 0 < x ∧ x < 10 ^ (1 + 7 * i)) ⟨_, _, rfl, a1, by omega, ?_⟩ (fun i σ H' hi h => ?_) fun σ H' h => ?_)
    · show (1 + r : Int) < 10 ^ (1 + 7 * 0)
      rcases r1 with h | h
      · show (1 + r : Int) < 10
        omega
      · show (1 + r : Int) < 10
        omega
    · obtain ⟨x, y, rfl, a, x0, x1⟩ := h
      walk_at "rds"
      refine r_I ⟨by decide, by decide, by decide⟩ ?_
      walk_at "rds"
      rw [e7]
      refine r_I (mul_smallR (by decide) (by decide)) ?_
      walk_at "rds"
      refine r_I ⟨by decide, by decide, by decide⟩ ?_
      walk_at "rds"
      rw [e7]
      refine ⟨d, l, _, rfl, a.ok, by decide, fun r2 H2 a2 s0 s1 => ?_⟩
      walk_at "rds"
      refine ⟨_, _, rfl, a.trans a2, by omega, ?_⟩
      have e : (10 : Int) ^ (1 + 7 * (i + 1)) = 10 ^ (1 + 7 * i) * 10000000 := by
        rw [show 1 + 7 * (i + 1) = (1 + 7 * i) + 7 by omega, Int.pow_add]
        rfl
      rw [e]
      generalize (10 : Int) ^ (1 + 7 * i) = p at x1 ⊢
      omega
    · obtain ⟨x, y, rfl, a, x0, x1⟩ := h
      walk_at "rds"
      refine r_I (by decide) ?_
      walk_at "rds"
      refine r_rk (by omega) (by omega) (r_forR (fun i σ H' => ∃ (x : Int) (y : Option V), σ = [some (.ref d), some (.int n), some (.int x), y] ∧ Adv d l H H' ∧ 0 < x ∧ x < 10 ^ (1 + 7 * ((n - 1) / 7).toNat + i)) ⟨_, _, rfl, a, x0, x1⟩ (fun i σ H' hi h => ?_) fun σ H' h => ?_)
      · obtain ⟨x, y, rfl, a, x0, x1⟩ := h
        walk_at "rds"
        refine r_I (mul_smallR (by decide) (by decide)) ?_
        walk_at "rds"
        refine ⟨d, l, _, rfl, a.ok, by decide, fun r2 H2 a2 s0 s1 => ?_⟩
        walk_at "rds"
        refine ⟨_, _, rfl, a.trans a2, by omega, ?_⟩
        rw [← Nat.add_assoc, Int.pow_succ]
        generalize (10 : Int) ^ (1 + 7 * ((n - 1) / 7).toNat + i) = p at x1 ⊢
        omega
      · obtain ⟨x, y, rfl, a, x0, x1⟩ := h
        walk_at "rds"
        refine k _ _ a x0 ?_
        have e : 1 + 7 * ((n - 1) / 7).toNat + ((n - 1) % 7).toNat = n.toNat := by omega
        rw [e] at x1
        exact x1
theorem ok_lowest (M_gcd : mg "gcd" = some (.builtin "math.gcd")) {CU : Addr} (e_Unfit : ErrC K mg "Unfit" CU) {f : Addr} {fd : FuncData} (F : Fun K "lowest" "lowest" s_lowest f fd) : FG P w K mg base 1 f fd ["a", "b"] (spLowest CU) := by
  refine okX F sc_lowest (fun vs H Q E h => ?_) (fun cdv A out s H vs Q E gu hr h => ?_)
  · obtain ⟨a, b, rfl, _⟩ := h
    rfl
  · obtain ⟨a, b, rfl, hz, kE, k⟩ := h
    refine ⟨_, (pss_cons (ps_if (pt_cmpR op_eq (pv 1) pe_int (nomark _)) (pss_one (ps_raise rfl (takes_of rfl rfl rfl rfl) (pmk_own0 PySem.F.excBase_ValueError e_Unfit.ex e_Unfit.gl e_Unfit.kp (raises_own e_Unfit.sb e_Unfit.ty)))) pss_nil)
      (pss_cons (ps_set (i := 2) sc_lowest.nd rfl (.inl rfl) (pe_callBfun cr_gcd rfl M_gcd (pa_cons (pv 0) (pa_cons (pv 1) pa_nil))))
      (pss_cons (ps_if (pt_cmpR op_lt (pv 1) pe_int (nomark _)) (pss_one (ps_set (i := 2) sc_lowest.nd rfl (.inl rfl) (pe_un un_neg (pv 2)))) pss_nil)
      (pss_one (ps_ret (pe_tup (pa_cons (pe_op op_dv (pv 0) (pv 2)) (pa_cons (pe_op op_dv (pv 1) (pv 2)) pa_nil)))))))), ?_⟩
    walk_at "rds"
    refine r_ifs (fun c => ?_) (fun c => ?_)
    · exact kE (V.int.inj (of_decide_eq_true c))
    · have hb : b ≠ 0 := fun z => absurd (congrArg V.int z) (of_decide_eq_false c)
      have cl : (comI a b).natAbs.log2 < 9000 := Bd.log (k := 8000) (hz.of_le (comI_le hb)) (by decide) (by decide)
      walk_at "rds"
      refine ⟨a, b, rfl, ?_⟩
      walk_at "rds"
      refine r_ifs (fun c => ?_) (fun c => ?_)
      all_goals
        walk_at "rds"
        have e : comI a b = _ := (show comI a b = if b < 0 then -gcdI a b else gcdI a b from rfl)
        first | rw [if_pos (of_decide_eq_true c)] at e | rw [if_neg (of_decide_eq_false c)] at e
        unfold gcdI at e
        rw [← e]
        refine r_I ⟨comI_ne hb, cl⟩ ?_
        walk_at "rds"
        refine r_I ⟨comI_ne hb, cl⟩ ?_
        walk_at "rds"
        refine r_newT (by simp) fun p hp => ?_
        exact k hb p hp
theorem ok_law_shuffled (B : Blt mg) {f : Addr} {fd : FuncData} (F : Fun K "_law_shuffled" "_law_shuffled" s_law_shuffled f fd) (c_law_draw : FnAt P w K mg base s_law_draw 1 "_law_draw" ["deck", "many"] spDraw) :
    FG P w K mg base 2 f fd ["deck", "items"] (spShuf K) := by
  refine okX F sc_law_shuffled (fun vs H Q E h => ?_) (fun cdv A out s H vs Q E gu hr h => ?_)
  · obtain ⟨m, d, l, q, xs, rfl, _⟩ := h
    rfl
  · obtain ⟨m, d, l, q, xs, rfl, hdk, hok, hS, hn, k⟩ := h
    have hu := hu_of hr
    refine ⟨_, (pss_cons (ps_par (i := 2) (j := 3) (by rfl) sc_law_shuffled.nd rfl rfl (by decide) rfl rfl (pa_cons (pe_callTy (T := "list") (r := rListOf K) cl_listOf (by rfl) B.list (by decide +kernel) (pa_cons (pv 1) pa_nil)) (pa_cons (pe_lst pa_nil) pa_nil)) (by rfl))
      (pss_cons (ps_for (passes_of rfl) rfl (pi_range1 rfl B.range (pa_cons (pe_callB (r := VB.rLen K) cl_len (by rfl) B.len (by decide +kernel) (pa_cons (pv 1) pa_nil)) pa_nil)) (pg_name (i := 4) sc_law_shuffled.nd rfl (.inl rfl))
        (pss_one (ps_expr (pe_bm PySem.F.plainAttrs_list PySem.F.slot_list_append PySem.F.type_list_append mt_append (pv 3) (pa_cons (pe_bm PySem.F.plainAttrs_list PySem.F.slot_list_pop PySem.F.type_list_pop mt_popAt (pv 2) (pa_cons (pe_c c_law_draw gu (hr.mono (by decide)) (fun σ => passN σ) (pa_cons (pv 0) (pa_cons (pe_callB (r := VB.rLen K) cl_len (by rfl) B.len (by decide +kernel) (pa_cons (pv 2) pa_nil)) pa_nil))) pa_nil)) pa_nil)))))
      (pss_one (ps_ret (pv 3))))), ?_⟩
    walk_at "rds"
    refine ⟨q, xs, rfl, .inl (seqL_same vw_sub hS), fun L hL => ?_⟩
    walk_at "rds"
    refine r_newL (by simp) fun T hT => ?_
    have hT0 : H T = none := (same_new hL).free hT
    have hLT : L ≠ T := ne_of_none upd_same hT
    have g0 : Go m H (upd (upd H L (.lst xs)) T (.lst [])) := .same hok ((same_new hL).trans (same_new hT))
    walk_at "rds"
    refine r_len (.inl (seqL_same (g0.vw.trans vw_sub) hS)) ?_
    refine r_rk (by omega) (by omega) ?_
    refine r_forR (fun i σ H' => ∃ (y : Option V) (ls fs : List V), σ = [some (.ref d), some (.ref q), some (.ref L), some (.ref T), y] ∧ Go m H H' ∧ H' L = some (.lst ls) ∧ H' T = some (.lst fs) ∧ (fs ++ ls).Perm xs ∧ fs.length = i)
      ⟨none, xs, [], rfl, g0, by rw [upd_ne hLT]; exact upd_same, upd_same, List.Perm.refl _, rfl⟩ (fun i σ H' hi h => ?_) (fun σ H' h => ?_)
    · obtain ⟨y, ls, fs, rfl, g, eL, eT, pm, lf⟩ := h
      have hi' : i < xs.length := by simpa using hi
      have ll : fs.length + ls.length = xs.length := by rw [← List.length_append]; exact pm.length_eq
      walk_at "rds"
      refine r_tyL eT ?_
      walk_at "rds"
      refine r_tyL eL ?_
      walk_at "rds"
      refine r_len (.inl (SqL.of eL)) ?_
      refine ⟨d, l, _, rfl, g.ok.dk d l hdk, log2_small (by omega), fun r H2 a r0 r1 => ?_⟩
      have g2 := Go.adv hdk g.ok a
      have eL2 := g2.at (hok.off hL) eL
      have eT2 := g2.at (hok.off hT0) eT
      have hr' : r = ((r.toNat : Nat) : Int) := by omega
      have hlt : r.toNat < ls.length := by omega
      rw [hr']
      walk_at "rds"
      refine r_popAt eL2 hlt (by omega) ?_
      walk_at "rds"
      refine r_app (xs := fs) (by rw [upd_ne hLT.symm]; exact eT2) (by omega) ?_
      walk_at "rds"
      refine ⟨_, ls.eraseIdx r.toNat, fs ++ [ls[r.toNat]], rfl, ((g.trans g2).mut hok hL).mut hok hT0, by rw [upd_ne hLT]; exact upd_same, upd_same, ?_, by simp [lf]⟩
      refine List.Perm.trans ?_ pm
      rw [List.append_assoc]
      exact List.Perm.append_left fs (erase_perm hlt)
    · obtain ⟨y, ls, fs, rfl, g, eL, eT, pm, lf⟩ := h
      have ll : fs.length + ls.length = xs.length := by rw [← List.length_append]; exact pm.length_eq
      have : ls = [] := List.length_eq_zero_iff.mp (by simp at lf; omega)
      subst this
      rw [List.append_nil] at pm
      walk_at "rds"
      refine k T H' fs g ?_ pm
      rw [vw_get (hok.nex hT0) (hok.off hT0)]
      exact eT
theorem ok_law_line (B : Blt mg) {f : Addr} {fd : FuncData} (F : Fun K "_law_line" "_law_line" s_law_line f fd) (c_law_draw : FnAt P w K mg base s_law_draw 1 "_law_draw" ["deck", "many"] spDraw)
    (c_law_pick : FnAt P w K mg base s_law_pick 2 "_law_pick" ["deck", "items"] (spPick K)) : FG P w K mg base 3 f fd ["deck", "many"] (spLine K) := by
  refine okX F sc_law_line (fun vs H Q E h => ?_) (fun cdv A out s H vs Q E gu hr h => ?_)
  · obtain ⟨m, d, l, n, rfl, _⟩ := h
    rfl
  · obtain ⟨m, d, l, n, rfl, hdk, hok, n1, n6, k⟩ := h
    have hu := hu_of hr
    refine ⟨_, (pss_cons (ps_setLc (i := 2) (own := [("turn", 3)]) (g := (gName 3)) (tt := tYes) rfl sc_law_line.nd rfl rfl (sw_true rfl rfl rfl (by decide +kernel)) (pi_range1 rfl B.range (pa_cons (pv 1) pa_nil)) (blkOk_by (own := [("turn", 3)]) (N := ["deck", "many", "line", "turn"]) (sc := defScope s_law_line) (by decide +kernel)) (fun _ _ _ _ _ => (pg_name (i := 3) sc_law_line.nd rfl (.inl rfl))) (fun _ _ _ _ _ => pts_nil) (fun _ _ _ _ _ => (pe_c c_law_pick gu (hr.mono (by decide)) (fun σ => passN σ) (pa_cons (pv 0) (pa_cons (pe_lst (pa_cons pe_int (pa_cons pe_int (pa_cons pe_int (pa_cons pe_int (pa_cons pe_int (pa_cons pe_int (pa_cons pe_int (pa_cons (pe_c c_law_draw gu (hr.mono (by decide)) (fun σ => passN σ) (pa_cons (pv 0) (pa_cons pe_int pa_nil))) pa_nil))))))))) pa_nil)))))
      (pss_cons (ps_if (pt_cmpR op_eq (pe_callB (r := rSumT K) (cr_sumT rfl) (by rfl) B.sum (by decide +kernel) (pa_cons (pv 2) pa_nil)) pe_int (nomark _)) (pss_one (ps_asg (pe_op op_add pe_int (pe_c c_law_draw gu (hr.mono (by decide)) (fun σ => passN σ) (pa_cons (pv 0) (pa_cons pe_int pa_nil)))) (pg_sub (pv 2) (pe_c c_law_draw gu (hr.mono (by decide)) (fun σ => passN σ) (pa_cons (pv 0) (pa_cons (pv 1) pa_nil))) set_list))) pss_nil)
      (pss_one (ps_ret (pe_callTy (T := "tuple") (r := rTupOf K) cl_tupOf (by rfl) B.tuple (by decide +kernel) (pa_cons (pv 2) pa_nil)))))), ?_⟩
    walk_at "rds"
    refine r_rk (by omega) (by omega) ?_
    refine r_lcVR (K := K) m hok (by omega) (fun _ x => ∃ z : Int, x = .int z ∧ 0 ≤ z ∧ z < 6) (fun E i H' S hi g okE old kk => ?_) (fun E H' acc xs g hE hE' da hlen hR => ?_)
    · walk_at "rds"
      refine ⟨d, l, _, rfl, g.ok.dk d l hdk, by decide, fun r H2 a r0 r1 => ?_⟩
      walk_at "rds"
      refine r_newL (by simp) fun p hp => ?_
      have g2 := Go.adv (m := m.add E) hdk okE a
      have ne := (g2.ok.dk d l hdk).ne hp
      walk_at "rds"
      refine ⟨d, l, p, _, rfl, (g2.ok.dk d l hdk).up (same_new hp), SqL.of (by rw [hid_get ne.1 ne.2]; exact upd_same), by simp, by simp, fun v H3 a3 hv => ?_⟩
      have g3 := Go.adv (m := m.add E) hdk (g2.ok.up (same_new hp)) a3
      have hv' : ∃ z : Int, v = .int z ∧ 0 ≤ z ∧ z < 6 := by
        simp only [List.mem_cons, List.mem_nil_iff, or_false] at hv
        rcases hv with rfl | rfl | rfl | rfl | rfl | rfl | rfl | rfl
        all_goals first | exact ⟨_, rfl, by decide, by decide⟩ | exact ⟨_, rfl, by omega, by omega⟩
      obtain ⟨z, rfl, z0, z1⟩ := hv'
      exact kk _ _ (.int z) ((g2.trans (.new g2.ok hp)).trans g3) (.int z) ⟨z, rfl, z0, z1⟩
    · obtain ⟨ns, rfl, hz⟩ : ∃ ns : List Int, xs = ns.map PyData.int ∧ ∀ z ∈ ns, 0 ≤ z ∧ z < 6 := ints_of xs fun x hx => by
        obtain ⟨i, hi⟩ := List.getElem?_of_mem hx
        exact hR i x hi
      rw [dpa_ints_inv da] at hE'
      have lenns : ns.length = n := by rw [List.length_map] at hlen; omega
      walk_at "rds"
      refine r_sumT (.inl (SqL.of hE')) ?_
      walk_at "rds"
      refine r_ifs (fun c => ?_) (fun c => ?_)
      · walk_at "rds"
        refine ⟨d, l, _, rfl, g.ok.dk d l hdk, by decide, fun r H2 a r0 r1 => ?_⟩
        have g2 := Go.adv hdk g.ok a
        walk_at "rds"
        refine ⟨d, l, _, rfl, g2.ok.dk d l hdk, log2_small (by omega), fun r2 H3 a3 r20 r21 => ?_⟩
        have g3 := Go.adv hdk g2.ok a3
        have e3 := g3.at (hok.off hE) (g2.at (hok.off hE) hE')
        have hr2 : r2 = ((r2.toNat : Nat) : Int) := by omega
        rw [hr2]
        walk_at "rds"
        refine r_setL e3 (by rw [List.length_map]; omega) ?_
        have e4 : upd H3 E (.lst ((ns.map V.int).set r2.toNat (.int (1 + r)))) E = some (.lst ((ns.set r2.toNat (1 + r)).map V.int)) := by
          rw [upd_same, List.map_set]
        have g4 : Go m H (upd H3 E (.lst ((ns.map V.int).set r2.toNat (.int (1 + r))))) := ((g.trans g2).trans g3).mut hok hE
        walk_at "rds"
        refine ⟨E, _, rfl, .inl ⟨SqL.of e4, fun p hp => ?_⟩⟩
        have z0 : ∀ z ∈ ns.set r2.toNat (1 + r), 0 ≤ z ∧ z < 7 := fun z hz' => by
          rcases List.mem_or_eq_of_mem_set hz' with h | h
          · have := hz z h; omega
          · omega
        refine k _ _ (ns.set r2.toNat (1 + r)) (g4.trans (.new g4.ok hp)) (line_dp (SqT.of (vw_new g4.ok hp))) ⟨by rw [List.length_set]; exact lenns, fun z hz' => ⟨(z0 z hz').1, bd_small32 (z0 z hz').1 (by have := (z0 z hz').2; omega)⟩, ?_⟩
        refine sum_pos (fun z hz' => (z0 z hz').1) (x := 1 + r) (List.mem_iff_getElem?.mpr ⟨r2.toNat, ?_⟩) (by omega)
        rw [List.getElem?_set_self (by omega)]
      · walk_at "rds"
        refine ⟨E, _, rfl, .inl ⟨SqL.of hE', fun p hp => ?_⟩⟩
        refine k _ _ ns (g.trans (.new g.ok hp)) (line_dp (SqT.of (vw_new g.ok hp))) ⟨lenns, fun z hz' => ⟨(hz z hz').1, bd_small32 (hz z hz').1 (by have := (hz z hz').2; omega)⟩, ?_⟩
        have := of_decide_eq_false c
        have nn : 0 ≤ ns.sum := sum_nn fun z hz' => (hz z hz').1
        have : ns.sum ≠ 0 := fun e => this (by rw [e])
        omega
theorem ok_law_chain (B : Blt mg) {f : Addr} {fd : FuncData} (F : Fun K "_law_chain" "_law_chain" s_law_chain f fd) (c_law_draw : FnAt P w K mg base s_law_draw 1 "_law_draw" ["deck", "many"] spDraw)
    (c_law_shuffled : FnAt P w K mg base s_law_shuffled 2 "_law_shuffled" ["deck", "items"] (spShuf K)) (c_law_line : FnAt P w K mg base s_law_line 3 "_law_line" ["deck", "many"] (spLine K)) :
    FG P w K mg base 4 f fd ["deck", "states", "signs"] (spChain K) := by
  refine okX F sc_law_chain (fun vs H Q E h => ?_) (fun cdv A out s H vs Q E gu hr h => ?_)
  · obtain ⟨m, d, l, n, k, rfl, _⟩ := h
    rfl
  · obtain ⟨m, d, l, n, kk, rfl, hdk, hok, n1, n6, k1, k5, k⟩ := h
    have hu := hu_of hr
    refine ⟨_, (pss_cons (ps_set (i := 3) sc_law_chain.nd rfl (.inl rfl) (pe_join pe_str (pe_callB (r := rSortedS K) cr_sortedS (by rfl) B.sorted (by decide +kernel) (pa_cons (pe_slice sl_list (pe_c c_law_shuffled gu (hr.mono (by decide)) (fun σ => passN σ) (pa_cons (pv 0) (pa_cons (pe_callTy (T := "list") (call_listS rfl) (by rfl) B.list (by decide +kernel) (pa_cons pe_str pa_nil)) pa_nil))) po_none (po_some (pv 2))) pa_nil))))
      (pss_cons (ps_setLc (i := 4) (own := [("state", 6)]) (g := (gName 6)) (tt := tYes) rfl sc_law_chain.nd rfl rfl (sw_true rfl rfl rfl (by decide +kernel)) (pi_range1 rfl B.range (pa_cons (pv 1) pa_nil)) (blkOk_by (own := [("state", 6)]) (N := ["deck", "states", "signs", "letters", "steps", "tells", "state"]) (sc := defScope s_law_chain) (by decide +kernel)) (fun _ _ _ _ _ => (pg_name (i := 6) sc_law_chain.nd rfl (.inl rfl))) (fun _ _ _ _ _ => pts_nil) (fun _ _ _ _ _ => (pe_c c_law_line gu (hr.mono (by decide)) (fun σ => passN σ) (pa_cons (pv 0) (pa_cons (pv 1) pa_nil)))))
      (pss_cons (ps_setLc (i := 5) (own := [("state", 6)]) (g := (gName 6)) (tt := tYes) rfl sc_law_chain.nd rfl rfl (sw_true rfl rfl rfl (by decide +kernel)) (pi_range1 rfl B.range (pa_cons (pv 1) pa_nil)) (blkOk_by (own := [("state", 6)]) (N := ["deck", "states", "signs", "letters", "steps", "tells", "state"]) (sc := defScope s_law_chain) (by decide +kernel)) (fun _ _ _ _ _ => (pg_name (i := 6) sc_law_chain.nd rfl (.inl rfl))) (fun _ _ _ _ _ => pts_nil) (fun _ _ _ _ _ => (pe_c c_law_line gu (hr.mono (by decide)) (fun σ => passN σ) (pa_cons (pv 0) (pa_cons (pv 2) pa_nil)))))
      (pss_cons (ps_if (PW.pt (pw_and (pt_cmpR op_gt (pv 1) pe_int (nomark _)) (pw_and1 (pt_cmpR op_eq (pe_c c_law_draw gu (hr.mono (by decide)) (fun σ => passN σ) (pa_cons (pv 0) (pa_cons pe_int pa_nil))) pe_int (nomark _))))) (pss_cons (ps_asg (pe_ix (r := rIxL K) ix_list (pv 5) pe_int (fun _ _ => rfl)) (pg_sub (pv 5) pe_int set_list))
      (pss_one (ps_asg (pe_ix (r := rIxL K) ix_list (pv 4) (pe_c c_law_draw gu (hr.mono (by decide)) (fun σ => passN σ) (pa_cons (pv 0) (pa_cons pe_int pa_nil))) (fun _ _ => rfl)) (pg_sub (pv 4) pe_int set_list)))) pss_nil)
      (pss_one (ps_ret (pe_tup (pa_cons (pv 3) (pa_cons (pe_c c_law_line gu (hr.mono (by decide)) (fun σ => passN σ) (pa_cons (pv 0) (pa_cons (pv 1) pa_nil))) (pa_cons (pe_callTy (T := "tuple") (r := rTupOf K) cl_tupOf (by rfl) B.tuple (by decide +kernel) (pa_cons (pv 4) pa_nil)) (pa_cons (pe_callTy (T := "tuple") (r := rTupOf K) cl_tupOf (by rfl) B.tuple (by decide +kernel) (pa_cons (pv 5) pa_nil)) pa_nil))))))))))), ?_⟩
    walk_at "rds"
    refine ⟨_, rfl, by decide +kernel, fun p hp => ?_⟩
    have g0 : Go m H (upd H p (.lst (pool.map sgV))) := .new hok hp
    refine ⟨m, d, l, p, pool.map sgV, rfl, hdk, g0.ok, SqL.of (vw_new hok hp), by decide, fun p2 H2 ys g2 e2 pm2 => ?_⟩
    obtain ⟨cs, rfl, pm⟩ := perm_sg pm2
    have ll : cs.length = 9 := pm.length_eq
    walk_at "rds"
    refine r_slL (SqL.of (vw_sub _ _ e2)) fun p3 hp3 => ?_
    rw [cut_take, ← List.map_take]
    have g3 : Go m H2 (upd H2 p3 (.lst ((cs.take kk).map sgV))) := .new g2.ok hp3
    refine ⟨p3, (cs.take kk).map sg1, rfl, SqL.of (by rw [upd_same, List.map_map]; rfl), by rw [List.length_map, List.length_take]; omega, fun ys p4 pm4 so hp4 => ?_⟩
    obtain ⟨es, rfl, pme⟩ := perm_sgS pm4
    have g4 : Go m (upd H2 p3 (.lst ((cs.take kk).map sgV))) (upd (upd H2 p3 (.lst ((cs.take kk).map sgV))) p4 (.lst ((es.map sg1).map V.str))) := .new g3.ok hp4
    have hel : es.length = kk := by rw [pme.length_eq, List.length_take]; omega
    refine ⟨_, p4, es.map sg1, rfl, rfl, .inl (SqL.of upd_same), by rw [join_len, List.length_map, hel]; show kk + kk * 0 ≤ _; omega, ?_⟩
    have hz : Sgs kk (Txt.join (⟨#[]⟩ : Str) (es.map sg1)) := pool_sgs pm (by omega) pme so
    have ez : (Str.ofString "") = (⟨#[]⟩ : Str) := rfl
    rw [ez]
    generalize Txt.join (⟨#[]⟩ : Str) (es.map sg1) = z at hz
    have gA := ((g0.trans g2).trans g3).trans g4
    generalize upd (upd H2 p3 (.lst ((cs.take kk).map sgV))) p4 (.lst ((es.map sg1).map V.str)) = HA at gA
    walk_at "rds"
    refine r_rk (by omega) (by omega) ?_
    refine r_lcVR (K := K) m gA.ok (by omega) (fun _ x => ∃ ns : List Int, x = lnD ns ∧ Lin 32 n ns) (fun E i H' S hi g okE old kq => ?_) (fun E1 HB acc1 xs1 gB hE1 eB1 da1 hlen1 hR1 => ?_)
    · walk_at "rds"
      exact ⟨m.add E, d, l, n, rfl, hdk, okE, n1, n6, fun v H' ns g' dv hl => kq v H' _ g' dv ⟨ns, rfl, hl⟩⟩
    obtain ⟨ls1, rfl, hm1⟩ := mtx_of (r := n) (by omega) hR1
    have ok1 : Ok (m.add E1) HB := gB.ok.add (by rw [eB1]; intro z; cases z)
    walk_at "rds"
    refine r_rk (by omega) (by omega) ?_
    refine r_lcVR (K := K) (m.add E1) ok1 (by omega) (fun _ x => ∃ ns : List Int, x = lnD ns ∧ Lin 32 kk ns) (fun E i H' S hi g okE old kq => ?_) (fun E2 HC acc2 xs2 gC hE2 eC2 da2 hlen2 hR2 => ?_)
    · walk_at "rds"
      exact ⟨(m.add E1).add E, d, l, kk, rfl, hdk, okE, k1, by omega, fun v H' ns g' dv hl => kq v H' _ g' dv ⟨ns, rfl, hl⟩⟩
    obtain ⟨ls2, rfl, hm2⟩ := mtx_of (r := n) (by omega) hR2
    have offE1 : m.off E1 := gA.ok.off hE1
    have offE2 : m.off E2 := gB.ok.off hE2
    have ne12 : E1 ≠ E2 := ne_of_none eB1 hE2
    have eC1 : HC E1 = some (.lst acc1) := gC.at (m := m.add E1) offE1 eB1
    have hA1 : HA E1 = none := hE1
    have hA2 : HA E2 = none := gB.free hE2
    have da1' : DpAll K (vw ((m.add E1).add E2) HC) acc1 (ls1.map lnD) := da1.mv (gC.old hE2)
    have gAC : Go m HA HC := gB.trans gC.sub
    walk_at "rd"
    refine r_fin (fun σ H' => ∃ (y : Option V) (acc1 acc2 : List V) (ls1 ls2 : List (List Int)), σ = [some (.ref d), some (.int (n : Int)), some (.int (kk : Int)), some (.str z), some (.ref E1), some (.ref E2), y] ∧ Go m HA H' ∧ H' E1 = some (.lst acc1) ∧ H' E2 = some (.lst acc2) ∧
      DpAll K (vw ((m.add E1).add E2) H') acc1 (ls1.map lnD) ∧ DpAll K (vw ((m.add E1).add E2) H') acc2 (ls2.map lnD) ∧ Mtx 32 n n ls1 ∧ Mtx 32 n kk ls2) (fun σ H' h => ?_) (fun fin => ?_)
    · obtain ⟨y, acc1, acc2, ls1, ls2, rfl, gD, e1, e2, da1, da2, hm1, hm2⟩ := h
      have okD : Ok ((m.add E1).add E2) H' := (gD.ok.add (by rw [e1]; intro z; cases z)).add (by rw [e2]; intro z; cases z)
      walk_at "rds"
      refine ⟨(m.add E1).add E2, d, l, n, rfl, hdk, okD, n1, n6, fun v HE ns gE dv hl => ?_⟩
      have e1' := gE.at (m := (m.add E1).add E2) offE1 e1
      have e2' := gE.at (m := (m.add E1).add E2) offE2 e2
      have da1 := da1.mv gE.vw
      have da2 := da2.mv gE.vw
      have gD := gD.trans gE.sub.sub
      have okE := gE.ok
      walk_at "rds"
      refine ⟨E1, acc1, rfl, .inl ⟨SqL.of e1', fun q1 hq1 => ?_⟩⟩
      have g1 : Go ((m.add E1).add E2) HE (upd HE q1 (.tup acc1)) := .new okE hq1
      have e2q : upd HE q1 (.tup acc1) E2 = some (.lst acc2) := by rw [upd_ne (ne_of_none e2' hq1)]; exact e2'
      walk_at "rds"
      refine ⟨E2, acc2, rfl, .inl ⟨SqL.of e2q, fun q2 hq2 => ?_⟩⟩
      have g2 : Go ((m.add E1).add E2) (upd HE q1 (.tup acc1)) (upd (upd HE q1 (.tup acc1)) q2 (.tup acc2)) := .new g1.ok hq2
      have dq1 : Dp K (vw ((m.add E1).add E2) (upd HE q1 (.tup acc1))) (.ref q1) (mtD ls1) := .tup (SqT.of (vw_new okE hq1)) (da1.mv g1.vw)
      have dq2 : Dp K (vw ((m.add E1).add E2) (upd (upd HE q1 (.tup acc1)) q2 (.tup acc2))) (.ref q2) (mtD ls2) := .tup (SqT.of (vw_new g1.ok hq2)) ((da2.mv g1.vw).mv g2.vw)
      walk_at "rds"
      refine r_newT (by simp) fun q3 hq3 => ?_
      have g3 : Go ((m.add E1).add E2) (upd (upd HE q1 (.tup acc1)) q2 (.tup acc2)) (upd (upd (upd HE q1 (.tup acc1)) q2 (.tup acc2)) q3 (.tup [.str z, v, .ref q1, .ref q2])) := .new g2.ok hq3
      refine k _ _ ⟨z, ns, ls1, ls2⟩ (((gA.trans gD).trans ((g1.trans g2).trans g3).sub.sub)) ?_ ⟨n1, n6, k1, k5, hz, hl, hm1, hm2⟩
      refine Dp.mv (H := vw ((m.add E1).add E2) _) ?_ (vw_addsub.trans vw_addsub)
      exact .tup (SqT.of (vw_new g2.ok hq3)) (.cons (.str _) (.cons (dv.mv ((g1.trans g2).trans g3).vw) (.cons (dq1.mv (g2.trans g3).vw) (.cons (dq2.mv g3.vw) .nil))))
    · walk_at "rds"
      refine r_andk (fun c => ?_) (fun c => ?_)
      · have hn1 : 1 < n := by have := of_decide_eq_true c; omega
        walk_at "rds"
        refine ⟨d, l, _, rfl, gC.ok.dk d l hdk, by decide, fun r HD a r0 r1 => ?_⟩
        have gD := Go.adv (m := (m.add E1).add E2) hdk (gC.ok.add (by rw [eC2]; intro z; cases z)) a
        have e1 := gD.at (m := (m.add E1).add E2) offE1 eC1
        have e2 := gD.at (m := (m.add E1).add E2) offE2 eC2
        have da1 := da1'.mv gD.vw
        have da2 := da2.mv gD.vw
        have l1 : acc1.length = n := by rw [dpa_len da1, List.length_map]; exact hm1.len
        have l2 : acc2.length = n := by rw [dpa_len da2, List.length_map]; exact hm2.len
        walk_at "rds"
        refine r_ifs (fun c2 => ?_) (fun c2 => ?_)
        · obtain ⟨w1, hw1, dw1⟩ := dpa_get' (i := 1) da2 (List.getElem?_eq_getElem (by rw [List.length_map, hm2.len]; omega))
          walk_at "rds"
          refine r_ixL (SqL.of e2) (atI_nat (j := 1) hw1) ?_
          walk_at "rds"
          refine r_setL (k := 0) e2 (by omega) ?_
          walk_at "rds"
          have hb1 : 1 < ls2.length := by rw [hm2.len]; omega
          have hm2' : Mtx 32 n kk (ls2.set 0 ls2[1]) := mtx_set hm2 (hm2.lin _ (List.getElem_mem _))
          have e1b : upd HD E2 (.lst (acc2.set 0 w1)) E1 = some (.lst acc1) := by rw [upd_ne ne12]; exact e1
          have gE : Go m HA (upd HD E2 (.lst (acc2.set 0 w1))) := (gAC.trans gD.sub.sub).mut gA.ok hA2
          have v2 : vw ((m.add E1).add E2) (upd HD E2 (.lst (acc2.set 0 w1))) = vw ((m.add E1).add E2) HD := vw_addupd
          have okE : Ok ((m.add E1).add E2) (upd HD E2 (.lst (acc2.set 0 w1))) := (gE.ok.add (by rw [e1b]; intro z; cases z)).add (by rw [upd_same]; intro z; cases z)
          refine ⟨d, l, _, rfl, gE.ok.dk d l hdk, by decide, fun r2 HF a2 r20 r21 => ?_⟩
          have gF := Go.adv (m := (m.add E1).add E2) hdk okE a2
          have e1c := gF.at (m := (m.add E1).add E2) offE1 e1b
          have e2c := gF.at (m := (m.add E1).add E2) offE2 (upd_same (H := HD) (a := E2) (o := .lst (acc2.set 0 w1)))
          have da1c : DpAll K (vw ((m.add E1).add E2) HF) acc1 (ls1.map lnD) := by
            have := da1
            rw [← v2] at this
            exact this.mv gF.vw
          have da2c : DpAll K (vw ((m.add E1).add E2) HF) (acc2.set 0 w1) ((ls2.set 0 ls2[1]).map lnD) := by
            have := dpa_set (k := 0) da2 dw1
            rw [← v2, List.getElem_map, ← List.map_set] at this
            exact this.mv gF.vw
          have hr2 : r2 = ((r2.toNat : Nat) : Int) := by omega
          obtain ⟨w2, hw2, dw2⟩ := dpa_get' (i := r2.toNat) da1c (List.getElem?_eq_getElem (by rw [List.length_map, hm1.len]; omega))
          have at2 := atI_nat hw2
          rw [← hr2] at at2
          refine r_ixL (SqL.of e1c) at2 ?_
          walk_at "rds"
          refine r_setL (k := 0) e1c (by omega) ?_
          have v1 : Same (vw ((m.add E1).add E2) HF) (vw ((m.add E1).add E2) (upd HF E1 (.lst (acc1.set 0 w2)))) := fun b x e => by
            obtain ⟨h1, h2, h3⟩ := vw_some e
            rw [vw_get h1 h2, upd_ne (fun z => h1 (by rw [z]; exact List.mem_cons_of_mem _ List.mem_cons_self))]
            exact h3
          have hm1' : Mtx 32 n n (ls1.set 0 (ls1[r2.toNat]'(by rw [hm1.len]; omega))) := mtx_set hm1 (hm1.lin _ (List.getElem_mem _))
          refine fin _ _ ⟨_, acc1.set 0 w2, acc2.set 0 w1, _, _, rfl, (gE.trans gF.sub.sub).mut gA.ok hA1, upd_same, by rw [upd_ne ne12.symm]; exact e2c, ?_, da2c.mv v1, hm1', hm2'⟩
          have := dpa_set (k := 0) da1c dw2
          rw [List.getElem_map, ← List.map_set] at this
          exact this.mv v1
        · exact fin _ _ ⟨_, acc1, acc2, ls1, ls2, rfl, gAC.trans gD.sub.sub, e1, e2, da1, da2, hm1, hm2⟩
      · refine r_no rfl ?_
        exact fin _ _ ⟨_, acc1, acc2, ls1, ls2, rfl, gAC, eC1, eC2, da1', da2, hm1, hm2⟩
theorem ok_law_by (B : Blt mg) {f : Addr} {fd : FuncData} (F : Fun K "_law_by" "_law_by" s_law_by f fd) (c_law_pick : FnAt P w K mg base s_law_pick 2 "_law_pick" ["deck", "items"] (spPick K)) :
    FG P w K mg base 3 f fd ["deck", "line"] (spBy K) := by
  refine okX F sc_law_by (fun vs H Q E h => ?_) (fun cdv A out s H vs Q E gu hr h => ?_)
  · obtain ⟨m, d, l, v, ns, b, n, rfl, _⟩ := h
    rfl
  · obtain ⟨m, d, l, v, ns, b, n, rfl, hdk, hok, hv, hl, n6, hb, k⟩ := h
    have hu := hu_of hr
    obtain ⟨q, rfl, hq⟩ := dp_line hv
    refine ⟨_, (pss_cons (ps_set (i := 2) sc_law_by.nd rfl (.inr rfl) (pe_c c_law_pick gu (hr.mono (by decide)) (fun σ => passN σ) (pa_cons (pv 0) (pa_cons (pe_lst (pa_cons pe_int (pa_cons pe_int (pa_cons pe_int (pa_cons pe_int (pa_cons pe_int (pa_cons pe_int (pa_cons (pe_op op_pow pe_int pe_int) pa_nil)))))))) pa_nil))))
      (pss_one (ps_ret (pe_callTy (T := "tuple") (r := rTupOf K) cl_tupOf (by rfl) B.tuple (by decide +kernel) (pa_cons (pe_lc (own := [("weight", 3)]) (g := (gName 3)) (tt := tYes) rfl sc_law_by.nd (pi_tup (pv 1)) (blkOk_by (own := [("weight", 3)]) (N := ["deck", "line", "by", "weight"]) (sc := defScope s_law_by) (by decide +kernel)) (fun _ _ _ _ _ => (pg_name (i := 3) sc_law_by.nd rfl (.inl rfl))) (fun _ _ _ _ _ => pts_nil) (fun _ _ _ _ _ => (pe_op op_ml (pv 3) (pv 2)))) pa_nil))))), ?_⟩
    walk_at "rds"
    refine r_I ⟨by decide, by decide, by decide⟩ ?_
    walk_at "rds"
    refine r_newL (by simp) fun p hp => ?_
    have g1 : Go m H (upd H p (.lst [.int 1, .int 2, .int 2, .int 3, .int 7, .int 10, .int (10 ^ 9)])) := .new hok hp
    have ne := (hok.dk d l hdk).ne hp
    walk_at "rds"
    refine ⟨d, l, p, _, rfl, g1.ok.dk d l hdk, SqL.of (by rw [hid_get ne.1 ne.2]; exact upd_same), by simp, by simp, fun v H2 a hv => ?_⟩
    have g2 := Go.adv hdk g1.ok a
    obtain ⟨kk, rfl, k0, k1⟩ : ∃ z : Int, v = .int z ∧ 0 < z ∧ z < 2 ^ 30 := by
      simp only [List.mem_cons, List.mem_nil_iff, or_false] at hv
      rcases hv with rfl | rfl | rfl | rfl | rfl | rfl | rfl
      all_goals exact ⟨_, rfl, by decide, by decide⟩
    have g12 := g1.trans g2
    have hq2 := seqT_same g12.vw hq
    walk_at "rds"
    refine r_tk (seqT_same vw_sub hq2) ?_
    refine r_lcVT (K := K) m g2.ok hq2 (by rw [List.length_map, hl.len]; omega) (fun i x => ∃ z, ns[i]? = some z ∧ x = .int (z * kk)) (fun E i v0 H' S hi g okE old kq => ?_) (fun E H' acc xs g hE hE' da hlen hR => ?_)
    · rw [List.getElem?_map] at hi
      cases e : ns[i]? with
      | none => rw [e] at hi; cases hi
      | some z =>
        rw [e] at hi
        cases hi
        walk_at "rds"
        refine r_I (mul_smallR (by omega) (by omega)) ?_
        exact kq _ _ _ (.refl okE) (.int _) ⟨z, e, rfl⟩
    · refine ⟨E, acc, rfl, .inl ⟨SqL.of hE', fun p3 hp3 => ?_⟩⟩
      have hx : xs = (ns.map (· * kk)).map PyData.int := by
        refine List.ext_getElem? fun i => ?_
        cases e : xs[i]? with
        | none =>
          have : xs.length ≤ i := List.getElem?_eq_none_iff.mp e
          rw [List.getElem?_map, List.getElem?_map, List.getElem?_eq_none_iff.mpr (by rw [List.length_map] at hlen; omega)]
          rfl
        | some x =>
          obtain ⟨z, hz, rfl⟩ := hR i x e
          rw [List.getElem?_map, List.getElem?_map, hz]
          rfl
      subst hx
      exact k _ _ kk ((g12.trans g).trans (.new g.ok hp3)) k0 k1 (tup_done g.ok hp3 da)
theorem ok_law_many_by (B : Blt mg) {f : Addr} {fd : FuncData} (F : Fun K "_law_many_by" "_law_many_by" s_law_many_by f fd) (c_law_by : FnAt P w K mg base s_law_by 3 "_law_by" ["deck", "line"] (spBy K)) :
    FG P w K mg base 4 f fd ["deck", "chain"] (spManyBy K) := by
  refine okX F sc_law_many_by (fun vs H Q E h => ?_) (fun cdv A out s H vs Q E gu hr h => ?_)
  · obtain ⟨m, d, l, v, c, b, n, kk, rfl, _⟩ := h
    rfl
  · obtain ⟨m, d, l, v, c, b, n, kk, rfl, hdk, hok, hv, hc, hb, k⟩ := h
    have hu := hu_of hr
    obtain ⟨q, v1, v2, v3, rfl, hq, h1, h2, h3⟩ := dp_chain hv
    have n6 := hc.n6
    refine ⟨_, (pss_cons (ps_asg (pv 1) (pg_tup rfl (pgs_cons (pg_name (i := 2) sc_law_many_by.nd rfl (.inl rfl)) (pgs_cons (pg_name (i := 3) sc_law_many_by.nd rfl (.inl rfl)) (pgs_cons (pg_name (i := 4) sc_law_many_by.nd rfl (.inl rfl)) (pgs_cons (pg_name (i := 5) sc_law_many_by.nd rfl (.inl rfl)) pgs_nil))))))
      (pss_cons (ps_par (i := 4) (j := 5) (by rfl) sc_law_many_by.nd rfl rfl (by decide) rfl rfl (pa_cons (pe_lc (own := [("line", 6)]) (g := (gName 6)) (tt := tYes) rfl sc_law_many_by.nd (pi_tup (pv 4)) (blkOk_by (own := [("line", 6)]) (N := ["deck", "chain", "signs", "start", "steps", "tells", "line"]) (sc := defScope s_law_many_by) (by decide +kernel)) (fun _ _ _ _ _ => (pg_name (i := 6) sc_law_many_by.nd rfl (.inl rfl))) (fun _ _ _ _ _ => pts_nil) (fun _ _ _ _ _ => (pe_c c_law_by gu (hr.mono (by decide)) (fun σ => passN σ) (pa_cons (pv 0) (pa_cons (pv 6) pa_nil))))) (pa_cons (pe_lc (own := [("line", 6)]) (g := (gName 6)) (tt := tYes) rfl sc_law_many_by.nd (pi_tup (pv 5)) (blkOk_by (own := [("line", 6)]) (N := ["deck", "chain", "signs", "start", "steps", "tells", "line"]) (sc := defScope s_law_many_by) (by decide +kernel)) (fun _ _ _ _ _ => (pg_name (i := 6) sc_law_many_by.nd rfl (.inl rfl))) (fun _ _ _ _ _ => pts_nil) (fun _ _ _ _ _ => (pe_c c_law_by gu (hr.mono (by decide)) (fun σ => passN σ) (pa_cons (pv 0) (pa_cons (pv 6) pa_nil))))) pa_nil)) (by rfl))
      (pss_one (ps_ret (pe_tup (pa_cons (pv 2) (pa_cons (pe_c c_law_by gu (hr.mono (by decide)) (fun σ => passN σ) (pa_cons (pv 0) (pa_cons (pv 3) pa_nil))) (pa_cons (pe_callTy (T := "tuple") (r := rTupOf K) cl_tupOf (by rfl) B.tuple (by decide +kernel) (pa_cons (pv 4) pa_nil)) (pa_cons (pe_callTy (T := "tuple") (r := rTupOf K) cl_tupOf (by rfl) B.tuple (by decide +kernel) (pa_cons (pv 5) pa_nil)) pa_nil))))))))), ?_⟩
    walk_at "rds"
    refine r_gtup (seqT_same vw_sub hq) rfl ?_
    walk_at "rds"
    obtain ⟨q2, w2, rfl, hq2, ha2⟩ := dp_tup h2
    obtain ⟨q3, w3, rfl, hq3, ha3⟩ := dp_tup h3
    have l2 : w2.length = n := by rw [dpa_len ha2, List.length_map]; exact hc.sp.len
    have l3 : w3.length = n := by rw [dpa_len ha3, List.length_map]; exact hc.tl.len
    refine r_tk (seqT_same vw_sub hq2) ?_
    have one : ∀ {r N : Nat} {ls : List (List Int)} {ws : List V} {m' : Md} {H0 : Hp} (hd' : m'.dk = some (d, l)), Mtx b r N ls → N ≤ 6 → DpAll K (vw m' H0) ws (ls.map lnD) → ∀ {i : Nat} {v0 : V} {H' : Hp} {E' : Addr} {S : VK}, ws[i]? = some v0 → Ok (m'.add E') H' → Same (vw m' H0) (vw (m'.add E') H') →
        (∀ v H2 x, Go (m'.add E') H' H2 → Dp K (vw (m'.add E') H2) v x → (∃ l k, ls[i]? = some l ∧ x = lnD (l.map (· * k)) ∧ 0 < k ∧ k < 2 ^ 30) → S v H2) → spBy K [.ref d, v0] H' S E0 := by
      intro r N ls ws m' H0 hd' hm hN da i v0 H' E' S hi okE old kq
      obtain ⟨x, hx, dx⟩ := dpa_get da hi
      rw [List.getElem?_map] at hx
      cases e : ls[i]? with
      | none => rw [e] at hx; cases hx
      | some l0 =>
        rw [e] at hx
        cases hx
        exact ⟨m'.add E', d, l, v0, l0, b, N, rfl, hd', okE, dx.mv old, hm.lin l0 (List.mem_of_getElem? e), hN, hb, fun v H2 kk g' k0 k1 dv => kq v H2 _ g' dv ⟨l0, kk, e, rfl, k0, k1⟩⟩
    refine r_lcVT (K := K) m hok hq2 (by omega) (fun i x => ∃ l k, c.sp[i]? = some l ∧ x = lnD (l.map (· * k)) ∧ 0 < k ∧ k < 2 ^ 30) (fun E i v0 H' S hi g okE old kq => ?_) (fun E1 HB acc1 xs1 gB hE1 eB1 da1 hlen1 hR1 => ?_)
    · walk_at "rds"
      exact one hdk hc.sp hc.n6 ha2 hi okE old kq
    obtain ⟨es1, rfl, hm1, me1, pe1⟩ := many_of hc.sp (by rw [hlen1, l2]; exact hc.sp.len.symm) hR1
    have ok1 : Ok (m.add E1) HB := gB.ok.add (by rw [eB1]; intro z; cases z)
    have old1 : Same (vw m H) (vw (m.add E1) HB) := gB.old hE1
    walk_at "rds"
    refine r_tk (seqT_same (old1.trans vw_sub) hq3) ?_
    refine r_lcVT (K := K) (m.add E1) ok1 (seqT_same old1 hq3) (by omega) (fun i x => ∃ l k, c.tl[i]? = some l ∧ x = lnD (l.map (· * k)) ∧ 0 < k ∧ k < 2 ^ 30) (fun E i v0 H' S hi g okE old kq => ?_) (fun E2 HC acc2 xs2 gC hE2 eC2 da2 hlen2 hR2 => ?_)
    · walk_at "rds"
      exact one (m' := m.add E1) hdk hc.tl (by have := hc.k5; omega) (ha3.mv old1) hi okE old kq
    obtain ⟨es2, rfl, hm2, me2, pe2⟩ := many_of hc.tl (by rw [hlen2, l3]; exact hc.tl.len.symm) hR2
    have offE1 : m.off E1 := hok.off hE1
    have offE2 : m.off E2 := gB.ok.off hE2
    have e1 : HC E1 = some (.lst acc1) := gC.at (m := m.add E1) offE1 eB1
    have ok2 : Ok ((m.add E1).add E2) HC := gC.ok.add (by rw [eC2]; intro z; cases z)
    have old2 : Same (vw m H) (vw ((m.add E1).add E2) HC) := old1.trans (gC.old hE2)
    have da1 := da1.mv (gC.old hE2)
    walk_at "rds"
    refine ⟨(m.add E1).add E2, d, l, v1, c.st, b, n, rfl, hdk, ok2, h1.mv old2, hc.st, hc.n6, hb, fun v HD k0 gD k00 k01 dv => ?_⟩
    have e1 := gD.at (m := (m.add E1).add E2) offE1 e1
    have e2 := gD.at (m := (m.add E1).add E2) offE2 eC2
    have da1 := da1.mv gD.vw
    have da2 := da2.mv gD.vw
    walk_at "rds"
    refine ⟨E1, acc1, rfl, .inl ⟨SqL.of e1, fun p1 hp1 => ?_⟩⟩
    have g1 : Go ((m.add E1).add E2) HD (upd HD p1 (.tup acc1)) := .new gD.ok hp1
    walk_at "rds"
    refine ⟨E2, acc2, rfl, .inl ⟨SqL.of (by rw [upd_ne (ne_of_none e2 hp1)]; exact e2), fun p2 hp2 => ?_⟩⟩
    have g2 : Go ((m.add E1).add E2) (upd HD p1 (.tup acc1)) (upd (upd HD p1 (.tup acc1)) p2 (.tup acc2)) := .new g1.ok hp2
    have dq1 : Dp K (vw ((m.add E1).add E2) (upd HD p1 (.tup acc1))) (.ref p1) (mtD es1) := .tup (SqT.of (vw_new gD.ok hp1)) (da1.mv g1.vw)
    have dq2 : Dp K (vw ((m.add E1).add E2) (upd (upd HD p1 (.tup acc1)) p2 (.tup acc2))) (.ref p2) (mtD es2) := .tup (SqT.of (vw_new g1.ok hp2)) ((da2.mv g1.vw).mv g2.vw)
    walk_at "rds"
    refine r_newT (by simp) fun q3 hq3 => ?_
    have g3 : Go ((m.add E1).add E2) (upd (upd HD p1 (.tup acc1)) p2 (.tup acc2)) (upd (upd (upd HD p1 (.tup acc1)) p2 (.tup acc2)) q3 (.tup [.str c.sg, v, .ref p1, .ref p2])) := .new g2.ok hq3
    refine k _ _ ⟨c.sg, c.st.map (· * k0), es1, es2⟩ ((gB.trans gC.sub).trans (gD.trans ((g1.trans g2).trans g3)).sub.sub) ?_ ⟨hc.n1, hc.n6, hc.k1, hc.k5, hc.sg, mul_lin hc.st k00 k01, hm1, hm2⟩ ⟨rfl, leq_mul _ k00, me1, me2⟩ ?_
    · refine Dp.mv (H := vw ((m.add E1).add E2) _) ?_ (vw_addsub.trans vw_addsub)
      exact chain_dp (SqT.of (vw_new g2.ok hq3)) (dv.mv ((g1.trans g2).trans g3).vw) (dq1.mv (g2.trans g3).vw) (dq2.mv g3.vw)
    · unfold plC
      rw [pe1, pe2, plL_mul hc.st.sum k00]
theorem ok_law_divided_line (B : Blt mg) {f : Addr} {fd : FuncData} (F : Fun K "_law_divided_line" "_law_divided_line" s_law_divided_line f fd) (c_law_gcd : FnAt P w K mg base s_law_gcd 1 "_law_gcd" ["a", "b"] spGcd) :
    FG P w K mg base 2 f fd ["line"] (spLnPl K) := by
  refine okX F sc_law_divided_line (fun vs H Q E h => ?_) (fun cdv A out s H vs Q E gu hr h => ?_)
  · obtain ⟨m, v, ns, b, n, rfl, _⟩ := h
    rfl
  · obtain ⟨m, v, ns, b, n, rfl, hok, hv, hl, n6, hb, k⟩ := h
    have hu := hu_of hr
    obtain ⟨q, rfl, hq⟩ := dp_line hv
    refine ⟨_, (pss_cons (ps_set (i := 1) sc_law_divided_line.nd rfl (.inr rfl) pe_int)
      (pss_cons (ps_for (passes_of rfl) rfl (pi_tup (pv 0)) (pg_name (i := 2) sc_law_divided_line.nd rfl (.inl rfl))
        (pss_one (ps_set (i := 1) sc_law_divided_line.nd rfl (.inr rfl) (pe_c c_law_gcd gu (hr.mono (by decide)) (fun σ => passN σ) (pa_cons (pv 1) (pa_cons (pv 2) pa_nil))))))
      (pss_one (ps_ret (pe_callTy (T := "tuple") (r := rTupOf K) cl_tupOf (by rfl) B.tuple (by decide +kernel) (pa_cons (pe_lc (own := [("weight", 2)]) (g := (gName 2)) (tt := tYes) rfl sc_law_divided_line.nd (pi_tup (pv 0)) (blkOk_by (own := [("weight", 2)]) (N := ["line", "common", "weight"]) (sc := defScope s_law_divided_line) (by decide +kernel)) (fun _ _ _ _ _ => (pg_name (i := 2) sc_law_divided_line.nd rfl (.inl rfl))) (fun _ _ _ _ _ => pts_nil) (fun _ _ _ _ _ => (pe_op op_dv (pv 2) (pv 1)))) pa_nil)))))), ?_⟩
    walk_at "rds"
    refine r_tk (seqT_same vw_sub hq) (r_forT (xs := ns.map V.int) (fun i σ H' => ∃ y : Option V, σ = [some (.ref q), some (.int (gcdF 0 (ns.take i))), y] ∧ H' = H) ⟨_, rfl, rfl⟩ (fun i σ H' _ h => ?_) (fun i x σ H' hx h => ?_) fun σ H' h => ?_)
    · obtain ⟨_, _, rfl⟩ := h
      exact seqT_same vw_sub hq
    · obtain ⟨y, rfl, rfl⟩ := h
      rw [List.getElem?_map] at hx
      cases e : ns[i]? with
      | none => rw [e] at hx; cases hx
      | some z =>
        rw [e] at hx
        cases hx
        walk_at "rds"
        refine ⟨_, _, rfl, ?_⟩
        walk_at "rds"
        have st := gcdF_step 0 ns i z e
        exact ⟨_, congrArg (fun t => [some (V.ref q), some (V.int t), some (V.int z)]) st, rfl⟩
    · obtain ⟨y, rfl, rfl⟩ := h
      have eg : gcdF 0 (ns.take (ns.map V.int).length) = gcdL ns := by rw [List.length_map, List.take_length]; rfl
      rw [eg]
      have g0 := gcdL_pos hl.sum
      have gb : (gcdL ns).natAbs.log2 < 9000 := gcd_log hl hb
      walk_at "rds"
      refine r_tk (seqT_same vw_sub hq) ?_
      refine r_lcVT (K := K) m hok hq (by rw [List.length_map, hl.len]; omega) (fun i x => ∃ z, ns[i]? = some z ∧ x = .int (z.fdiv (gcdL ns))) (fun E i v0 H' S hi g okE old kq => ?_) (fun E H' acc xs g hE hE' da hlen hR => ?_)
      · rw [List.getElem?_map] at hi
        cases e : ns[i]? with
        | none => rw [e] at hi; cases hi
        | some z =>
          rw [e] at hi
          cases hi
          walk_at "rds"
          refine r_I ⟨by omega, gb⟩ ?_
          exact kq _ _ _ (.refl okE) (.int _) ⟨z, e, rfl⟩
      · refine ⟨E, acc, rfl, .inl ⟨SqL.of hE', fun p3 hp3 => ?_⟩⟩
        have hx : xs = (plL ns).map PyData.int := by
          refine List.ext_getElem? fun i => ?_
          unfold plL
          cases e : xs[i]? with
          | none =>
            have : xs.length ≤ i := List.getElem?_eq_none_iff.mp e
            rw [List.getElem?_map, List.getElem?_map, List.getElem?_eq_none_iff.mpr (by rw [List.length_map] at hlen; omega)]
            rfl
          | some x =>
            obtain ⟨z, hz, rfl⟩ := hR i x e
            rw [List.getElem?_map, List.getElem?_map, hz]
            rfl
        subst hx
        exact k _ _ (g.trans (.new g.ok hp3)) (tup_done g.ok hp3 da)
theorem ok_plain_line (B : Blt mg) {f : Addr} {fd : FuncData} (M_gcd : mg "gcd" = some (.builtin "math.gcd")) (F : Fun K "_plain_line" "_plain_line" s_plain_line f fd) :
    FG P w K mg base 1 f fd ["line"] (spLnPl K) := by
  refine okX F sc_plain_line (fun vs H Q E h => ?_) (fun cdv A out s H vs Q E gu hr h => ?_)
  · obtain ⟨m, v, ns, b, n, rfl, _⟩ := h
    rfl
  · obtain ⟨m, v, ns, b, n, rfl, hok, hv, hl, n6, hb, k⟩ := h
    have hu := hu_of hr
    obtain ⟨q, rfl, hq⟩ := dp_line hv
    refine ⟨_, (pss_cons (ps_set (i := 1) sc_plain_line.nd rfl (.inr rfl) pe_int)
      (pss_cons (ps_for (passes_of rfl) rfl (pi_tup (pv 0)) (pg_name (i := 2) sc_plain_line.nd rfl (.inl rfl))
        (pss_one (ps_set (i := 1) sc_plain_line.nd rfl (.inr rfl) (pe_callBfun cr_gcd rfl M_gcd (pa_cons (pv 1) (pa_cons (pv 2) pa_nil))))))
      (pss_one (ps_ret (pe_callTy (T := "tuple") (r := rTupOf K) cl_tupOf (by rfl) B.tuple (by decide +kernel) (pa_cons (pe_lc (own := [("weight", 2)]) (g := (gName 2)) (tt := tYes) rfl sc_plain_line.nd (pi_tup (pv 0)) (blkOk_by (own := [("weight", 2)]) (N := ["line", "common", "weight"]) (sc := defScope s_plain_line) (by decide +kernel)) (fun _ _ _ _ _ => (pg_name (i := 2) sc_plain_line.nd rfl (.inl rfl))) (fun _ _ _ _ _ => pts_nil) (fun _ _ _ _ _ => (pe_op op_dv (pv 2) (pv 1)))) pa_nil)))))), ?_⟩
    walk_at "rds"
    refine r_tk (seqT_same vw_sub hq) (r_forT (xs := ns.map V.int) (fun i σ H' => ∃ y : Option V, σ = [some (.ref q), some (.int (gcdF 0 (ns.take i))), y] ∧ H' = H) ⟨_, rfl, rfl⟩ (fun i σ H' _ h => ?_) (fun i x σ H' hx h => ?_) fun σ H' h => ?_)
    · obtain ⟨_, _, rfl⟩ := h
      exact seqT_same vw_sub hq
    · obtain ⟨y, rfl, rfl⟩ := h
      rw [List.getElem?_map] at hx
      cases e : ns[i]? with
      | none => rw [e] at hx; cases hx
      | some z =>
        rw [e] at hx
        cases hx
        walk_at "rds"
        refine ⟨_, _, rfl, ?_⟩
        walk_at "rds"
        have st := gcdF_step 0 ns i z e
        exact ⟨_, congrArg (fun t => [some (V.ref q), some (V.int t), some (V.int z)]) st, rfl⟩
    · obtain ⟨y, rfl, rfl⟩ := h
      have eg : gcdF 0 (ns.take (ns.map V.int).length) = gcdL ns := by rw [List.length_map, List.take_length]; rfl
      rw [eg]
      have g0 := gcdL_pos hl.sum
      have gb : (gcdL ns).natAbs.log2 < 9000 := gcd_log hl hb
      walk_at "rds"
      refine r_tk (seqT_same vw_sub hq) ?_
      refine r_lcVT (K := K) m hok hq (by rw [List.length_map, hl.len]; omega) (fun i x => ∃ z, ns[i]? = some z ∧ x = .int (z.fdiv (gcdL ns))) (fun E i v0 H' S hi g okE old kq => ?_) (fun E H' acc xs g hE hE' da hlen hR => ?_)
      · rw [List.getElem?_map] at hi
        cases e : ns[i]? with
        | none => rw [e] at hi; cases hi
        | some z =>
          rw [e] at hi
          cases hi
          walk_at "rds"
          refine r_I ⟨by omega, gb⟩ ?_
          exact kq _ _ _ (.refl okE) (.int _) ⟨z, e, rfl⟩
      · refine ⟨E, acc, rfl, .inl ⟨SqL.of hE', fun p3 hp3 => ?_⟩⟩
        have hx : xs = (plL ns).map PyData.int := by
          refine List.ext_getElem? fun i => ?_
          unfold plL
          cases e : xs[i]? with
          | none =>
            have : xs.length ≤ i := List.getElem?_eq_none_iff.mp e
            rw [List.getElem?_map, List.getElem?_map, List.getElem?_eq_none_iff.mpr (by rw [List.length_map] at hlen; omega)]
            rfl
          | some x =>
            obtain ⟨z, hz, rfl⟩ := hR i x e
            rw [List.getElem?_map, List.getElem?_map, hz]
            rfl
        subst hx
        exact k _ _ (g.trans (.new g.ok hp3)) (tup_done g.ok hp3 da)
theorem ok_law_plain (B : Blt mg) {f : Addr} {fd : FuncData} (F : Fun K "_law_plain" "_law_plain" s_law_plain f fd) (c_law_divided_line : FnAt P w K mg base s_law_divided_line 2 "_law_divided_line" ["line"] (spLnPl K)) :
    FG P w K mg base 3 f fd ["chain"] (spPlain K) := by
  refine okX F sc_law_plain (fun vs H Q E h => ?_) (fun cdv A out s H vs Q E gu hr h => ?_)
  · obtain ⟨m, v, c, b, n, kk, rfl, _⟩ := h
    rfl
  · obtain ⟨m, v, c, b, n, kk, rfl, hok, hv, hc, hb, k⟩ := h
    have hu := hu_of hr
    obtain ⟨q, v1, v2, v3, rfl, hq, h1, h2, h3⟩ := dp_chain hv
    have n6 := hc.n6
    refine ⟨_, (pss_cons (ps_asg (pv 0) (pg_tup rfl (pgs_cons (pg_name (i := 1) sc_law_plain.nd rfl (.inl rfl)) (pgs_cons (pg_name (i := 2) sc_law_plain.nd rfl (.inl rfl)) (pgs_cons (pg_name (i := 3) sc_law_plain.nd rfl (.inl rfl)) (pgs_cons (pg_name (i := 4) sc_law_plain.nd rfl (.inl rfl)) pgs_nil))))))
      (pss_cons (ps_par (i := 3) (j := 4) (by rfl) sc_law_plain.nd rfl rfl (by decide) rfl rfl (pa_cons (pe_lc (own := [("line", 5)]) (g := (gName 5)) (tt := tYes) rfl sc_law_plain.nd (pi_tup (pv 3)) (blkOk_by (own := [("line", 5)]) (N := ["chain", "signs", "start", "steps", "tells", "line"]) (sc := defScope s_law_plain) (by decide +kernel)) (fun _ _ _ _ _ => (pg_name (i := 5) sc_law_plain.nd rfl (.inl rfl))) (fun _ _ _ _ _ => pts_nil) (fun _ _ _ _ _ => (pe_c c_law_divided_line gu (hr.mono (by decide)) (fun σ => passN σ) (pa_cons (pv 5) pa_nil)))) (pa_cons (pe_lc (own := [("line", 5)]) (g := (gName 5)) (tt := tYes) rfl sc_law_plain.nd (pi_tup (pv 4)) (blkOk_by (own := [("line", 5)]) (N := ["chain", "signs", "start", "steps", "tells", "line"]) (sc := defScope s_law_plain) (by decide +kernel)) (fun _ _ _ _ _ => (pg_name (i := 5) sc_law_plain.nd rfl (.inl rfl))) (fun _ _ _ _ _ => pts_nil) (fun _ _ _ _ _ => (pe_c c_law_divided_line gu (hr.mono (by decide)) (fun σ => passN σ) (pa_cons (pv 5) pa_nil)))) pa_nil)) (by rfl))
      (pss_one (ps_ret (pe_tup (pa_cons (pv 1) (pa_cons (pe_c c_law_divided_line gu (hr.mono (by decide)) (fun σ => passN σ) (pa_cons (pv 2) pa_nil)) (pa_cons (pe_callTy (T := "tuple") (r := rTupOf K) cl_tupOf (by rfl) B.tuple (by decide +kernel) (pa_cons (pv 3) pa_nil)) (pa_cons (pe_callTy (T := "tuple") (r := rTupOf K) cl_tupOf (by rfl) B.tuple (by decide +kernel) (pa_cons (pv 4) pa_nil)) pa_nil))))))))), ?_⟩
    walk_at "rds"
    refine r_gtup (seqT_same vw_sub hq) rfl ?_
    walk_at "rds"
    obtain ⟨q2, w2, rfl, hq2, ha2⟩ := dp_tup h2
    obtain ⟨q3, w3, rfl, hq3, ha3⟩ := dp_tup h3
    have l2 : w2.length = n := by rw [dpa_len ha2, List.length_map]; exact hc.sp.len
    have l3 : w3.length = n := by rw [dpa_len ha3, List.length_map]; exact hc.tl.len
    refine r_tk (seqT_same vw_sub hq2) ?_
    refine r_lcVT (K := K) m hok hq2 (by omega) (fun i x => ∃ l, c.sp[i]? = some l ∧ x = lnD (plL l)) (fun E i v0 H' S hi g okE old kq => ?_) (fun E1 HB acc1 xs1 gB hE1 eB1 da1 hlen1 hR1 => ?_)
    · walk_at "rds"
      exact one_pl hc.sp hc.n6 hb ha2 hi okE old kq
    have hx1 := lines_by (by rw [hlen1, l2]; exact hc.sp.len.symm) hR1
    subst hx1
    have ok1 : Ok (m.add E1) HB := gB.ok.add (by rw [eB1]; intro z; cases z)
    have old1 : Same (vw m H) (vw (m.add E1) HB) := gB.old hE1
    walk_at "rds"
    refine r_tk (seqT_same (old1.trans vw_sub) hq3) ?_
    refine r_lcVT (K := K) (m.add E1) ok1 (seqT_same old1 hq3) (by omega) (fun i x => ∃ l, c.tl[i]? = some l ∧ x = lnD (plL l)) (fun E i v0 H' S hi g okE old kq => ?_) (fun E2 HC acc2 xs2 gC hE2 eC2 da2 hlen2 hR2 => ?_)
    · walk_at "rds"
      exact one_pl hc.tl (by have := hc.k5; omega) hb (ha3.mv old1) hi okE old kq
    have hx2 := lines_by (by rw [hlen2, l3]; exact hc.tl.len.symm) hR2
    subst hx2
    have offE1 : m.off E1 := hok.off hE1
    have offE2 : m.off E2 := gB.ok.off hE2
    have e1 : HC E1 = some (.lst acc1) := gC.at (m := m.add E1) offE1 eB1
    have ok2 : Ok ((m.add E1).add E2) HC := gC.ok.add (by rw [eC2]; intro z; cases z)
    have old2 : Same (vw m H) (vw ((m.add E1).add E2) HC) := old1.trans (gC.old hE2)
    have da1 := da1.mv (gC.old hE2)
    walk_at "rds"
    refine ⟨(m.add E1).add E2, v1, c.st, b, n, rfl, ok2, h1.mv old2, hc.st, hc.n6, hb, fun v HD gD dv => ?_⟩
    have e1 := gD.at (m := (m.add E1).add E2) offE1 e1
    have e2 := gD.at (m := (m.add E1).add E2) offE2 eC2
    have da1 := da1.mv gD.vw
    have da2 := da2.mv gD.vw
    walk_at "rds"
    refine ⟨E1, acc1, rfl, .inl ⟨SqL.of e1, fun p1 hp1 => ?_⟩⟩
    have g1 : Go ((m.add E1).add E2) HD (upd HD p1 (.tup acc1)) := .new gD.ok hp1
    walk_at "rds"
    refine ⟨E2, acc2, rfl, .inl ⟨SqL.of (by rw [upd_ne (ne_of_none e2 hp1)]; exact e2), fun p2 hp2 => ?_⟩⟩
    have g2 : Go ((m.add E1).add E2) (upd HD p1 (.tup acc1)) (upd (upd HD p1 (.tup acc1)) p2 (.tup acc2)) := .new g1.ok hp2
    have dq1 : Dp K (vw ((m.add E1).add E2) (upd HD p1 (.tup acc1))) (.ref p1) (mtD (c.sp.map plL)) := .tup (SqT.of (vw_new gD.ok hp1)) (da1.mv g1.vw)
    have dq2 : Dp K (vw ((m.add E1).add E2) (upd (upd HD p1 (.tup acc1)) p2 (.tup acc2))) (.ref p2) (mtD (c.tl.map plL)) := .tup (SqT.of (vw_new g1.ok hp2)) ((da2.mv g1.vw).mv g2.vw)
    walk_at "rds"
    refine r_newT (by simp) fun q3 hq3 => ?_
    have g3 : Go ((m.add E1).add E2) (upd (upd HD p1 (.tup acc1)) p2 (.tup acc2)) (upd (upd (upd HD p1 (.tup acc1)) p2 (.tup acc2)) q3 (.tup [.str c.sg, v, .ref p1, .ref p2])) := .new g2.ok hq3
    refine k _ _ ((gB.trans gC.sub).trans (gD.trans ((g1.trans g2).trans g3)).sub.sub) ?_
    refine Dp.mv (H := vw ((m.add E1).add E2) _) ?_ (vw_addsub.trans vw_addsub)
    exact chain_dp (SqT.of (vw_new g2.ok hq3)) (dv.mv ((g1.trans g2).trans g3).vw) (dq1.mv (g2.trans g3).vw) (dq2.mv g3.vw)
theorem ok_plain_lines (B : Blt mg) {f : Addr} {fd : FuncData} (F : Fun K "_plain_lines" "_plain_lines" s_plain_lines f fd) (c_plain_line : FnAt P w K mg base s_plain_line 1 "_plain_line" ["line"] (spLnPl K)) :
    FG P w K mg base 2 f fd ["lines"] (spMtPl K) := by
  refine okX F sc_plain_lines (fun vs H Q E h => ?_) (fun cdv A out s H vs Q E gu hr h => ?_)
  · obtain ⟨m, v, ls, b, r, n, rfl, _⟩ := h
    rfl
  · obtain ⟨m, v, ls, b, r, n, rfl, hok, hv, hm, r6, n6, hb, k⟩ := h
    have hu := hu_of hr
    obtain ⟨q2, w2, rfl, hq2, ha2⟩ := dp_tup hv
    have l2 : w2.length = r := by rw [dpa_len ha2, List.length_map]; exact hm.len
    refine ⟨_, (pss_one (ps_ret (pe_callTy (T := "tuple") (r := rTupOf K) cl_tupOf (by rfl) B.tuple (by decide +kernel) (pa_cons (pe_lc (own := [("line", 1)]) (g := (gName 1)) (tt := tYes) rfl sc_plain_lines.nd (pi_tup (pv 0)) (blkOk_by (own := [("line", 1)]) (N := ["lines", "line"]) (sc := defScope s_plain_lines) (by decide +kernel)) (fun _ _ _ _ _ => (pg_name (i := 1) sc_plain_lines.nd rfl (.inl rfl))) (fun _ _ _ _ _ => pts_nil) (fun _ _ _ _ _ => (pe_c c_plain_line gu (hr.mono (by decide)) (fun σ => passN σ) (pa_cons (pv 1) pa_nil)))) pa_nil)))), ?_⟩
    walk_at "rds"
    refine r_tk (seqT_same vw_sub hq2) ?_
    refine r_lcVT (K := K) m hok hq2 (by omega) (fun i x => ∃ l, ls[i]? = some l ∧ x = lnD (plL l)) (fun E i v0 H' S hi g okE old kq => ?_) (fun E1 HB acc1 xs1 gB hE1 eB1 da1 hlen1 hR1 => ?_)
    · walk_at "rds"
      exact one_pl hm n6 hb ha2 hi okE old kq
    have hx1 := lines_by (by rw [hlen1, l2]; exact hm.len.symm) hR1
    subst hx1
    refine ⟨E1, acc1, rfl, .inl ⟨SqL.of eB1, fun p1 hp1 => ?_⟩⟩
    exact k _ _ (gB.trans (.new gB.ok hp1)) (tup_done gB.ok hp1 da1)
theorem ok_plain {f : Addr} {fd : FuncData} (F : Fun K "plain" "plain" s_plain f fd) (c_plain_line : FnAt P w K mg base s_plain_line 1 "_plain_line" ["line"] (spLnPl K)) (c_plain_lines : FnAt P w K mg base s_plain_lines 2 "_plain_lines" ["lines"] (spMtPl K)) :
    FG P w K mg base 3 f fd ["chain"] (spPlain K) := by
  refine okX F sc_plain (fun vs H Q E h => ?_) (fun cdv A out s H vs Q E gu hr h => ?_)
  · obtain ⟨m, v, c, b, n, kk, rfl, _⟩ := h
    rfl
  · obtain ⟨m, v, c, b, n, kk, rfl, hok, hv, hc, hb, k⟩ := h
    obtain ⟨q, v1, v2, v3, rfl, hq, h1, h2, h3⟩ := dp_chain hv
    have n6 := hc.n6
    have k5 := hc.k5
    refine ⟨_, (pss_cons (ps_asg (pv 0) (pg_tup rfl (pgs_cons (pg_name (i := 1) sc_plain.nd rfl (.inl rfl)) (pgs_cons (pg_name (i := 2) sc_plain.nd rfl (.inl rfl)) (pgs_cons (pg_name (i := 3) sc_plain.nd rfl (.inl rfl)) (pgs_cons (pg_name (i := 4) sc_plain.nd rfl (.inl rfl)) pgs_nil))))))
      (pss_one (ps_ret (pe_tup (pa_cons (pv 1) (pa_cons (pe_c c_plain_line gu (hr.mono (by decide)) (fun σ => passN σ) (pa_cons (pv 2) pa_nil)) (pa_cons (pe_c c_plain_lines gu (hr.mono (by decide)) (fun σ => passN σ) (pa_cons (pv 3) pa_nil)) (pa_cons (pe_c c_plain_lines gu (hr.mono (by decide)) (fun σ => passN σ) (pa_cons (pv 4) pa_nil)) pa_nil)))))))), ?_⟩
    walk_at "rds"
    refine r_gtup (seqT_same vw_sub hq) rfl ?_
    walk_at "rds"
    refine ⟨m, v1, c.st, b, n, rfl, hok, h1, hc.st, n6, hb, fun r1 HA gA d1 => ?_⟩
    walk_at "rds"
    refine ⟨m, v2, c.sp, b, n, n, rfl, gA.ok, h2.mv gA.vw, hc.sp, n6, n6, hb, fun r2 HB gB d2 => ?_⟩
    walk_at "rds"
    refine ⟨m, v3, c.tl, b, n, kk, rfl, gB.ok, h3.mv (gA.trans gB).vw, hc.tl, n6, by omega, hb, fun r3 HC gC d3 => ?_⟩
    walk_at "rds"
    refine r_newT (by simp) fun q3 hq3 => ?_
    have g3 : Go m HC (upd HC q3 (.tup [.str c.sg, r1, r2, r3])) := .new gC.ok hq3
    exact k _ _ (((gA.trans gB).trans gC).trans g3) (chain_dp (SqT.of (vw_new gC.ok hq3)) (d1.mv ((gB.trans gC).trans g3).vw) (d2.mv (gC.trans g3).vw) (d3.mv g3.vw))
theorem ok_share {CU : Addr} (B : Blt mg) {f : Addr} {fd : FuncData} (F : Fun K "_share" "_share" s_share f fd) (c_lowest : FnAt P w K mg base s_lowest 1 "lowest" ["a", "b"] (spLowest CU)) : FG P w K mg base 2 f fd ["line", "place"] (spShare K) := by
  refine okX F sc_share (fun vs H Q E h => ?_) (fun cdv A out s H vs Q E gu hr h => ?_)
  · obtain ⟨m, v, ns, b, n, i, x, rfl, _⟩ := h
    rfl
  · obtain ⟨m, v, ns, b, n, i, x, rfl, hok, hv, hl, n6, hb, hx, k⟩ := h
    obtain ⟨q, rfl, hq⟩ := dp_line hv
    refine ⟨_, (pss_one (ps_ret (pe_c c_lowest gu (hr.mono (by decide)) (fun σ => passN σ) (pa_cons (pe_ix (r := rIxT K) ix_tup (pv 0) (pv 1) (fun _ _ => rfl)) (pa_cons (pe_callB (r := rSumT K) (cr_sumT rfl) (by rfl) B.sum (by decide +kernel) (pa_cons (pv 0) pa_nil)) pa_nil))))), ?_⟩
    walk_at "rds"
    refine r_ixT (seqT_same vw_sub hq) (atI_nat (j := i) (by rw [List.getElem?_map, hx]; rfl)) ?_
    walk_at "rds"
    refine r_sumT (.inr (seqT_same vw_sub hq)) ?_
    walk_at "rds"
    have sb := lin_sum hl n6
    have s0 := hl.sum
    refine ⟨_, _, rfl, sb.mono (by omega), fun z => absurd z (by omega), fun _ p hp => ?_⟩
    exact k _ _ (.new hok hp) (.tup (SqT.of (vw_new hok hp)) (.cons (.int _) (.cons (.int _) .nil)))
theorem ok_start_share {f : Addr} {fd : FuncData} (F : Fun K "start_share" "start_share" s_start_share f fd) (c_share : FnAt P w K mg base s_share 2 "_share" ["line", "place"] (spShare K)) : FG P w K mg base 3 f fd ["chain", "state"] (spStart K) := by
  refine okX F sc_start_share (fun vs H Q E h => ?_) (fun cdv A out s H vs Q E gu hr h => ?_)
  · obtain ⟨m, v, c, b, n, kk, i, x, rfl, _⟩ := h
    rfl
  · obtain ⟨m, v, c, b, n, kk, i, x, rfl, hok, hv, hc, hb, hx, k⟩ := h
    obtain ⟨q, v1, v2, v3, rfl, hq, h1, h2, h3⟩ := dp_chain hv
    refine ⟨_, (pss_one (ps_ret (pe_c c_share gu (hr.mono (by decide)) (fun σ => passN σ) (pa_cons (pe_ix (r := rIxT K) ix_tup (pv 0) pe_int (fun _ _ => rfl)) (pa_cons (pv 1) pa_nil))))), ?_⟩
    walk_at "rds"
    refine r_ixT (seqT_same vw_sub hq) (atI_nat (j := 1) rfl) ?_
    walk_at "rds"
    exact ⟨m, v1, c.st, b, n, i, x, rfl, hok, h1, hc.st, hc.n6, hb, hx, k⟩
theorem ok_step_share {f : Addr} {fd : FuncData} (F : Fun K "step_share" "step_share" s_step_share f fd) (c_share : FnAt P w K mg base s_share 2 "_share" ["line", "place"] (spShare K)) : FG P w K mg base 3 f fd ["chain", "one", "other"] (spStep K) := by
  refine okX F sc_step_share (fun vs H Q E h => ?_) (fun cdv A out s H vs Q E gu hr h => ?_)
  · obtain ⟨m, v, c, b, n, kk, i, j, l, x, rfl, _⟩ := h
    rfl
  · obtain ⟨m, v, c, b, n, kk, i, j, l, x, rfl, hok, hv, hc, hb, hl, hx, k⟩ := h
    obtain ⟨q, v1, v2, v3, rfl, hq, h1, h2, h3⟩ := dp_chain hv
    obtain ⟨q2, w2, rfl, hq2, ha2⟩ := dp_tup h2
    obtain ⟨u, hu, du⟩ := dpa_get' (i := i) ha2 (by rw [List.getElem?_map, hl]; rfl)
    refine ⟨_, (pss_one (ps_ret (pe_c c_share gu (hr.mono (by decide)) (fun σ => passN σ) (pa_cons (pe_ix (r := rIxT K) ix_tup (pe_ix (r := rIxT K) ix_tup (pv 0) pe_int (fun _ _ => rfl)) (pv 1) (fun _ _ => rfl)) (pa_cons (pv 2) pa_nil))))), ?_⟩
    walk_at "rds"
    refine r_ixT (seqT_same vw_sub hq) (atI_nat (j := 2) rfl) ?_
    walk_at "rds"
    refine r_ixT (seqT_same vw_sub hq2) (atI_nat (j := i) hu) ?_
    walk_at "rds"
    exact ⟨m, u, l, b, n, j, x, rfl, hok, du, hc.sp.lin l (List.mem_of_getElem? hl), hc.n6, hb, hx, k⟩
theorem ok_tell_share {f : Addr} {fd : FuncData} (F : Fun K "tell_share" "tell_share" s_tell_share f fd) (c_share : FnAt P w K mg base s_share 2 "_share" ["line", "place"] (spShare K)) : FG P w K mg base 3 f fd ["chain", "state", "sign"] (spTell K) := by
  refine okX F sc_tell_share (fun vs H Q E h => ?_) (fun cdv A out s H vs Q E gu hr h => ?_)
  · obtain ⟨m, v, c, b, n, kk, i, j, g, l, x, rfl, _⟩ := h
    rfl
  · obtain ⟨m, v, c, b, n, kk, i, j, g, l, x, rfl, hok, hv, hc, hb, hl, hg, hx, k⟩ := h
    obtain ⟨q, v1, v2, v3, rfl, hq, h1, h2, h3⟩ := dp_chain hv
    obtain ⟨q3, w3, rfl, hq3, ha3⟩ := dp_tup h3
    obtain ⟨u, hu, du⟩ := dpa_get' (i := i) ha3 (by rw [List.getElem?_map, hl]; rfl)
    refine ⟨_, (pss_one (ps_ret (pe_c c_share gu (hr.mono (by decide)) (fun σ => passN σ) (pa_cons (pe_ix (r := rIxT K) ix_tup (pe_ix (r := rIxT K) ix_tup (pv 0) pe_int (fun _ _ => rfl)) (pv 1) (fun _ _ => rfl)) (pa_cons (pe_m1 PySem.F.slot_str_index PySem.F.type_str_index mt_sindex (pe_ix (r := rIxT K) ix_tup (pv 0) pe_int (fun _ _ => rfl)) (pv 2)) pa_nil))))), ?_⟩
    walk_at "rds"
    refine r_ixT (seqT_same vw_sub hq) (atI_nat (j := 3) rfl) ?_
    walk_at "rds"
    refine r_ixT (seqT_same vw_sub hq3) (atI_nat (j := i) hu) ?_
    walk_at "rds"
    refine r_ixT (seqT_same vw_sub hq) (atI_nat (j := 0) rfl) ?_
    walk_at "rds"
    obtain ⟨r, hr⟩ := idx_sg hc.sg.asc hg
    refine ⟨_, _, j, r, rfl, rfl, hr, ?_⟩
    have k5 := hc.k5
    exact ⟨m, u, l, b, kk, j, x, rfl, hok, du, hc.tl.lin l (List.mem_of_getElem? hl), by omega, hb, hx, k⟩
theorem ok_is_whole (B : Blt mg) {f : Addr} {fd : FuncData} (F : Fun K "is_whole" "is_whole" s_is_whole f fd) : FG P w K mg base 1 f fd ["value"] (spWhole K) := by
  refine okX F sc_is_whole (fun vs H Q E h => ?_) (fun cdv A out s H vs Q E gu hr h => ?_)
  · obtain ⟨v, t, rfl, _⟩ := h
    rfl
  · obtain ⟨v, t, rfl, ht, hk, k⟩ := h
    refine ⟨_, (pss_one (ps_ret (pe_and (pe_callB (r := rIsi K) call_isi (by rfl) B.isinstance (by decide +kernel) (pa_cons (pv 0) (pa_cons (pe_bltn (v := .ty "int") (u := .type "int") rfl B.int (by decide +kernel) rfl) pa_nil))) (pe_one (pe_not (pe_callB (r := rIsi K) call_isi (by rfl) B.isinstance (by decide +kernel) (pa_cons (pv 0) (pa_cons (pe_bltn (v := .ty "bool") (u := .type "bool") rfl B.bool (by decide +kernel) rfl) pa_nil)))))))), ?_⟩
    walk_at "rds"
    refine whole_go ht hk k fun c h => ?_
    walk_at "rds"
    exact h
theorem ok_is_line (B : Blt mg) {f : Addr} {fd : FuncData} (F : Fun K "_is_line" "_is_line" s_is_line f fd) (c_is_whole : FnAt P w K mg base s_is_whole 1 "is_whole" ["value"] (spWhole K)) : FG P w K mg base 2 f fd ["value"] (spIsLine0 K) := by
  refine okX F sc_is_line (fun vs H Q E h => ?_) (fun cdv A out s H vs Q E gu hr h => ?_)
  · obtain ⟨m, v, ns, b, n, rfl, _⟩ := h
    rfl
  · obtain ⟨m, v, ns, b, n, rfl, hok, hv, hl, n6, k⟩ := h
    obtain ⟨q, rfl, hq⟩ := dp_line hv
    have hu := hu_of hr
    refine ⟨_, (pss_cons (ps_if (pt_not (pt_val (pe_callB (r := rIsi K) call_isi (by rfl) B.isinstance (by decide +kernel) (pa_cons (pv 0) (pa_cons (pe_bltn (v := .ty "tuple") (u := .type "tuple") rfl B.tuple (by decide +kernel) rfl) pa_nil))))) (pss_one (ps_ret pe_bl)) pss_nil)
      (pss_one (ps_ret (pe_and (pe_callB (r := rAll K) (cr_all rfl) (by rfl) B.all (by decide +kernel) (pa_cons (pe_lc (own := [("item", 1)]) (g := (gName 1)) (tt := tYes) rfl sc_is_line.nd (pi_tup (pv 0)) (blkOk_by (own := [("item", 1)]) (N := ["value", "item"]) (sc := defScope s_is_line) (by decide +kernel)) (fun _ _ _ _ _ => (pg_name (i := 1) sc_is_line.nd rfl (.inl rfl))) (fun _ _ _ _ _ => pts_nil) (fun _ _ _ _ _ => (pe_and (pe_c c_is_whole gu (hr.mono (by decide)) (fun σ => passN σ) (pa_cons (pv 1) pa_nil)) (pe_one (pe_cmpR op_ge (pv 1) pe_int (nomark _)))))) pa_nil)) (pe_one (pe_cmpR op_gt (pe_callB (r := rSumT K) (cr_sumT rfl) (by rfl) B.sum (by decide +kernel) (pa_cons (pv 0) pa_nil)) pe_int (nomark _))))))), ?_⟩
    walk_at "rds"
    refine r_isi (tyT (seqT_same vw_sub hq)) (k := true) (by decide +kernel) ?_
    walk_at "rds"
    refine r_no rfl ?_
    walk_at "rds"
    refine r_tk (seqT_same vw_sub hq) ?_
    refine r_lcVT (K := K) m hok hq (by rw [List.length_map, hl.len]; omega) (fun i x => x = .bool true) (fun E i v0 H' S hi g okE old kq => ?_) (fun E H' acc xs g hE hE' da hlen hR => ?_)
    · rw [List.getElem?_map] at hi
      cases e : ns[i]? with
      | none => rw [e] at hi; cases hi
      | some z =>
        rw [e] at hi
        cases hi
        have z0 := (hl.bd z (List.mem_of_getElem? e)).1
        walk_at "rds"
        refine ⟨.int z, "int", rfl, .base (.int z), by decide, ?_⟩
        refine r_av (fun _ => ?_) (fun c => by cases c)
        walk_at "rds"
        refine kq _ _ (.bool true) (.refl okE) ?_ rfl
        rw [show (decide (z ≥ 0)) = true from decide_eq_true z0]
        exact .bl true
    · have hx := bools_by (f := fun _ => true) hlen hR
      subst hx
      rw [dpa_bools da] at hE'
      refine r_all (SqL.of hE') ?_
      have ev : List.all (List.map (fun _ => true) (List.range (List.map V.int ns).length)) id = true := by rw [List.all_map]; exact List.all_eq_true.mpr fun _ _ => rfl
      rw [ev]
      refine r_av (fun _ => ?_) (fun c => by cases c)
      walk_at "rds"
      refine r_sumT (.inr (seqT_same (g.vw.trans vw_sub) hq)) ?_
      walk_at "rds"
      rw [show (decide (ns.sum > 0)) = true from decide_eq_true hl.sum]
      exact k _ g
theorem ok_ascends (B : Blt mg) {f : Addr} {fd : FuncData} (F : Fun K "ascends" "ascends" s_ascends f fd) : FG P w K mg base 1 f fd ["items"] spSigns0 := by
  refine okX F sc_ascends (fun vs H Q E h => ?_) (fun cdv A out s H vs Q E gu hr h => ?_)
  · obtain ⟨m, z, k, rfl, _⟩ := h
    rfl
  · obtain ⟨m, z, kk, rfl, hok, hz, k1, k5, k⟩ := h
    have hu := hu_of hr
    have sz : z.length = kk := by have := hz.len; simp at this; exact this
    have s1 := sizeLine_eq
    refine ⟨_, (pss_one (ps_ret (pe_callB (r := rAll K) (cr_all rfl) (by rfl) B.all (by decide +kernel) (pa_cons (pe_lc (own := [("one", 1), ("other", 2)]) (g := (gTup K 2 (gCons (gName 1) (gCons (gName 2) gNil)))) (tt := tYes) rfl sc_ascends.nd (pi_zipQ (by rfl) B.zip (pa_cons (pv 0) (pa_cons (pe_slice sl_str (pv 0) (po_some pe_int) po_none) pa_nil))) (blkOk_by (own := [("one", 1), ("other", 2)]) (N := ["items", "one", "other"]) (sc := defScope s_ascends) (by decide +kernel)) (fun _ _ _ _ _ => (pg_tup rfl (pgs_cons (pg_name (i := 1) sc_ascends.nd rfl (.inl rfl)) (pgs_cons (pg_name (i := 2) sc_ascends.nd rfl (.inl rfl)) pgs_nil)))) (fun _ _ _ _ _ => pts_nil) (fun _ _ _ _ _ => (pe_cmpR op_lt_str (pv 1) (pv 2) (nomark _)))) pa_nil)))), ?_⟩
    walk_at "rds"
    refine ⟨z, rfl, by omega, ?_⟩
    have l1 : (cutS z (some 1) none).cps.toList = z.cps.toList.drop 1 := cutS_from z 1
    refine r_zk (.str z) (.str (cutS z (some 1) none)) (xs := z.cps.toList.map fun c => V.str ⟨#[c]⟩) (ys := (z.cps.toList.drop 1).map fun c => V.str ⟨#[c]⟩) rfl (by show _ = _; rw [l1]) ?_
    refine r_lcZ (fun E i H2 => Go m H H2 ∧ H2 E = some (.lst (List.replicate i (.bl true)))) (fun E hE => ⟨(Go.refl hok).mut hok hE, upd_same⟩) (fun E i H2 hE hi p => ⟨rfl, by show _ = _; rw [l1]⟩) (fun E i p x y H2 hE hx hy hp pv => ?_) (fun E H2 hE pv => ?_)
    · obtain ⟨g2, e2⟩ := pv
      rw [List.getElem?_map] at hx hy
      have nE : E ≠ p := ne_of_none e2 hp
      cases ex : z.cps.toList[i]? with
      | none => rw [ex] at hx; cases hx
      | some a =>
        rw [ex] at hx
        cases hx
        rw [List.getElem?_drop] at hy
        cases ey : z.cps.toList[1 + i]? with
        | none => rw [ey] at hy; cases hy
        | some b =>
          rw [ey] at hy
          cases hy
          have lt : a < b := by
            obtain ⟨la, ea⟩ := List.getElem?_eq_some_iff.mp ex
            obtain ⟨lb, eb⟩ := List.getElem?_eq_some_iff.mp ey
            have := List.pairwise_iff_getElem.mp hz.asc i (1 + i) la lb (by omega)
            rw [ea, eb] at this
            exact this
          refine r_gtup (SqT.of upd_same) rfl ?_
          walk_at "rds"
          refine r_wk rfl (r_yesT (r_ck1 ?_))
          walk_at "rds"
          refine ⟨_, _, rfl, rfl, ?_⟩
          have e1 : decide ((⟨#[a]⟩ : Str).cps.toList < (⟨#[b]⟩ : Str).cps.toList) = true := by
            show decide ([a] < [b]) = true
            exact decide_eq_true (by rw [List.cons_lt_cons_iff]; exact .inl lt)
          rw [e1]
          refine r_ap (acc := List.replicate i (.bl true)) (by rw [upd_ne nE]; exact e2) ?_ ⟨(g2.trans (.new g2.ok hp)).mut hok hE, ?_⟩
          · rw [List.length_replicate]
            have := (List.getElem?_eq_some_iff.mp ex).1
            rw [hz.len] at this
            omega
          · rw [upd_same, List.replicate_succ']
    · obtain ⟨g2, e2⟩ := pv
      refine ⟨E, List.replicate _ true, rfl, SqL.of (by rw [List.map_replicate]; exact e2), ?_⟩
      have : (List.replicate (min (z.cps.toList.map fun c => V.str ⟨#[c]⟩).length ((z.cps.toList.drop 1).map fun c => V.str ⟨#[c]⟩).length) true).all id = true := by
        rw [List.all_eq_true]
        intro x hx
        rw [(List.mem_replicate.mp hx).2]
        rfl
      rw [this]
      exact k _ g2
theorem ok_are_signs (B : Blt mg) {tS : Tok} (c_ascends : FnAt P w K mg base s_ascends 1 "ascends" ["items"] spSigns0) (M_MAX_SIGNS : mg "MAX_SIGNS" = some (.int 5 tS)) {f : Addr} {fd : FuncData} (F : Fun K "are_signs" "are_signs" s_are_signs f fd) : FG P w K mg base 2 f fd ["value"] spSigns0 := by
  refine okX F sc_are_signs (fun vs H Q E h => ?_) (fun cdv A out s H vs Q E gu hr h => ?_)
  · obtain ⟨m, z, k, rfl, _⟩ := h
    rfl
  · obtain ⟨m, z, kk, rfl, hok, hz, k1, k5, k⟩ := h
    have hu := hu_of hr
    have sz : z.length = kk := by have := hz.len; simp at this; exact this
    have s1 := sizeLine_eq
    refine ⟨_, (pss_cons (ps_if (PW.pt (pw_or (pt_not (pt_val (pe_callB (r := rIsi K) call_isi (by rfl) B.isinstance (by decide +kernel) (pa_cons (pv 0) (pa_cons (pe_bltn (v := .ty "str") (u := .type "str") rfl B.str (by decide +kernel) rfl) pa_nil))))) (pw_or1 (pt_not (pt_chain op_le op_le pe_int (pe_callB call_len_str (by rfl) B.len (by decide +kernel) (pa_cons (pv 0) pa_nil)) (pe_glob (v := .int 5) rfl M_MAX_SIGNS ⟨_, rfl⟩)))))) (pss_one (ps_ret pe_bl)) pss_nil)
      (pss_one (ps_ret (pe_and (pe_callB (r := rAll K) (cr_all rfl) (by rfl) B.all (by decide +kernel) (pa_cons (pe_lc (own := [("sign", 1)]) (g := (gName 1)) (tt := tYes) rfl sc_are_signs.nd (pi_str (pv 0)) (blkOk_by (own := [("sign", 1)]) (N := ["value", "sign"]) (sc := defScope s_are_signs) (by decide +kernel)) (fun _ _ _ _ _ => (pg_name (i := 1) sc_are_signs.nd rfl (.inl rfl))) (fun _ _ _ _ _ => pts_nil) (fun _ _ _ _ _ => (pe_chain op_le_str op_le_str pe_str (pv 1) pe_str))) pa_nil)) (pe_one (pe_c c_ascends gu (hr.mono (by decide)) (fun σ => passN σ) (pa_cons (pv 0) pa_nil))))))), ?_⟩
    walk_at "rds"
    refine r_isi (.base (.str z)) (k := true) (by decide +kernel) ?_
    walk_at "rds"
    refine r_ork (fun c => by cases c) (fun _ => ?_)
    walk_at "rds"
    refine ⟨z, rfl, by omega, ?_⟩
    walk_at "rds"
    rw [show (decide ((1 : Int) ≤ (z.length : Int))) = true from decide_eq_true (by omega)]
    refine r_chk (fun _ => ?_) (fun c => by cases c)
    walk_at "rds"
    rw [show (decide ((z.length : Int) ≤ 5)) = true from decide_eq_true (by omega)]
    walk_at "rds"
    refine r_no rfl ?_
    walk_at "rds"
    refine r_lcVS (K := K) m hok (by rw [hz.len]; omega) (fun i x => x = .bool true) (fun E i c H' S hi g okE old kq => ?_) (fun E H' acc xs g hE hE' da hlen hR => ?_)
    · have hc := hz.let_ c (List.mem_of_getElem? hi)
      walk_at "rds"
      refine ⟨_, _, rfl, rfl, ?_⟩
      have e1 : (!decide ((sg1 c).cps.toList < (Str.ofString "a").cps.toList)) = true := by
        have : ¬ ([c] < [97]) := by rw [List.cons_lt_cons_iff]; rintro (h | ⟨_, h⟩); · omega
                                    · exact absurd h (by decide)
        rw [show (sg1 c).cps.toList = [c] from rfl, show (Str.ofString "a").cps.toList = [97] by decide +kernel, decide_eq_false this]; rfl
      have e2 : (!decide ((Str.ofString "z").cps.toList < (sg1 c).cps.toList)) = true := by
        have : ¬ ([122] < [c]) := by rw [List.cons_lt_cons_iff]; rintro (h | ⟨_, h⟩); · omega
                                     · exact absurd h (by decide)
        rw [show (sg1 c).cps.toList = [c] from rfl, show (Str.ofString "z").cps.toList = [122] by decide +kernel, decide_eq_false this]; rfl
      refine r_chk (fun _ => ?_) (fun c2 => by rw [e1] at c2; cases c2)
      walk_at "rds"
      refine ⟨_, _, rfl, rfl, ?_⟩
      rw [e2]
      exact kq _ _ (.bool true) (.refl okE) (.bl true) rfl
    · have hx := bools_by (f := fun _ => true) hlen hR
      subst hx
      rw [dpa_bools da] at hE'
      refine r_all (SqL.of hE') ?_
      have ev : ∀ n : Nat, List.all (List.map (fun _ => true) (List.range n)) id = true := fun n => by rw [List.all_map]; exact List.all_eq_true.mpr fun _ _ => rfl
      rw [ev]
      refine r_av (fun _ => ?_) (fun c => by cases c)
      walk_at "rds"
      exact ⟨m, z, kk, rfl, g.ok, hz, k1, k5, fun H2 g2 => k _ (g.trans g2)⟩
theorem ok_lines_error (B : Blt mg) {f : Addr} {fd : FuncData} (F : Fun K "_lines_error" "_lines_error" s_lines_error f fd) (c_is_line : FnAt P w K mg base s_is_line 2 "_is_line" ["value"] (spIsLine0 K)) : FG P w K mg base 3 f fd ["value", "word", "states", "width"] (spLines0 K) := by
  refine okX F sc_lines_error (fun vs H Q E h => ?_) (fun cdv A out s H vs Q E gu hr h => ?_)
  · obtain ⟨m, v, ls, b, r, n, wd, rfl, _⟩ := h
    rfl
  · obtain ⟨m, v, ls, b, r, n, wd, rfl, hok, hv, hm, r6, n6, k⟩ := h
    obtain ⟨q, ws, rfl, hq, ha⟩ := dp_tup hv
    have lw : ws.length = r := by rw [dpa_len ha, List.length_map]; exact hm.len
    have hu := hu_of hr
    refine ⟨_, (pss_cons (ps_if (PW.pt (pw_or (pt_not (pt_val (pe_callB (r := rIsi K) call_isi (by rfl) B.isinstance (by decide +kernel) (pa_cons (pv 0) (pa_cons (pe_bltn (v := .ty "tuple") (u := .type "tuple") rfl B.tuple (by decide +kernel) rfl) pa_nil))))) (pw_or1 (pt_cmpR op_ne (pe_callB (r := VB.rLen K) cl_len (by rfl) B.len (by decide +kernel) (pa_cons (pv 0) pa_nil)) (pv 2) (nomark _))))) (pss_one (ps_ret (pv 1))) pss_nil)
      (pss_cons (ps_for (passes_of rfl) rfl (pi_enumQ (by rfl) B.enumerate (pa_cons (pv 0) pa_nil)) (pg_tup rfl (pgs_cons (pg_name (i := 4) sc_lines_error.nd rfl (.inl rfl)) (pgs_cons (pg_name (i := 5) sc_lines_error.nd rfl (.inl rfl)) pgs_nil)))
        (pss_one (ps_if (PW.pt (pw_or (pt_not (pt_val (pe_c c_is_line gu (hr.mono (by decide)) (fun σ => passN σ) (pa_cons (pv 5) pa_nil)))) (pw_or1 (pt_cmpR op_ne (pe_callB (r := VB.rLen K) cl_len (by rfl) B.len (by decide +kernel) (pa_cons (pv 5) pa_nil)) (pv 3) (nomark _))))) (pss_one (ps_ret (pe_tup (pa_cons (pv 1) (pa_cons (pv 4) pa_nil))))) pss_nil)))
      (pss_one (ps_ret pe_non)))), ?_⟩
    walk_at "rds"
    refine r_isi (tyT (seqT_same vw_sub hq)) (k := true) (by decide +kernel) ?_
    walk_at "rds"
    refine r_ork (fun c => by cases c) (fun _ => ?_)
    walk_at "rds"
    refine r_len (.inr (seqT_same vw_sub hq)) ?_
    rw [lw]
    walk_at "rds"
    refine r_no (by simp) ?_
    walk_at "rds"
    refine r_nk (.tup q) (xs := ws) (seqT_same vw_sub hq) ?_
    refine r_forN (fun i σ H' => ∃ y z : Option V, σ = [some (.ref q), some (.str wd), some (.int (r : Int)), some (.int (n : Int)), y, z] ∧ Go m H H') ⟨_, _, rfl, .refl hok⟩ (fun i σ H' _ h => ?_) (fun i p x σ H' hx hp h => ?_) (fun σ H' h => ?_)
    · obtain ⟨_, _, _, g⟩ := h
      exact seqT_same (g.vw.trans vw_sub) hq
    · obtain ⟨y, z, rfl, g⟩ := h
      obtain ⟨d0, hd, dx⟩ := dpa_get ha hx
      rw [List.getElem?_map] at hd
      cases e : ls[i]? with
      | none => rw [e] at hd; cases hd
      | some l0 =>
        rw [e] at hd
        cases hd
        have g1 := g.trans (.new (o := .tup [.int (i : Int), x]) g.ok hp)
        have hl0 := hm.lin l0 (List.mem_of_getElem? e)
        refine r_gtup (SqT.of upd_same) rfl ?_
        walk_at "rds"
        refine ⟨m, x, l0, b, n, rfl, g1.ok, dx.mv g1.vw, hl0, n6, fun H2 g2 => ?_⟩
        have g12 := g1.trans g2
        walk_at "rds"
        refine r_ork (fun c => by cases c) (fun _ => ?_)
        obtain ⟨q0, rfl, hq0⟩ := dp_line dx
        walk_at "rds"
        refine r_len (.inr (seqT_same (g12.vw.trans vw_sub) hq0)) ?_
        rw [List.length_map, hl0.len]
        walk_at "rds"
        refine r_no (by simp) ?_
        walk_at "rds"
        exact ⟨_, _, rfl, g12⟩
    · obtain ⟨y, z, rfl, g⟩ := h
      walk_at "rds"
      exact k _ g
theorem ok_chain_error (B : Blt mg) {tS : Tok} (M_MAX_STATES : mg "MAX_STATES" = some (.int 6 tS)) {f : Addr} {fd : FuncData} (F : Fun K "chain_error" "chain_error" s_chain_error f fd) (c_is_line : FnAt P w K mg base s_is_line 2 "_is_line" ["value"] (spIsLine0 K))
    (c_are_signs : FnAt P w K mg base s_are_signs 2 "are_signs" ["value"] spSigns0) (c_lines_error : FnAt P w K mg base s_lines_error 3 "_lines_error" ["value", "word", "states", "width"] (spLines0 K)) : FG P w K mg base 4 f fd ["value"] (spNoErr K) := by
  refine okX F sc_chain_error (fun vs H Q E h => ?_) (fun cdv A out s H vs Q E gu hr h => ?_)
  · obtain ⟨m, v, c, b, n, kk, rfl, _⟩ := h
    rfl
  · obtain ⟨m, v, c, b, n, kk, rfl, hok, hv, hc, k⟩ := h
    obtain ⟨q, v1, v2, v3, rfl, hq, h1, h2, h3⟩ := dp_chain hv
    obtain ⟨q1, rfl, hq1⟩ := dp_line h1
    have n6 := hc.n6
    have k5 := hc.k5
    have hu := hu_of hr
    have sz : c.sg.length = kk := by have := hc.sg.len; simp at this; exact this
    have s1 := sizeLine_eq
    refine ⟨_, (pss_cons (ps_if (PW.pt (pw_or (pt_not (pt_val (pe_callB (r := rIsi K) call_isi (by rfl) B.isinstance (by decide +kernel) (pa_cons (pv 0) (pa_cons (pe_bltn (v := .ty "tuple") (u := .type "tuple") rfl B.tuple (by decide +kernel) rfl) pa_nil))))) (pw_or1 (pt_cmpR op_ne (pe_callB (r := VB.rLen K) cl_len (by rfl) B.len (by decide +kernel) (pa_cons (pv 0) pa_nil)) pe_int (nomark _))))) (pss_one (ps_ret pe_str)) pss_nil)
      (pss_cons (ps_asg (pv 0) (pg_tup rfl (pgs_cons (pg_name (i := 1) sc_chain_error.nd rfl (.inl rfl)) (pgs_cons (pg_name (i := 2) sc_chain_error.nd rfl (.inl rfl)) (pgs_cons (pg_name (i := 3) sc_chain_error.nd rfl (.inl rfl)) (pgs_cons (pg_name (i := 4) sc_chain_error.nd rfl (.inl rfl)) pgs_nil))))))
      (pss_cons (ps_if (pt_not (pt_val (pe_c c_are_signs gu (hr.mono (by decide)) (fun σ => passN σ) (pa_cons (pv 1) pa_nil)))) (pss_one (ps_ret pe_str)) pss_nil)
      (pss_cons (ps_if (PW.pt (pw_or (pt_not (pt_val (pe_c c_is_line gu (hr.mono (by decide)) (fun σ => passN σ) (pa_cons (pv 2) pa_nil)))) (pw_or1 (pt_cmpR op_gt (pe_callB (r := VB.rLen K) cl_len (by rfl) B.len (by decide +kernel) (pa_cons (pv 2) pa_nil)) (pe_glob (v := .int 6) rfl M_MAX_STATES ⟨_, rfl⟩) (nomark _))))) (pss_one (ps_ret pe_str)) pss_nil)
      (pss_cons (ps_set (i := 5) sc_chain_error.nd rfl (.inl rfl) (pe_c c_lines_error gu (hr.mono (by decide)) (fun σ => passN σ) (pa_cons (pv 3) (pa_cons pe_str (pa_cons (pe_callB (r := VB.rLen K) cl_len (by rfl) B.len (by decide +kernel) (pa_cons (pv 2) pa_nil)) (pa_cons (pe_callB (r := VB.rLen K) cl_len (by rfl) B.len (by decide +kernel) (pa_cons (pv 2) pa_nil)) pa_nil))))))
      (pss_cons (ps_if (pt_cmpR op_isN (pv 5) pe_non (nomark _)) (pss_one (ps_set (i := 5) sc_chain_error.nd rfl (.inl rfl) (pe_c c_lines_error gu (hr.mono (by decide)) (fun σ => passN σ) (pa_cons (pv 4) (pa_cons pe_str (pa_cons (pe_callB (r := VB.rLen K) cl_len (by rfl) B.len (by decide +kernel) (pa_cons (pv 2) pa_nil)) (pa_cons (pe_callB call_len_str (by rfl) B.len (by decide +kernel) (pa_cons (pv 1) pa_nil)) pa_nil))))))) pss_nil)
      (pss_one (ps_ret (pv 5))))))))), ?_⟩
    walk_at "rds"
    refine r_isi (tyT (seqT_same vw_sub hq)) (k := true) (by decide +kernel) ?_
    walk_at "rds"
    refine r_ork (fun c => by cases c) (fun _ => ?_)
    walk_at "rds"
    refine r_len (.inr (seqT_same vw_sub hq)) ?_
    walk_at "rds"
    refine r_no rfl ?_
    walk_at "rds"
    refine r_gtup (seqT_same vw_sub hq) rfl ?_
    walk_at "rds"
    refine ⟨m, c.sg, kk, rfl, hok, hc.sg, hc.k1, k5, fun H1 g1 => ?_⟩
    walk_at "rds"
    refine r_no rfl ?_
    walk_at "rds"
    refine ⟨m, .ref q1, c.st, b, n, rfl, g1.ok, h1.mv g1.vw, hc.st, n6, fun H2 g2 => ?_⟩
    have g12 := g1.trans g2
    walk_at "rds"
    refine r_ork (fun c => by cases c) (fun _ => ?_)
    walk_at "rds"
    refine r_len (.inr (seqT_same (g12.vw.trans vw_sub) hq1)) ?_
    rw [List.length_map, hc.st.len]
    walk_at "rds"
    refine r_no (decide_eq_false (by omega)) ?_
    walk_at "rds"
    refine r_len (.inr (seqT_same (g12.vw.trans vw_sub) hq1)) ?_
    rw [List.length_map, hc.st.len]
    walk_at "rds"
    refine r_len (.inr (seqT_same (g12.vw.trans vw_sub) hq1)) ?_
    rw [List.length_map, hc.st.len]
    walk_at "rds"
    refine ⟨m, v2, c.sp, b, n, n, _, rfl, g12.ok, h2.mv g12.vw, hc.sp, n6, n6, fun H3 g3 => ?_⟩
    have g123 := g12.trans g3
    walk_at "rds"
    refine ⟨rfl, ?_⟩
    walk_at "rds"
    refine r_yes rfl ?_
    walk_at "rds"
    refine r_len (.inr (seqT_same (g123.vw.trans vw_sub) hq1)) ?_
    rw [List.length_map, hc.st.len]
    walk_at "rds"
    refine ⟨c.sg, rfl, by omega, ?_⟩
    rw [sz]
    walk_at "rds"
    refine ⟨m, v3, c.tl, b, n, kk, _, rfl, g123.ok, h3.mv g123.vw, hc.tl, n6, by omega, fun H4 g4 => ?_⟩
    walk_at "rds"
    exact k _ (g123.trans g4)
theorem ok_law_are_shares (B : Blt mg) {f : Addr} {fd : FuncData} (F : Fun K "_law_are_shares" "_law_are_shares" s_law_are_shares f fd) (c_law_draw : FnAt P w K mg base s_law_draw 1 "_law_draw" ["deck", "many"] spDraw)
    (c_law_low : FnAt P w K mg base s_law_low 2 "_law_low" ["a", "b"] spLow) (c_start_share : FnAt P w K mg base s_start_share 3 "start_share" ["chain", "state"] (spStart K))
    (c_step_share : FnAt P w K mg base s_step_share 3 "step_share" ["chain", "one", "other"] (spStep K)) (c_tell_share : FnAt P w K mg base s_tell_share 3 "tell_share" ["chain", "state", "sign"] (spTell K)) :
    FG P w K mg base 4 f fd ["deck", "chain", "due"] (spAreShares K) := by
  refine okX F sc_law_are_shares (fun vs H Q E h => ?_) (fun cdv A out s H vs Q E gu hr h => ?_)
  · obtain ⟨m, d, l, v, u, c, e, b, n, kk, rfl, _⟩ := h
    rfl
  · obtain ⟨m, d, l, v, u, c, e, b, n, kk, rfl, hdk, hok, hv, hu_, hc, he, hb, ce, k⟩ := h
    obtain ⟨q, v1, v2, v3, rfl, hq, h1, h2, h3⟩ := dp_chain hu_
    obtain ⟨q1, rfl, hq1⟩ := dp_line h1
    obtain ⟨q2, w2, rfl, hq2, ha2⟩ := dp_tup h2
    obtain ⟨q3, w3, rfl, hq3, ha3⟩ := dp_tup h3
    have n1 := he.n1
    have n6 := he.n6
    have k1 := he.k1
    have k5 := he.k5
    have hu := hu_of hr
    have s1 := sizeLine_eq
    have sz : e.sg.length = kk := by have := he.sg.len; simp at this; exact this
    refine ⟨_, (pss_cons (ps_asg (pv 2) (pg_tup rfl (pgs_cons (pg_name (i := 3) sc_law_are_shares.nd rfl (.inl rfl)) (pgs_cons (pg_name (i := 4) sc_law_are_shares.nd rfl (.inl rfl)) (pgs_cons (pg_name (i := 5) sc_law_are_shares.nd rfl (.inl rfl)) (pgs_cons (pg_name (i := 6) sc_law_are_shares.nd rfl (.inl rfl)) pgs_nil))))))
      (pss_cons (ps_for (passes_of rfl) rfl (pi_range1 rfl B.range (pa_cons pe_int pa_nil)) (pg_name (i := 7) sc_law_are_shares.nd rfl (.inl rfl))
        (pss_cons (ps_par3 (i := 8) (j := 9) (l := 10) (by rfl) sc_law_are_shares.nd rfl rfl rfl (by decide) (by decide) (by decide) rfl rfl rfl (pa_cons (pe_c c_law_draw gu (hr.mono (by decide)) (fun σ => passN σ) (pa_cons (pv 0) (pa_cons (pe_callB (r := VB.rLen K) cl_len (by rfl) B.len (by decide +kernel) (pa_cons (pv 4) pa_nil)) pa_nil))) (pa_cons (pe_c c_law_draw gu (hr.mono (by decide)) (fun σ => passN σ) (pa_cons (pv 0) (pa_cons (pe_callB (r := VB.rLen K) cl_len (by rfl) B.len (by decide +kernel) (pa_cons (pv 4) pa_nil)) pa_nil))) (pa_cons (pe_c c_law_draw gu (hr.mono (by decide)) (fun σ => passN σ) (pa_cons (pv 0) (pa_cons (pe_callB call_len_str (by rfl) B.len (by decide +kernel) (pa_cons (pv 3) pa_nil)) pa_nil))) pa_nil))) (by rfl))
      (pss_cons (ps_set (i := 11) sc_law_are_shares.nd rfl (.inl rfl) (pe_lst (pa_cons (pe_c c_law_low gu (hr.mono (by decide)) (fun σ => passN σ) (pa_cons (pe_ix (r := rIxT K) ix_tup (pv 4) (pv 8) (fun _ _ => rfl)) (pa_cons (pe_callB (r := rSumT K) (cr_sumT rfl) (by rfl) B.sum (by decide +kernel) (pa_cons (pv 4) pa_nil)) pa_nil))) (pa_cons (pe_c c_law_low gu (hr.mono (by decide)) (fun σ => passN σ) (pa_cons (pe_ix (r := rIxT K) ix_tup (pe_ix (r := rIxT K) ix_tup (pv 5) (pv 8) (fun _ _ => rfl)) (pv 9) (fun _ _ => rfl)) (pa_cons (pe_callB (r := rSumT K) (cr_sumT rfl) (by rfl) B.sum (by decide +kernel) (pa_cons (pe_ix (r := rIxT K) ix_tup (pv 5) (pv 8) (fun _ _ => rfl)) pa_nil)) pa_nil))) pa_nil))))
      (pss_cons (ps_expr (pe_bm PySem.F.plainAttrs_list PySem.F.slot_list_append PySem.F.type_list_append mt_append (pv 11) (pa_cons (pe_c c_law_low gu (hr.mono (by decide)) (fun σ => passN σ) (pa_cons (pe_ix (r := rIxT K) ix_tup (pe_ix (r := rIxT K) ix_tup (pv 6) (pv 9) (fun _ _ => rfl)) (pv 10) (fun _ _ => rfl)) (pa_cons (pe_callB (r := rSumT K) (cr_sumT rfl) (by rfl) B.sum (by decide +kernel) (pa_cons (pe_ix (r := rIxT K) ix_tup (pv 6) (pv 9) (fun _ _ => rfl)) pa_nil)) pa_nil))) pa_nil)))
      (pss_cons (ps_set (i := 12) sc_law_are_shares.nd rfl (.inl rfl) (pe_lst (pa_cons (pe_c c_start_share gu (hr.mono (by decide)) (fun σ => passN σ) (pa_cons (pv 1) (pa_cons (pv 8) pa_nil))) (pa_cons (pe_c c_step_share gu (hr.mono (by decide)) (fun σ => passN σ) (pa_cons (pv 1) (pa_cons (pv 8) (pa_cons (pv 9) pa_nil)))) (pa_cons (pe_c c_tell_share gu (hr.mono (by decide)) (fun σ => passN σ) (pa_cons (pv 1) (pa_cons (pv 9) (pa_cons (pe_ix ix_str (pv 3) (pv 10) (fun _ _ => rfl)) pa_nil)))) pa_nil)))))
      (pss_cons (ps_if (pt_cmpR op_eq (pv 7) pe_int (nomark _)) (pss_cons (ps_set (i := 12) sc_law_are_shares.nd rfl (.inl rfl) (pe_lst (pa_cons (pe_ck0 c_start_share kw_start_share_state_chain gu (hr.mono (by decide)) (fun σ => passN σ) (pk_cons (pv 8) (pk_cons (pv 1) pk_nil))) (pa_cons (pe_ck0 c_step_share kw_step_share_other_one_chain gu (hr.mono (by decide)) (fun σ => passN σ) (pk_cons (pv 9) (pk_cons (pv 8) (pk_cons (pv 1) pk_nil)))) pa_nil))))
      (pss_one (ps_expr (pe_bm PySem.F.plainAttrs_list PySem.F.slot_list_append PySem.F.type_list_append mt_append (pv 12) (pa_cons (pe_ck0 c_tell_share kw_tell_share_sign_state_chain gu (hr.mono (by decide)) (fun σ => passN σ) (pk_cons (pe_ix ix_str (pv 3) (pv 10) (fun _ _ => rfl)) (pk_cons (pv 9) (pk_cons (pv 1) pk_nil)))) pa_nil))))) pss_nil)
      (pss_one (ps_if (pt_cmpR op_ne (pe_callB (r := rRepr K) (call_repr gu hr.units) (by rfl) B.repr (by decide +kernel) (pa_cons (pv 12) pa_nil)) (pe_callB (r := rRepr K) (call_repr gu hr.units) (by rfl) B.repr (by decide +kernel) (pa_cons (pv 11) pa_nil)) (nomark _)) (pss_one (ps_ret pe_bl)) pss_nil))))))))
      (pss_one (ps_ret pe_bl)))), ?_⟩
    walk_at "rds"
    refine r_gtup (seqT_same vw_sub hq) rfl ?_
    walk_at "rds"
    refine r_rk (by omega) (by omega) ?_
    refine r_forR (fun i σ H' => ∃ y1 y2 y3 y4 y5 y6 : Option V, σ = [some (.ref d), some v, some (.ref q), some (.str e.sg), some (.ref q1), some (.ref q2), some (.ref q3), y1, y2, y3, y4, y5, y6] ∧ Go m H H') ⟨_, _, _, _, _, _, rfl, .refl hok⟩ (fun i σ H' hi h => ?_) (fun σ H' h => ?_)
    · obtain ⟨y1, y2, y3, y4, y5, y6, rfl, g⟩ := h
      walk_at "rds"
      refine r_len (.inr (seqT_same (g.vw.trans vw_sub) hq1)) ?_
      rw [List.length_map, he.st.len]
      refine ⟨d, l, _, rfl, g.ok.dk d l hdk, log2_small (by omega), fun r1 HA aA r10 r11 => ?_⟩
      obtain ⟨i1, rfl, hi1⟩ : ∃ i : Nat, r1 = (i : Int) ∧ i < n := ⟨r1.toNat, by omega, by omega⟩
      have gA := g.trans (Go.adv hdk g.ok aA)
      walk_at "rds"
      refine r_len (.inr (seqT_same (gA.vw.trans vw_sub) hq1)) ?_
      rw [List.length_map, he.st.len]
      refine ⟨d, l, _, rfl, gA.ok.dk d l hdk, log2_small (by omega), fun r2 HB aB r20 r21 => ?_⟩
      obtain ⟨i2, rfl, hi2⟩ : ∃ i : Nat, r2 = (i : Int) ∧ i < n := ⟨r2.toNat, by omega, by omega⟩
      have gB := gA.trans (Go.adv hdk gA.ok aB)
      walk_at "rds"
      refine ⟨e.sg, rfl, by omega, ?_⟩
      rw [sz]
      refine ⟨d, l, _, rfl, gB.ok.dk d l hdk, log2_small (by omega), fun r3 HC aC r30 r31 => ?_⟩
      obtain ⟨i3, rfl, hi3⟩ : ∃ i : Nat, r3 = (i : Int) ∧ i < kk := ⟨r3.toNat, by omega, by omega⟩
      have gC := gB.trans (Go.adv hdk gB.ok aC)
      clear aA aB aC
      -- what is wanted
      obtain ⟨x1, hx1⟩ : ∃ x, e.st[i1]? = some x := ⟨_, List.getElem?_eq_getElem (by rw [he.st.len]; exact hi1)⟩
      obtain ⟨l2, hl2⟩ : ∃ x, e.sp[i1]? = some x := ⟨_, List.getElem?_eq_getElem (by rw [he.sp.len]; exact hi1)⟩
      have L2 := he.sp.lin l2 (List.mem_of_getElem? hl2)
      obtain ⟨x2, hx2⟩ : ∃ x, l2[i2]? = some x := ⟨_, List.getElem?_eq_getElem (by rw [L2.len]; exact hi2)⟩
      obtain ⟨l3, hl3⟩ : ∃ x, e.tl[i2]? = some x := ⟨_, List.getElem?_eq_getElem (by rw [he.tl.len]; exact hi2)⟩
      have L3 := he.tl.lin l3 (List.mem_of_getElem? hl3)
      obtain ⟨x3, hx3⟩ : ∃ x, l3[i3]? = some x := ⟨_, List.getElem?_eq_getElem (by rw [L3.len]; exact hi3)⟩
      obtain ⟨z1, hz1⟩ : ∃ x, c.st[i1]? = some x := ⟨_, List.getElem?_eq_getElem (by rw [hc.st.len]; exact hi1)⟩
      obtain ⟨j2, hj2⟩ : ∃ x, c.sp[i1]? = some x := ⟨_, List.getElem?_eq_getElem (by rw [hc.sp.len]; exact hi1)⟩
      have J2 := hc.sp.lin j2 (List.mem_of_getElem? hj2)
      obtain ⟨z2, hz2⟩ : ∃ x, j2[i2]? = some x := ⟨_, List.getElem?_eq_getElem (by rw [J2.len]; exact hi2)⟩
      obtain ⟨j3, hj3⟩ : ∃ x, c.tl[i2]? = some x := ⟨_, List.getElem?_eq_getElem (by rw [hc.tl.len]; exact hi2)⟩
      have J3 := hc.tl.lin j3 (List.mem_of_getElem? hj3)
      obtain ⟨z3, hz3⟩ : ∃ x, j3[i3]? = some x := ⟨_, List.getElem?_eq_getElem (by rw [J3.len]; exact hi3)⟩
      obtain ⟨sgn, hsg⟩ : ∃ x, e.sg.cps.toList[i3]? = some x := ⟨_, List.getElem?_eq_getElem (by rw [he.sg.len]; exact hi3)⟩
      have hsgc : c.sg.cps.toList[i3]? = some sgn := by rw [ce.sg]; exact hsg
      have f1 : shD z1 c.st.sum = shD x1 e.st.sum := by have := leq_low ce.st hc.st.sum he.st.sum hz1 hx1; unfold shD; rw [this.1, this.2]
      have f2 : shD z2 j2.sum = shD x2 l2.sum := by have := leq_low (ce.sp.eq i1 j2 l2 hj2 hl2) J2.sum L2.sum hz2 hx2; unfold shD; rw [this.1, this.2]
      have f3 : shD z3 j3.sum = shD x3 l3.sum := by have := leq_low (ce.tl.eq i2 j3 l3 hj3 hl3) J3.sum L3.sum hz3 hx3; unfold shD; rw [this.1, this.2]
      obtain ⟨u2, hu2, du2⟩ := dpa_get' (i := i1) ha2 (by rw [List.getElem?_map, hl2]; rfl)
      obtain ⟨u3, hu3, du3⟩ := dpa_get' (i := i2) ha3 (by rw [List.getElem?_map, hl3]; rfl)
      obtain ⟨t2, rfl, ht2⟩ := dp_line du2
      obtain ⟨t3, rfl, ht3⟩ := dp_line du3
      have s1p := he.st.sum
      have s2p := L2.sum
      have s3p := L3.sum
      have b1 := lin_sum he.st n6
      have b2 := lin_sum L2 n6
      have b3 := lin_sum L3 (by omega)
      walk_at "rds"
      refine r_ixT (seqT_same (gC.vw.trans vw_sub) hq1) (atI_nat (j := i1) (by rw [List.getElem?_map, hx1]; rfl)) ?_
      walk_at "rds"
      refine r_sumT (.inr (seqT_same (gC.vw.trans vw_sub) hq1)) ?_
      walk_at "rds"
      refine ⟨_, _, rfl, by omega, b1.mono (by omega), fun p1 hp1 => ?_⟩
      have gD := gC.trans (.new (o := .tup [.int (lowA x1 e.st.sum), .int (lowB x1 e.st.sum)]) gC.ok hp1)
      have dp1 : Dp K (vw m (upd HC p1 (.tup [.int (lowA x1 e.st.sum), .int (lowB x1 e.st.sum)]))) (.ref p1) (shD x1 e.st.sum) := .tup (SqT.of (vw_new gC.ok hp1)) (.cons (.int _) (.cons (.int _) .nil))
      generalize upd HC p1 (.tup [.int (lowA x1 e.st.sum), .int (lowB x1 e.st.sum)]) = HD at gD dp1
      walk_at "rds"
      refine r_ixT (seqT_same (gD.vw.trans vw_sub) hq2) (atI_nat (j := i1) hu2) ?_
      walk_at "rds"
      refine r_ixT (seqT_same (gD.vw.trans vw_sub) ht2) (atI_nat (j := i2) (by rw [List.getElem?_map, hx2]; rfl)) ?_
      walk_at "rds"
      refine r_ixT (seqT_same (gD.vw.trans vw_sub) hq2) (atI_nat (j := i1) hu2) ?_
      walk_at "rds"
      refine r_sumT (.inr (seqT_same (gD.vw.trans vw_sub) ht2)) ?_
      walk_at "rds"
      refine ⟨_, _, rfl, by omega, b2.mono (by omega), fun p2 hp2 => ?_⟩
      have gE0 : Go m HD (upd HD p2 (.tup [.int (lowA x2 l2.sum), .int (lowB x2 l2.sum)])) := .new gD.ok hp2
      have gE := gD.trans gE0
      have dp2 : Dp K (vw m (upd HD p2 (.tup [.int (lowA x2 l2.sum), .int (lowB x2 l2.sum)]))) (.ref p2) (shD x2 l2.sum) := .tup (SqT.of (vw_new gD.ok hp2)) (.cons (.int _) (.cons (.int _) .nil))
      have dp1 := dp1.mv gE0.vw
      generalize upd HD p2 (.tup [.int (lowA x2 l2.sum), .int (lowB x2 l2.sum)]) = HE at gE gE0 dp1 dp2
      walk_at "rds"
      refine r_newL (by simp) fun W hW => ?_
      have offW : m.off W := gE.ok.off hW
      have gF0 : Go m HE (upd HE W (.lst [.ref p1, .ref p2])) := .new gE.ok hW
      have gF := gE.trans gF0
      have oW := gF0.old hW
      have dp1 := dp1.mv oW
      have dp2 := dp2.mv oW
      have eW : upd HE W (.lst [.ref p1, .ref p2]) W = some (.lst [.ref p1, .ref p2]) := upd_same
      have hW0 : H W = none := gE.free hW
      have okF : Ok (m.add W) (upd HE W (.lst [.ref p1, .ref p2])) := gF.ok.add (by rw [eW]; intro z; cases z)
      have oldW : Same (vw m H) (vw (m.add W) (upd HE W (.lst [.ref p1, .ref p2]))) := gF.old hW0
      generalize upd HE W (.lst [.ref p1, .ref p2]) = HF at gF gF0 dp1 dp2 eW okF oldW
      walk_at "rds"
      refine r_tyL eW ?_
      walk_at "rds"
      refine r_ixT (seqT_same (gF.vw.trans vw_sub) hq3) (atI_nat (j := i2) hu3) ?_
      walk_at "rds"
      refine r_ixT (seqT_same (gF.vw.trans vw_sub) ht3) (atI_nat (j := i3) (by rw [List.getElem?_map, hx3]; rfl)) ?_
      walk_at "rds"
      refine r_ixT (seqT_same (gF.vw.trans vw_sub) hq3) (atI_nat (j := i2) hu3) ?_
      walk_at "rds"
      refine r_sumT (.inr (seqT_same (gF.vw.trans vw_sub) ht3)) ?_
      walk_at "rds"
      refine ⟨_, _, rfl, by omega, b3.mono (by omega), fun p3 hp3 => ?_⟩
      have gG0 : Go (m.add W) HF (upd HF p3 (.tup [.int (lowA x3 l3.sum), .int (lowB x3 l3.sum)])) := .new okF hp3
      have dp3 : Dp K (vw (m.add W) (upd HF p3 (.tup [.int (lowA x3 l3.sum), .int (lowB x3 l3.sum)]))) (.ref p3) (shD x3 l3.sum) := .tup (SqT.of (vw_new okF hp3)) (.cons (.int _) (.cons (.int _) .nil))
      have dp1 := dp1.mv gG0.vw
      have dp2 := dp2.mv gG0.vw
      have eW := gG0.at (m := m.add W) offW eW
      have gG := gF.trans gG0.sub
      have oldW := oldW.trans gG0.vw
      generalize upd HF p3 (.tup [.int (lowA x3 l3.sum), .int (lowB x3 l3.sum)]) = HG at gG gG0 dp1 dp2 dp3 eW oldW
      walk_at "rds"
      refine r_app eW (by simp) ?_
      have gI := gG.mut (o := .lst [.ref p1, .ref p2, .ref p3]) hok hW0
      have vI : vw (m.add W) (upd HG W (.lst [.ref p1, .ref p2, .ref p3])) = vw (m.add W) HG := vw_addupd
      rw [← vI] at dp1 dp2 dp3 oldW
      have eW2 : upd HG W (.lst [.ref p1, .ref p2, .ref p3]) W = some (.lst [.ref p1, .ref p2, .ref p3]) := upd_same
      have okI : Ok (m.add W) (upd HG W (.lst [.ref p1, .ref p2, .ref p3])) := gI.ok.add (by rw [eW2]; intro z; cases z)
      show _
      generalize hHI : upd HG W (.lst [.ref p1, .ref p2, .ref p3]) = HI at gI vI dp1 dp2 dp3 eW2 okI oldW
      have hHI' : upd HG W (.lst ([.ref p1, .ref p2] ++ [.ref p3])) = HI := hHI
      rw [hHI']
      clear hHI hHI' gG0 gF0 gE0 gD gE gF gG
      have hvI := hv.mv oldW
      -- what is found
      walk_at "rds"
      refine ⟨m.add W, v, c, b, n, kk, i1, z1, rfl, okI, hvI, hc, by omega, hz1, fun r1 HJ gJ d1 => ?_⟩
      walk_at "rds"
      refine ⟨m.add W, v, c, b, n, kk, i1, i2, j2, z2, rfl, gJ.ok, hvI.mv gJ.vw, hc, by omega, hj2, hz2, fun r2 HK gK d2 => ?_⟩
      walk_at "rds"
      refine ⟨e.sg, _, sgn, rfl, rfl, by omega, atI_nat hsg, ?_⟩
      refine ⟨m.add W, v, c, b, n, kk, i2, i3, sgn, j3, z3, rfl, gK.ok, hvI.mv (gJ.trans gK).vw, hc, by omega, hj3, hsgc, hz3, fun r3 HL gL d3 => ?_⟩
      walk_at "rds"
      refine r_newL (by simp) fun F1 hF1 => ?_
      have gM : Go (m.add W) HL (upd HL F1 (.lst [r1, r2, r3])) := .new gL.ok hF1
      have gIM := ((gJ.trans gK).trans gL).trans gM
      have d1 := d1.mv ((gK.trans gL).trans gM).vw
      have d2 := d2.mv (gL.trans gM).vw
      have d3 := d3.mv gM.vw
      have eF1 : upd HL F1 (.lst [r1, r2, r3]) F1 = some (.lst [r1, r2, r3]) := upd_same
      have dp1 := dp1.mv gIM.vw
      have dp2 := dp2.mv gIM.vw
      have dp3 := dp3.mv gIM.vw
      have eW3 := gIM.at (m := m.add W) offW eW2
      have hvM := hvI.mv gIM.vw
      have gN := gI.trans gIM.sub
      have okM := gIM.ok
      rw [f1] at d1
      rw [f2] at d2
      rw [f3] at d3
      generalize upd HL F1 (.lst [r1, r2, r3]) = HM at gN d1 d2 d3 eF1 dp1 dp2 dp3 eW3 hvM okM gM gIM
      walk_at "rd"
      refine r_fin (fun σ H' => ∃ (F : Addr) (r1 r2 r3 : V), σ = [some (.ref d), some v, some (.ref q), some (.str e.sg), some (.ref q1), some (.ref q2), some (.ref q3), some (.int (0 + (i : Int))), some (.int (i1 : Int)), some (.int (i2 : Int)), some (.int (i3 : Int)), some (.ref W), some (.ref F)] ∧ Go m H H' ∧ H' W = some (.lst [.ref p1, .ref p2, .ref p3]) ∧ H' F = some (.lst [r1, r2, r3]) ∧
        DpAll K (vw (m.add W) H') [.ref p1, .ref p2, .ref p3] [shD x1 e.st.sum, shD x2 l2.sum, shD x3 l3.sum] ∧ DpAll K (vw (m.add W) H') [r1, r2, r3] [shD x1 e.st.sum, shD x2 l2.sum, shD x3 l3.sum]) (fun σ H' h => ?_) (fun fin => ?_)
      · obtain ⟨F, r1, r2, r3, rfl, g', e1, e2, a1, a2⟩ := h
        have ft : Fit (.list [shD x1 e.st.sum, shD x2 l2.sum, shD x3 l3.sum]) := fit_sh3 (((he.st.bd x1 (List.mem_of_getElem? hx1)).2).mono hb) (b1.mono (by omega)) (by omega) (((L2.bd x2 (List.mem_of_getElem? hx2)).2).mono hb) (b2.mono (by omega)) (by omega) (((L3.bd x3 (List.mem_of_getElem? hx3)).2).mono hb) (b3.mono (by omega)) (by omega)
        walk_at "rds"
        refine r_repr (.lst (SqL.of e2) (a2.mv vw_sub)) ft ?_
        walk_at "rds"
        refine r_repr (.lst (SqL.of e1) (a1.mv vw_sub)) ft ?_
        walk_at "rds"
        refine r_no (by simp) ?_
        walk_at "rds"
        exact ⟨_, _, _, _, _, _, rfl, g'⟩
      · walk_at "rds"
        refine r_ifs (fun _ => ?_) (fun _ => ?_)
        · walk_at "rds"
          refine ⟨m.add W, v, c, b, n, kk, i1, z1, rfl, okM, hvM, hc, by omega, hz1, fun r1 HJ gJ d1 => ?_⟩
          walk_at "rds"
          refine ⟨m.add W, v, c, b, n, kk, i1, i2, j2, z2, rfl, gJ.ok, hvM.mv gJ.vw, hc, by omega, hj2, hz2, fun r2 HK gK d2 => ?_⟩
          walk_at "rds"
          refine r_newL (by simp) fun F2 hF2 => ?_
          have gO : Go (m.add W) HK (upd HK F2 (.lst [r1, r2])) := .new gK.ok hF2
          have d1 := (d1.mv gK.vw).mv (gO.old hF2)
          have d2 := d2.mv (gO.old hF2)
          have eF : upd HK F2 (.lst [r1, r2]) F2 = some (.lst [r1, r2]) := upd_same
          have okO : Ok ((m.add W).add F2) (upd HK F2 (.lst [r1, r2])) := gO.ok.add (by rw [eF]; intro z; cases z)
          have gMO := (gJ.trans gK).trans gO
          have offF : (m.add W).off F2 := gK.ok.off hF2
          have hF0 : HM F2 = none := (gJ.trans gK).free hF2
          have hvO := hvM.mv (gMO.old hF0)
          walk_at "rds"
          refine r_tyL eF ?_
          walk_at "rds"
          refine ⟨e.sg, _, sgn, rfl, rfl, by omega, atI_nat hsg, ?_⟩
          walk_at "rds"
          refine ⟨(m.add W).add F2, v, c, b, n, kk, i2, i3, sgn, j3, z3, rfl, okO, hvO, hc, by omega, hj3, hsgc, hz3, fun r3 HL gL d3 => ?_⟩
          have eF2 := gL.at (m := (m.add W).add F2) offF eF
          walk_at "rds"
          refine r_app eF2 (by simp) ?_
          have v2 : vw ((m.add W).add F2) (upd HL F2 (.lst ([r1, r2] ++ [r3]))) = vw ((m.add W).add F2) HL := vw_addupd
          have gMP : Go (m.add W) HM (upd HL F2 (.lst ([r1, r2] ++ [r3]))) := (gMO.trans gL.sub).mut okM hF0
          refine fin _ _ ⟨F2, r1, r2, r3, rfl, gN.trans gMP.sub, gMP.at (m := m.add W) offW eW3, upd_same, .cons (dp1.mv gMP.vw) (.cons (dp2.mv gMP.vw) (.cons (dp3.mv gMP.vw) .nil)), ?_⟩
          rw [f1] at d1
          rw [f2] at d2
          rw [f3] at d3
          have d1 := d1.mv gL.vw
          have d2 := d2.mv gL.vw
          rw [← v2] at d1 d2 d3
          exact .cons (d1.mv vw_addsub) (.cons (d2.mv vw_addsub) (.cons (d3.mv vw_addsub) .nil))
        · exact fin _ _ ⟨F1, r1, r2, r3, rfl, gN, eW3, eF1, .cons dp1 (.cons dp2 (.cons dp3 .nil)), .cons d1 (.cons d2 (.cons d3 .nil))⟩
    · obtain ⟨y1, y2, y3, y4, y5, y6, rfl, g⟩ := h
      walk_at "rds"
      exact k _ g
set_option exponentiation.threshold 600 in
theorem ok_law_wide_chain (B : Blt mg) {f : Addr} {fd : FuncData} (F : Fun K "_law_wide_chain" "_law_wide_chain" s_law_wide_chain f fd) (c_law_draw : FnAt P w K mg base s_law_draw 1 "_law_draw" ["deck", "many"] spDraw)
    (c_law_pick : FnAt P w K mg base s_law_pick 2 "_law_pick" ["deck", "items"] (spPick K)) (c_law_great : FnAt P w K mg base s_law_great 2 "_law_great" ["deck", "figures"] spGreat) :
    FG P w K mg base 3 f fd ["deck", "chain"] (spWide K) := by
  refine okX F sc_law_wide_chain (fun vs H Q E h => ?_) (fun cdv A out s H vs Q E gu hr h => ?_)
  · obtain ⟨m, d, l, v, c, n, kk, rfl, _⟩ := h
    rfl
  · obtain ⟨m, d, l, v, c, n, kk, rfl, hdk, hok, hv, hc, k⟩ := h
    have hu := hu_of hr
    obtain ⟨q, v1, v2, v3, rfl, hq, h1, h2, h3⟩ := dp_chain hv
    obtain ⟨q1, rfl, hq1⟩ := dp_line h1
    have n1 := hc.n1
    have n6 := hc.n6
    have k5 := hc.k5
    obtain ⟨q2, w2, rfl, hq2, ha2⟩ := dp_tup h2
    obtain ⟨q3, w3, rfl, hq3, ha3⟩ := dp_tup h3
    have l2 : w2.length = n := by rw [dpa_len ha2, List.length_map]; exact hc.sp.len
    have l3 : w3.length = n := by rw [dpa_len ha3, List.length_map]; exact hc.tl.len
    have s1 := sizeLine_eq
    have ne2 : w2 ≠ [] := fun z => by rw [z] at l2; simp at l2; omega
    have ne3 : w3 ≠ [] := fun z => by rw [z] at l3; simp at l3; omega
    refine ⟨_, (pss_cons (ps_asg (pv 1) (pg_tup rfl (pgs_cons (pg_name (i := 2) sc_law_wide_chain.nd rfl (.inl rfl)) (pgs_cons (pg_name (i := 3) sc_law_wide_chain.nd rfl (.inl rfl)) (pgs_cons (pg_name (i := 4) sc_law_wide_chain.nd rfl (.inl rfl)) (pgs_cons (pg_name (i := 5) sc_law_wide_chain.nd rfl (.inl rfl)) pgs_nil))))))
      (pss_cons (ps_setLc (i := 7) (own := [("line", 6)]) (g := (gName 6)) (tt := tYes) rfl sc_law_wide_chain.nd rfl rfl (sw_true rfl rfl rfl (by decide +kernel)) (pi_tup (pe_op op_catT (pe_op op_catT (pe_tup (pa_cons (pv 3) pa_nil)) (pv 4)) (pv 5))) (blkOk_by (own := [("line", 6)]) (N := ["deck", "chain", "signs", "start", "steps", "tells", "line", "lines", "turn", "many"]) (sc := defScope s_law_wide_chain) (by decide +kernel)) (fun _ _ _ _ _ => (pg_name (i := 6) sc_law_wide_chain.nd rfl (.inl rfl))) (fun _ _ _ _ _ => pts_nil) (fun _ _ _ _ _ => (pe_callTy (T := "list") (r := rListOf K) cl_listOf (by rfl) B.list (by decide +kernel) (pa_cons (pv 6) pa_nil))))
      (pss_cons (ps_for (passes_of rfl) rfl (pi_range1 rfl B.range (pa_cons (pe_op op_add pe_int (pe_c c_law_draw gu (hr.mono (by decide)) (fun σ => passN σ) (pa_cons (pv 0) (pa_cons pe_int pa_nil)))) pa_nil)) (pg_name (i := 8) sc_law_wide_chain.nd rfl (.inl rfl))
        (pss_cons (ps_set (i := 6) sc_law_wide_chain.nd rfl (.inl rfl) (pe_c c_law_pick gu (hr.mono (by decide)) (fun σ => passN σ) (pa_cons (pv 0) (pa_cons (pv 7) pa_nil))))
      (pss_one (ps_asg (pe_c c_law_great gu (hr.mono (by decide)) (fun σ => passN σ) (pa_cons (pv 0) (pa_cons (pe_c c_law_pick gu (hr.mono (by decide)) (fun σ => passN σ) (pa_cons (pv 0) (pa_cons (pe_lst (pa_cons pe_int (pa_cons pe_int (pa_cons pe_int (pa_cons pe_int pa_nil))))) pa_nil))) pa_nil))) (pg_sub (pv 6) (pe_c c_law_draw gu (hr.mono (by decide)) (fun σ => passN σ) (pa_cons (pv 0) (pa_cons (pe_callB call_len (by rfl) B.len (by decide +kernel) (pa_cons (pv 6) pa_nil)) pa_nil))) set_list)))))
      (pss_cons (ps_set (i := 9) sc_law_wide_chain.nd rfl (.inl rfl) (pe_callB (r := VB.rLen K) cl_len (by rfl) B.len (by decide +kernel) (pa_cons (pv 3) pa_nil)))
      (pss_cons (ps_setLc (i := 7) (own := [("line", 6)]) (g := (gName 6)) (tt := tYes) rfl sc_law_wide_chain.nd rfl rfl (sw_true rfl rfl rfl (by decide +kernel)) (pi_list (pv 7)) (blkOk_by (own := [("line", 6)]) (N := ["deck", "chain", "signs", "start", "steps", "tells", "line", "lines", "turn", "many"]) (sc := defScope s_law_wide_chain) (by decide +kernel)) (fun _ _ _ _ _ => (pg_name (i := 6) sc_law_wide_chain.nd rfl (.inl rfl))) (fun _ _ _ _ _ => pts_nil) (fun _ _ _ _ _ => (pe_callTy (T := "tuple") (r := rTupOf K) cl_tupOf (by rfl) B.tuple (by decide +kernel) (pa_cons (pv 6) pa_nil))))
      (pss_one (ps_ret (pe_tup (pa_cons (pv 2) (pa_cons (pe_ix (r := rIxL K) ix_list (pv 7) pe_int (fun _ _ => rfl)) (pa_cons (pe_callTy (T := "tuple") (r := rTupOf K) cl_tupOf (by rfl) B.tuple (by decide +kernel) (pa_cons (pe_slice sl_list (pv 7) (po_some pe_int) (po_some (pe_op op_add (pv 9) pe_int))) pa_nil)) (pa_cons (pe_callTy (T := "tuple") (r := rTupOf K) cl_tupOf (by rfl) B.tuple (by decide +kernel) (pa_cons (pe_slice sl_list (pv 7) (po_some (pe_op op_add (pv 9) pe_int)) po_none) pa_nil)) pa_nil)))))))))))), ?_⟩
    walk_at "rds"
    refine r_gtup (seqT_same vw_sub hq) rfl ?_
    walk_at "rds"
    refine r_newT (by simp) fun p1 hp1 => ?_
    have gA : Go m H (upd H p1 (.tup [.ref q1])) := .new hok hp1
    walk_at "rds"
    refine ⟨p1, q2, _, w2, rfl, rfl, SqT.of upd_same, seqT_same (gA.vw.trans vw_sub) hq2, by simp, by simp; omega, fun z => absurd z ne2, fun _ p2 hp2 => ?_⟩
    have gB := gA.trans (.new (o := .tup ([.ref q1] ++ w2)) gA.ok hp2)
    walk_at "rds"
    refine ⟨p2, q3, _, w3, rfl, rfl, SqT.of upd_same, seqT_same (gB.vw.trans vw_sub) hq3, by simp, by simp; omega, fun z => absurd z ne3, fun _ p3 hp3 => ?_⟩
    have gC := gB.trans (.new (o := .tup (([.ref q1] ++ w2) ++ w3)) gB.ok hp3)
    have e3 := vw_new (o := .tup (([.ref q1] ++ w2) ++ w3)) gB.ok hp3
    have da : DpAll K (vw m (upd (upd (upd H p1 (.tup [.ref q1])) p2 (.tup ([.ref q1] ++ w2))) p3 (.tup (([.ref q1] ++ w2) ++ w3)))) (([.ref q1] ++ w2) ++ w3) (([lnD c.st] ++ c.sp.map lnD) ++ c.tl.map lnD) :=
      (dpa_app (dpa_app (.cons h1 .nil) ha2) ha3).mv gC.vw
    have ex : (([lnD c.st] ++ c.sp.map lnD) ++ c.tl.map lnD) = (c.st :: (c.sp ++ c.tl)).map lnD := by simp
    rw [ex] at da
    have lw : (([V.ref q1] ++ w2) ++ w3).length = 2 * n + 1 := by simp; omega
    generalize (([V.ref q1] ++ w2) ++ w3) = ws at e3 da gC lw
    generalize upd (upd (upd H p1 (.tup [.ref q1])) p2 (.tup ([.ref q1] ++ w2))) p3 (.tup ws) = HC at e3 da gC
    have lin0 : ∀ (i : Nat) (x : List Int), (c.st :: (c.sp ++ c.tl))[i]? = some x → Lin 1400 (if i ≤ n then n else kk) x := by
      intro i x hx
      cases i with
      | zero => cases hx; exact hc.st
      | succ i =>
        have hx : (c.sp ++ c.tl)[i]? = some x := hx
        by_cases hi : i < n
        · rw [List.getElem?_append_left (by rw [hc.sp.len]; exact hi)] at hx
          rw [if_pos (by omega)]
          exact hc.sp.lin x (List.mem_of_getElem? hx)
        · rw [List.getElem?_append_right (by rw [hc.sp.len]; omega)] at hx
          rw [if_neg (by omega)]
          exact hc.tl.lin x (List.mem_of_getElem? hx)
    have len6 : ∀ i, (if i ≤ n then n else kk) ≤ 6 ∧ 1 ≤ (if i ≤ n then n else kk) := fun i => by
      have := hc.k1
      split <;> omega
    refine r_tk (seqT_same vw_sub (SqT.of e3)) ?_
    refine r_lcT (xs := ws) (fun E i H' => Go m HC H' ∧ ∃ acc : List V, H' E = some (.lst acc) ∧ acc.length = i ∧ ∀ j, j < i → ∃ (a : Addr) (ns : List Int), acc[j]? = some (.ref a) ∧ a ≠ E ∧ HC a = none ∧ H' a = some (.lst (ns.map V.int)) ∧ Lin 1400 (if j ≤ n then n else kk) ns)
      (fun E hE => ⟨(Go.refl gC.ok).mut gC.ok hE, [], upd_same, rfl, fun j hj => absurd hj (by omega)⟩) (fun E i H' hE hi p => seqT_same (p.1.vw.trans vw_sub) (SqT.of e3)) (fun E i x H' hE hx p => ?_) (fun E HD hE p => ?_)
    · obtain ⟨g, acc, eE, la, hA⟩ := p
      obtain ⟨d0, hd, dx⟩ := dpa_get da hx
      rw [List.getElem?_map] at hd
      cases e : (c.st :: (c.sp ++ c.tl))[i]? with
      | none => rw [e] at hd; cases hd
      | some l0 =>
        rw [e] at hd
        cases hd
        obtain ⟨q0, rfl, hq0⟩ := dp_line dx
        have hi := (List.getElem?_eq_some_iff.mp hx).1
        refine r_gName (r_wk wipe_set (r_yesT (r_ck1 ?_)))
        walk_at "rds"
        refine ⟨q0, _, rfl, .inr (seqT_same (g.vw.trans vw_sub) hq0), fun a ha => ?_⟩
        have nE : E ≠ a := ne_of_none eE ha
        have g2 := g.trans (.new (o := .lst (l0.map V.int)) g.ok ha)
        have haC : HC a = none := g.free ha
        refine r_ap (acc := acc) (by rw [upd_ne nE]; exact eE) (by omega) ⟨g2.mut gC.ok hE, acc ++ [.ref a], upd_same, by simp [la], fun j hj => ?_⟩
        by_cases hji : j < i
        · obtain ⟨a', ns, h1, h2, h3, h4, h5⟩ := hA j hji
          have ne' : a' ≠ a := ne_of_none h4 ha
          exact ⟨a', ns, by rw [List.getElem?_append_left (by omega)]; exact h1, h2, h3, by rw [upd_ne h2, upd_ne ne']; exact h4, h5⟩
        · have : j = i := by omega
          subst this
          exact ⟨a, l0, by rw [List.getElem?_append_right (by omega), la, Nat.sub_self]; rfl, nE.symm, haC, by rw [upd_ne nE.symm]; exact upd_same, lin0 _ _ e⟩
    obtain ⟨gD, acc, eE, la, hA⟩ := p
    have gCD := gC.trans gD
    have hE0 : H E = none := gC.free hE
    have offE : m.off E := gC.ok.off hE
    walk_at "rds"
    refine ⟨d, l, _, rfl, gCD.ok.dk d l hdk, by decide, fun r HE aE r0 r1 => ?_⟩
    have gE := Go.adv hdk gCD.ok aE
    walk_at "rds"
    refine r_rk (by omega) (by omega) ?_
    refine r_forR (fun i σ H' => ∃ y6 y8 y9 : Option V, σ = [some (.ref d), some (.ref q), some (.str c.sg), some (.ref q1), some (.ref q2), some (.ref q3), y6, some (.ref E), y8, y9] ∧ Go m H H' ∧ H' E = some (.lst acc) ∧ ∀ j, j < ws.length → ∃ (a : Addr) (ns : List Int), acc[j]? = some (.ref a) ∧ a ≠ E ∧ HC a = none ∧ H' a = some (.lst (ns.map V.int)) ∧ Lin 1400 (if j ≤ n then n else kk) ns)
      ⟨_, _, _, rfl, gCD.trans gE, gE.at offE eE, fun j hj => ?_⟩ (fun i σ H' hi h => ?_) (fun σ H' h => ?_)
    · obtain ⟨a, ns, h1, h2, h3, h4, h5⟩ := hA j hj
      exact ⟨a, ns, h1, h2, h3, gE.at (gC.ok.off h3) h4, h5⟩
    · obtain ⟨y6, y8, y9, rfl, g, eE, hA⟩ := h
      walk_at "rds"
      refine ⟨d, l, E, acc, rfl, g.ok.dk d l hdk, SqL.of (by rw [hid_get (offE d l hdk).1 (offE d l hdk).2]; exact eE), by omega, by omega, fun v0 H2 a2 hv0 => ?_⟩
      obtain ⟨j, hj⟩ := List.getElem?_of_mem hv0
      have hjl := (List.getElem?_eq_some_iff.mp hj).1
      obtain ⟨a, ns, h1, h2, h3, h4, h5⟩ := hA j (by omega)
      rw [hj] at h1
      cases h1
      have g2 := Go.adv hdk g.ok a2
      have offa : m.off a := gC.ok.off h3
      have h4 := g2.at offa h4
      walk_at "rds"
      refine r_newL (by simp) fun p hp => ?_
      have g3 : Go m H2 (upd H2 p (.lst [.int 9, .int 40, .int 399, .int 400])) := .new g2.ok hp
      have nep := (g2.ok.dk d l hdk).ne hp
      walk_at "rds"
      refine ⟨d, l, p, _, rfl, g3.ok.dk d l hdk, SqL.of (by rw [hid_get nep.1 nep.2]; exact upd_same), by simp, by simp, fun v5 H3 a3 hv5 => ?_⟩
      have g4 := Go.adv hdk g3.ok a3
      obtain ⟨fg, rfl, f0, f1⟩ : ∃ z : Int, v5 = .int z ∧ 1 ≤ z ∧ z ≤ 400 := by
        simp only [List.mem_cons, List.mem_nil_iff, or_false] at hv5
        rcases hv5 with rfl | rfl | rfl | rfl
        all_goals exact ⟨_, rfl, by decide, by decide⟩
      walk_at "rds"
      refine ⟨d, l, fg, rfl, g4.ok.dk d l hdk, f0, by omega, fun gr H4 a4 gr0 gr1 => ?_⟩
      have g5 := Go.adv hdk g4.ok a4
      have h4 := g5.at offa (g4.at offa (g3.at offa h4))
      have gb : Bd 1400 gr := by
        refine ten_bd (n := 400) gr0 ?_ (by decide +kernel)
        refine Int.lt_of_lt_of_le gr1 ?_
        have : (10 ^ fg.toNat : Nat) ≤ 10 ^ 400 := Nat.pow_le_pow_right (by decide) (by omega)
        have e : ((10 ^ fg.toNat : Nat) : Int) ≤ ((10 ^ 400 : Nat) : Int) := by omega
        rw [Int.natCast_pow, Int.natCast_pow] at e
        exact e
      walk_at "rds"
      refine ⟨.ref a, _, rfl, .inl ⟨_, SqL.of h4, rfl⟩, ?_⟩
      rw [List.length_map, h5.len]
      walk_at "rds"
      have l6 := len6 j
      refine ⟨d, l, _, rfl, g5.ok.dk d l hdk, log2_small (by omega), fun r6 H6 a6 r60 r61 => ?_⟩
      have g6 := Go.adv hdk g5.ok a6
      have h4 := g6.at offa h4
      have hr6 : r6 = ((r6.toNat : Nat) : Int) := by omega
      have hlt : r6.toNat < (if j ≤ n then n else kk) := by omega
      rw [hr6]
      walk_at "rds"
      refine r_setL h4 (by rw [List.length_map, h5.len]; exact hlt) ?_
      walk_at "rds"
      have gg := (((g.trans g2).trans g3).trans ((g4.trans g5).trans g6))
      have ha0 : H a = none := gC.free h3
      refine ⟨_, _, _, rfl, gg.mut hok ha0, ?_, fun j' hj' => ?_⟩
      · rw [upd_ne h2.symm]
        exact g6.at offE (g5.at offE (g4.at offE (g3.at offE (g2.at offE eE))))
      · obtain ⟨a', ns', i1, i2, i3, i4, i5⟩ := hA j' hj'
        have offa' : m.off a' := gC.ok.off i3
        have i4 := g6.at offa' (g5.at offa' (g4.at offa' (g3.at offa' (g2.at offa' i4))))
        by_cases hc' : a' = a
        · subst hc'
          rw [h4] at i4
          have en : ns.map V.int = ns'.map V.int := HO.lst.inj (Option.some.inj i4)
          have en2 : ns = ns' := ints_inj en
          subst en2
          exact ⟨a', ns.set r6.toNat gr, i1, i2, i3, by rw [upd_same, List.map_set], lin_set i5 gr0 gb (by have := i5.len; have := h5.len; omega)⟩
        · exact ⟨a', ns', i1, i2, i3, by rw [upd_ne hc']; exact i4, i5⟩
    · obtain ⟨y6, y8, y9, rfl, g, eE, hA⟩ := h
      walk_at "rds"
      refine r_len (.inr (seqT_same (g.vw.trans vw_sub) hq1)) ?_
      rw [List.length_map, hc.st.len]
      walk_at "rds"
      have nexE : E ∉ m.ex := gC.ok.nex hE
      refine r_lk (SqL.of eE) ?_
      refine r_lcVL (K := K) m g.ok (SqL.of (by rw [vw_get nexE offE]; exact eE)) (by omega) (fun i x => ∃ ns : List Int, x = lnD ns ∧ Lin 1400 (if i ≤ n then n else kk) ns) (fun E' i v0 H2 S hi g2 okE old kq => ?_) (fun E2 HB acc2 xs2 gB2 hE2 eB2 da2 hlen2 hR2 => ?_)
      · have hil := (List.getElem?_eq_some_iff.mp hi).1
        obtain ⟨a, ns, i1, i2, i3, i4, i5⟩ := hA i (by omega)
        rw [hi] at i1
        cases i1
        walk_at "rds"
        refine ⟨a, _, rfl, .inl ⟨SqL.of (g2.at (gC.ok.off i3) i4), fun p hp => ?_⟩⟩
        exact kq _ _ _ (.new okE hp) (line_dp (SqT.of (vw_new okE hp))) ⟨ns, rfl, i5⟩
      obtain ⟨L, rfl, hL⟩ := linesL hR2
      have l2' : L.length = 2 * n + 1 := by rw [List.length_map] at hlen2; omega
      have la2 : acc2.length = 2 * n + 1 := by rw [dpa_len da2, List.length_map]; exact l2'
      obtain ⟨l0, hl0⟩ : ∃ x, L[0]? = some x := ⟨_, List.getElem?_eq_getElem (by omega)⟩
      obtain ⟨u0, hu0, du0⟩ := dpa_get' (i := 0) da2 (by rw [List.getElem?_map, hl0]; rfl)
      have okB : Ok (m.add E2) HB := gB2.ok.add (by rw [eB2]; intro z; cases z)
      have offE2 : m.off E2 := g.ok.off hE2
      walk_at "rds"
      refine r_ixL (SqL.of eB2) (atI_nat (j := 0) hu0) ?_
      walk_at "rds"
      refine r_slL (SqL.of eB2) fun t1 ht1 => ?_
      rw [show ((n : Int) + 1) = ((n + 1 : Nat) : Int) by omega, show (1 : Int) = ((1 : Nat) : Int) from rfl, cut_mid acc2 1 (n + 1) (by omega) (by omega)]
      have g1 : Go (m.add E2) HB (upd HB t1 (.lst ((acc2.drop 1).take (n + 1 - 1)))) := .new okB ht1
      refine ⟨t1, _, rfl, .inl ⟨SqL.of upd_same, fun t2 ht2 => ?_⟩⟩
      have g2 := g1.trans (.new (o := .tup ((acc2.drop 1).take (n + 1 - 1))) g1.ok ht2)
      have dq1 : Dp K (vw (m.add E2) (upd (upd HB t1 (.lst ((acc2.drop 1).take (n + 1 - 1)))) t2 (.tup ((acc2.drop 1).take (n + 1 - 1))))) (.ref t2) (mtD ((L.drop 1).take (n + 1 - 1))) := by
        refine .tup (SqT.of (vw_new g1.ok ht2)) ?_
        have := dpa_take (n + 1 - 1) (dpa_drop 1 da2)
        rw [← List.map_drop, ← List.map_take] at this
        exact this.mv g2.vw
      have eB3 := g2.at (m := m.add E2) offE2 eB2
      generalize upd (upd HB t1 (.lst ((acc2.drop 1).take (n + 1 - 1)))) t2 (.tup ((acc2.drop 1).take (n + 1 - 1))) = HX at g2 dq1 eB3
      walk_at "rds"
      refine r_slL (SqL.of eB3) fun t3 ht3 => ?_
      rw [show ((n : Int) + ((1 : Nat) : Int)) = ((n + 1 : Nat) : Int) by omega, cut_drop acc2 (n + 1) (by omega)]
      have g3 : Go (m.add E2) HX (upd HX t3 (.lst (acc2.drop (n + 1)))) := .new g2.ok ht3
      refine ⟨t3, _, rfl, .inl ⟨SqL.of upd_same, fun t4 ht4 => ?_⟩⟩
      have g4 := g3.trans (.new (o := .tup (acc2.drop (n + 1))) g3.ok ht4)
      have dq2 : Dp K (vw (m.add E2) (upd (upd HX t3 (.lst (acc2.drop (n + 1)))) t4 (.tup (acc2.drop (n + 1))))) (.ref t4) (mtD (L.drop (n + 1))) := by
        refine .tup (SqT.of (vw_new g3.ok ht4)) ?_
        have := dpa_drop (n + 1) da2
        rw [← List.map_drop] at this
        exact this.mv (g2.trans g4).vw
      have dq1 := dq1.mv g4.vw
      have g24 := g2.trans g4
      generalize upd (upd HX t3 (.lst (acc2.drop (n + 1)))) t4 (.tup (acc2.drop (n + 1))) = HY at g24 dq1 dq2 g4
      walk_at "rds"
      refine r_newT (by simp) fun t5 ht5 => ?_
      have g5 : Go (m.add E2) HY (upd HY t5 (.tup [.str c.sg, u0, .ref t2, .ref t4])) := .new g4.ok ht5
      refine k _ _ ⟨c.sg, l0, (L.drop 1).take (n + 1 - 1), L.drop (n + 1)⟩ ((g.trans gB2).trans (g24.trans g5).sub) ?_ ⟨n1, n6, hc.k1, k5, hc.sg, ?_, ⟨?_, fun x hx => ?_⟩, ⟨?_, fun x hx => ?_⟩⟩
      · refine Dp.mv (H := vw (m.add E2) _) ?_ vw_addsub
        exact chain_dp (SqT.of (vw_new g4.ok ht5)) (du0.mv (g24.trans g5).vw) (dq1.mv g5.vw) (dq2.mv g5.vw)
      · have := hL 0 l0 hl0
        rw [if_pos (Nat.zero_le _)] at this
        exact this
      · rw [List.length_take, List.length_drop]; omega
      · obtain ⟨i, hi⟩ := List.getElem?_of_mem hx
        have hi2 := (List.getElem?_eq_some_iff.mp hi).1
        rw [List.length_take] at hi2
        rw [List.getElem?_take_of_lt (by omega), List.getElem?_drop] at hi
        have := hL _ _ hi
        rw [if_pos (by omega)] at this
        exact this
      · rw [List.length_drop]; omega
      · obtain ⟨i, hi⟩ := List.getElem?_of_mem hx
        rw [List.getElem?_drop] at hi
        have := hL _ _ hi
        rw [if_neg (by omega)] at this
        exact this
theorem ok_law (B : Blt mg) {f : Addr} {fd : FuncData} (F : Fun K "law" "law" s_law f fd) (c_law_deck : FnAt P w K mg base s_law_deck 1 "_law_deck" ["script"] (spDeck K))
    (c_law_pick : FnAt P w K mg base s_law_pick 2 "_law_pick" ["deck", "items"] (spPick K)) (c_law_draw : FnAt P w K mg base s_law_draw 1 "_law_draw" ["deck", "many"] spDraw)
    (c_law_chain : FnAt P w K mg base s_law_chain 4 "_law_chain" ["deck", "states", "signs"] (spChain K)) (c_law_wide_chain : FnAt P w K mg base s_law_wide_chain 3 "_law_wide_chain" ["deck", "chain"] (spWide K))
    (c_law_plain : FnAt P w K mg base s_law_plain 3 "_law_plain" ["chain"] (spPlain K)) (c_law_many_by : FnAt P w K mg base s_law_many_by 4 "_law_many_by" ["deck", "chain"] (spManyBy K))
    (c_plain : FnAt P w K mg base s_plain 3 "plain" ["chain"] (spPlain K)) (c_chain_error : FnAt P w K mg base s_chain_error 4 "chain_error" ["value"] (spNoErr K))
    (c_law_are_shares : FnAt P w K mg base s_law_are_shares 4 "_law_are_shares" ["deck", "chain", "due"] (spAreShares K)) : FG P w K mg base 5 f fd ["script"] (spLaw K) := by
  refine okX F sc_law (fun vs H Q E h => ?_) (fun cdv A out s H vs Q E gu hr h => ?_)
  · obtain ⟨a, ns, rfl, _⟩ := h
    rfl
  · obtain ⟨a, ns, rfl, hS, hlen, k⟩ := h
    refine ⟨_, (pss_cons (ps_set (i := 1) sc_law.nd rfl (.inl rfl) (pe_c c_law_deck gu (hr.mono (by decide)) (fun σ => passN σ) (pa_cons (pv 0) pa_nil)))
      (pss_cons (ps_for (passes_of rfl) rfl (pi_range1 rfl B.range (pa_cons pe_int pa_nil)) (pg_name (i := 2) sc_law.nd rfl (.inl rfl))
        (pss_cons (ps_set (i := 3) sc_law.nd rfl (.inl rfl) (pe_c c_law_chain gu (hr.mono (by decide)) (fun σ => passN σ) (pa_cons (pv 1) (pa_cons (pe_c c_law_pick gu (hr.mono (by decide)) (fun σ => passN σ) (pa_cons (pv 1) (pa_cons (pe_lst (pa_cons pe_int (pa_cons pe_int (pa_cons pe_int (pa_cons pe_int (pa_cons pe_int (pa_cons pe_int pa_nil))))))) pa_nil))) (pa_cons (pe_c c_law_pick gu (hr.mono (by decide)) (fun σ => passN σ) (pa_cons (pv 1) (pa_cons (pe_lst (pa_cons pe_int (pa_cons pe_int (pa_cons pe_int (pa_cons pe_int (pa_cons pe_int pa_nil)))))) pa_nil))) pa_nil)))))
      (pss_cons (ps_set (i := 4) sc_law.nd rfl (.inl rfl) (pe_and (pe_cmpR op_eq (pv 2) pe_int (nomark _)) (pe_one (pe_cmpR op_eq (pe_c c_law_draw gu (hr.mono (by decide)) (fun σ => passN σ) (pa_cons (pv 1) (pa_cons pe_int pa_nil))) pe_int (nomark _)))))
      (pss_cons (ps_set (i := 3) sc_law.nd rfl (.inl rfl) (pe_ifExp (pt_val (pv 4)) (pe_c c_law_wide_chain gu (hr.mono (by decide)) (fun σ => passN σ) (pa_cons (pv 1) (pa_cons (pv 3) pa_nil))) (pv 3)))
      (pss_cons (ps_set (i := 5) sc_law.nd rfl (.inl rfl) (pe_c c_law_plain gu (hr.mono (by decide)) (fun σ => passN σ) (pa_cons (pv 3) pa_nil)))
      (pss_cons (ps_set (i := 6) sc_law.nd rfl (.inl rfl) (pe_ifExp (pt_val (pv 4)) (pv 5) (pe_c c_law_many_by gu (hr.mono (by decide)) (fun σ => passN σ) (pa_cons (pv 1) (pa_cons (pv 3) pa_nil)))))
      (pss_cons (ps_set (i := 7) sc_law.nd rfl (.inl rfl) (pe_callB (r := rRepr K) (call_repr gu hr.units) (by rfl) B.repr (by decide +kernel) (pa_cons (pe_lst (pa_cons (pv 3) (pa_cons (pv 6) pa_nil))) pa_nil)))
      (pss_cons (ps_set (i := 8) sc_law.nd rfl (.inl rfl) (pe_lst (pa_cons (pe_c c_plain gu (hr.mono (by decide)) (fun σ => passN σ) (pa_cons (pv 3) pa_nil)) (pa_cons (pe_ck0 c_plain kw_plain_chain gu (hr.mono (by decide)) (fun σ => passN σ) (pk_cons (pv 6) pk_nil)) (pa_cons (pe_c c_plain gu (hr.mono (by decide)) (fun σ => passN σ) (pa_cons (pv 5) pa_nil)) (pa_cons (pe_c c_plain gu (hr.mono (by decide)) (fun σ => passN σ) (pa_cons (pv 3) pa_nil)) pa_nil))))))
      (pss_cons (ps_if (PW.pt (pw_or (pt_cmpR op_ne (pe_callB (r := rRepr K) (call_repr gu hr.units) (by rfl) B.repr (by decide +kernel) (pa_cons (pv 8) pa_nil)) (pe_callB (r := rRepr K) (call_repr gu hr.units) (by rfl) B.repr (by decide +kernel) (pa_cons (pe_op op_rep (pe_lst (pa_cons (pv 5) pa_nil)) pe_int) pa_nil)) (nomark _)) (pw_or1 (pt_cmpR op_notN (pe_c c_chain_error gu (hr.mono (by decide)) (fun σ => passN σ) (pa_cons (pv 6) pa_nil)) pe_non (nomark _))))) (pss_one (ps_ret pe_bl)) pss_nil)
      (pss_cons (ps_if (PW.pt (pw_or (pt_not (pt_val (pe_c c_law_are_shares gu (hr.mono (by decide)) (fun σ => passN σ) (pa_cons (pv 1) (pa_cons (pv 3) (pa_cons (pv 3) pa_nil)))))) (pw_or1 (pt_not (pt_val (pe_c c_law_are_shares gu (hr.mono (by decide)) (fun σ => passN σ) (pa_cons (pv 1) (pa_cons (pv 6) (pa_cons (pv 5) pa_nil))))))))) (pss_one (ps_ret pe_bl)) pss_nil)
      (pss_one (ps_if (pt_cmpR op_ne (pe_callB (r := rRepr K) (call_repr gu hr.units) (by rfl) B.repr (by decide +kernel) (pa_cons (pe_lst (pa_cons (pv 3) (pa_cons (pv 6) pa_nil))) pa_nil)) (pv 7) (nomark _)) (pss_one (ps_ret pe_bl)) pss_nil))))))))))))
      (pss_one (ps_ret pe_bl)))), ?_⟩
    walk_at "rds"
    refine ⟨a, ns, rfl, hS, hlen, fun d l H0 hd0 hl0 s0 hD => ?_⟩
    obtain ⟨m, hdk, hok⟩ : ∃ m : Md, m.dk = some (d, l) ∧ Ok m H0 := ⟨⟨some (d, l), []⟩, rfl, ⟨fun d' l' q => by cases q; exact hD, fun a ha => nomatch ha⟩⟩
    walk_at "rds"
    refine r_rk (by decide) (by decide) (r_forR (fun i σ H' => ∃ y2 y3 y4 y5 y6 y7 y8, σ = [some (.ref a), some (.ref d), y2, y3, y4, y5, y6, y7, y8] ∧ Go m H0 H') ⟨_, _, _, _, _, _, _, rfl, .refl hok⟩ (fun i σ H' hi h => ?_) fun σ H' h => ?_)
    · obtain ⟨y2, y3, y4, y5, y6, y7, y8, rfl, g0⟩ := h
      walk_at "rds"
      refine r_newL (by simp) fun p hp => ?_
      have g1 := g0.trans (.new (o := .lst [V.int 1, V.int 2, V.int 2, V.int 3, V.int 4, V.int 6]) g0.ok hp)
      have ne := (g0.ok.dk d l hdk).ne hp
      walk_at "rds"
      refine ⟨d, l, p, _, rfl, g1.ok.dk d l hdk, SqL.of (by rw [hid_get ne.1 ne.2]; exact upd_same), by simp, by simp, fun v H2 a2 hv => ?_⟩
      obtain ⟨n, rfl, n1, n6⟩ : ∃ n : Nat, v = .int (n : Int) ∧ 1 ≤ n ∧ n ≤ 6 := by
        simp only [List.mem_cons, List.mem_nil_iff, or_false] at hv
        rcases hv with rfl | rfl | rfl | rfl | rfl | rfl
        · exact ⟨1, rfl, by decide, by decide⟩
        · exact ⟨2, rfl, by decide, by decide⟩
        · exact ⟨2, rfl, by decide, by decide⟩
        · exact ⟨3, rfl, by decide, by decide⟩
        · exact ⟨4, rfl, by decide, by decide⟩
        · exact ⟨6, rfl, by decide, by decide⟩
      have g2 := g1.trans (Go.adv hdk g1.ok a2)
      walk_at "rds"
      refine r_newL (by simp) fun p3 hp3 => ?_
      have g3 := g2.trans (.new (o := .lst [V.int 1, V.int 2, V.int 2, V.int 3, V.int 5]) g2.ok hp3)
      have ne3 := (g2.ok.dk d l hdk).ne hp3
      walk_at "rds"
      refine ⟨d, l, p3, _, rfl, g3.ok.dk d l hdk, SqL.of (by rw [hid_get ne3.1 ne3.2]; exact upd_same), by simp, by simp, fun v H4 a4 hv => ?_⟩
      obtain ⟨kk, rfl, k1, k5⟩ : ∃ n : Nat, v = .int (n : Int) ∧ 1 ≤ n ∧ n ≤ 5 := by
        simp only [List.mem_cons, List.mem_nil_iff, or_false] at hv
        rcases hv with rfl | rfl | rfl | rfl | rfl
        · exact ⟨1, rfl, by decide, by decide⟩
        · exact ⟨2, rfl, by decide, by decide⟩
        · exact ⟨2, rfl, by decide, by decide⟩
        · exact ⟨3, rfl, by decide, by decide⟩
        · exact ⟨5, rfl, by decide, by decide⟩
      have g4 := g3.trans (Go.adv hdk g3.ok a4)
      walk_at "rds"
      refine ⟨m, d, l, n, kk, rfl, hdk, g4.ok, n1, n6, k1, k5, fun v0 H5 c0 g5 d0 hc0 => ?_⟩
      have g05 := g4.trans g5
      clear a2 a4 g1 g2 g3 ne ne3 hv
      with_reducible refine r_seq ?_
      refine r_finA (fun x H' => ∃ b : Bool, x = .bl b ∧ Go m H5 H') (fun x H6 h6 => ?_) fun N fin => ?_
      rotate_left
      · walk_at "rds"
        refine r_av (fun _ => ?_) (fun _ => ?_)
        · walk_at "rds"
          refine ⟨d, l, _, rfl, g05.ok.dk d l hdk, by decide, fun r H6 a6 r0 r1 => ?_⟩
          walk_at "rds"
          exact fin _ _ ⟨_, rfl, Go.adv hdk g05.ok a6⟩
        · exact fin _ _ ⟨_, rfl, .refl g05.ok⟩
      obtain ⟨bw, rfl, g6⟩ := h6
      have g06 := g05.trans g6
      have d0 := d0.mv g6.vw
      with_reducible refine r_seq ?_
      refine r_finA (fun x H' => ∃ c : Ch, Go m H6 H' ∧ Dp K (vw m H') x (chD c) ∧ ChOk 1400 n kk c) (fun x H7 h7 => ?_) fun N fin => ?_
      rotate_left
      · walk_at "rds"
        refine r_ife (fun _ => ?_) (fun _ => ?_)
        · walk_at "rds"
          exact ⟨m, d, l, v0, c0, n, kk, rfl, hdk, g06.ok, d0, hc0.mono (by decide), fun v H' e g' dv he => fin _ _ ⟨e, g', dv, he⟩⟩
        · walk_at "rds"
          exact fin _ _ ⟨c0, .refl g06.ok, d0, hc0.mono (by decide)⟩
      obtain ⟨c, g7, dc, hc⟩ := h7
      have g07 := g06.trans g7
      walk_at "rds"
      refine ⟨m, x, c, 1400, n, kk, rfl, g07.ok, dc, hc, by decide, fun u H8 g8 du => ?_⟩
      have hdue := plC_ok hc
      have g08 := g07.trans g8
      have dc := dc.mv g8.vw
      with_reducible refine r_seq ?_
      refine r_finA (fun y H' => ∃ e : Ch, Go m H8 H' ∧ Dp K (vw m H') y (chD e) ∧ ChOk 1430 n kk e ∧ CEq e (plC c) ∧ plC e = plC c) (fun y H9 h9 => ?_) fun N fin => ?_
      rotate_left
      · walk_at "rds"
        refine r_ife (fun _ => ?_) (fun _ => ?_)
        · walk_at "rds"
          exact fin _ _ ⟨plC c, .refl g08.ok, du, hdue.mono (by decide), .refl _, plC_idem hc⟩
        · walk_at "rds"
          exact ⟨m, d, l, x, c, 1400, n, kk, rfl, hdk, g08.ok, dc, hc, by decide, fun v H' e g' dv he hce hpe => fin _ _ ⟨e, g', dv, he, hce.trans (ceq_pl hc), hpe⟩⟩
      obtain ⟨e, g9, de, he, hce, hpe⟩ := h9
      have g09 := g08.trans g9
      have dc := dc.mv g9.vw
      have du := du.mv g9.vw
      have hc' : ChOk 1430 n kk c := hc.mono (by decide)
      have hdue' : ChOk 1430 n kk (plC c) := hdue.mono (by decide)
      clear g8 g9 g7 g6 d0 hc0 g5 g4
      have ft2 : Fit (.list ([c, e].map chD)) := fit_chs (b := 1430) (n := n) (k := kk) [c, e] (by simp) (fun z hz => by
        simp only [List.mem_cons, List.mem_nil_iff, or_false] at hz
        rcases hz with rfl | rfl
        · exact hc'
        · exact he) (by decide)
      have ft4 : Fit (.list ([plC c, plC c, plC c, plC c].map chD)) := fit_chs (b := 1430) (n := n) (k := kk) [plC c, plC c, plC c, plC c] (by simp) (fun z hz => by
        simp only [List.mem_cons, List.mem_nil_iff, or_false] at hz
        rcases hz with rfl | rfl | rfl | rfl
        all_goals exact hdue') (by decide)
      obtain ⟨S2, eS2⟩ : ∃ S, S = (PyData.list ([c, e].map chD)).shown := ⟨_, rfl⟩
      obtain ⟨S4, eS4⟩ : ∃ S, S = (PyData.list ([plC c, plC c, plC c, plC c].map chD)).shown := ⟨_, rfl⟩
      walk_at "rds"
      refine r_newL (by simp) fun q1 hq1 => ?_
      have g10 := g09.trans (.new (o := .lst [x, y]) g09.ok hq1)
      have s10 : Same (vw m H9) (vw m (upd H9 q1 (.lst [x, y]))) := (Go.new g09.ok hq1).vw
      have dc := dc.mv s10
      have du := du.mv s10
      have de := de.mv s10
      walk_at "rds"
      refine r_reprS eS2 (.lst (SqL.of upd_same) (.cons (dc.mv vw_sub) (.cons (de.mv vw_sub) .nil))) ft2 ?_
      generalize upd H9 q1 (.lst [x, y]) = HA at g10 dc du de
      clear s10
      walk_at "rds"
      refine ⟨m, x, c, 1430, n, kk, rfl, g10.ok, dc, hc', by decide, fun r1 HB gB t1 => ?_⟩
      walk_at "rds"
      refine ⟨m, y, e, 1430, n, kk, rfl, gB.ok, de.mv gB.vw, he, by decide, fun r2 HC gC t2 => ?_⟩
      walk_at "rds"
      refine ⟨m, u, plC c, 1430, n, kk, rfl, gC.ok, du.mv (gB.trans gC).vw, hdue', by decide, fun r3 HD gD t3 => ?_⟩
      walk_at "rds"
      refine ⟨m, x, c, 1430, n, kk, rfl, gD.ok, dc.mv ((gB.trans gC).trans gD).vw, hc', by decide, fun r4 HE gE t4 => ?_⟩
      rw [hpe] at t2
      rw [plC_idem hc] at t3
      walk_at "rds"
      refine r_newL (by simp) fun q2 hq2 => ?_
      have gF : Go m HE (upd HE q2 (.lst [r1, r2, r3, r4])) := .new gE.ok hq2
      have gAF := (((gB.trans gC).trans gD).trans gE).trans gF
      have g11 := g10.trans gAF
      have t1 := t1.mv (((gC.trans gD).trans gE).trans gF).vw
      have t2 := t2.mv ((gD.trans gE).trans gF).vw
      have t3 := t3.mv (gE.trans gF).vw
      have t4 := t4.mv gF.vw
      have dc := dc.mv gAF.vw
      have du := du.mv gAF.vw
      have de := de.mv gAF.vw
      have eF : upd HE q2 (.lst [r1, r2, r3, r4]) q2 = some (.lst [r1, r2, r3, r4]) := upd_same
      generalize upd HE q2 (.lst [r1, r2, r3, r4]) = HF at g11 t1 t2 t3 t4 dc du de eF gF gAF
      walk_at "rds"
      refine r_reprS eS4 (.lst (SqL.of eF) (.cons (t1.mv vw_sub) (.cons (t2.mv vw_sub) (.cons (t3.mv vw_sub) (.cons (t4.mv vw_sub) .nil))))) ft4 ?_
      walk_at "rds"
      refine r_newL (by simp) fun q3 hq3 => ?_
      have gG : Go m HF (upd HF q3 (.lst [u])) := .new g11.ok hq3
      walk_at "rds"
      refine ⟨q3, 4, [u], rfl, rfl, upd_same, by decide, by decide, by have := sizeLine_eq; simp; omega, fun q4 hq4 => ?_⟩
      have gH := gG.trans (.new (o := .lst (List.replicate (4 : Int).toNat [u]).flatten) gG.ok hq4)
      have du' := (du.mv gH.vw).mv vw_sub
      walk_at "rds"
      refine r_reprS eS4 (.lst (SqL.of upd_same) (.cons du' (.cons du' (.cons du' (.cons du' .nil))))) ft4 ?_
      walk_at "rds"
      refine r_ork (fun z => not_ne z) (fun _ => ?_)
      have g12 := g11.trans gH
      have dc := dc.mv gH.vw
      have du := du.mv gH.vw
      have de := de.mv gH.vw
      walk_at "rds"
      refine ⟨m, y, e, 1430, n, kk, rfl, g12.ok, de, he, fun HI gI => ?_⟩
      walk_at "rds"
      refine ⟨rfl, ?_⟩
      walk_at "rds"
      refine r_no rfl ?_
      have g13 := g12.trans gI
      have dc := dc.mv gI.vw
      have du := du.mv gI.vw
      have de := de.mv gI.vw
      walk_at "rds"
      refine ⟨m, d, l, x, x, c, c, 1430, n, kk, rfl, hdk, g13.ok, dc, dc, hc', hc', by decide, .refl _, fun HJ gJ => ?_⟩
      walk_at "rds"
      refine r_ork (fun z => by cases z) (fun _ => ?_)
      have g14 := g13.trans gJ
      have dc := dc.mv gJ.vw
      have du := du.mv gJ.vw
      have de := de.mv gJ.vw
      walk_at "rds"
      refine ⟨m, d, l, y, u, e, plC c, 1430, n, kk, rfl, hdk, g14.ok, de, du, he, hdue', by decide, hce, fun HK gK => ?_⟩
      walk_at "rds"
      refine r_no rfl ?_
      have g15 := g14.trans gK
      have dc := dc.mv gK.vw
      have de := de.mv gK.vw
      walk_at "rds"
      refine r_newL (by simp) fun q5 hq5 => ?_
      have gL : Go m HK (upd HK q5 (.lst [x, y])) := .new g15.ok hq5
      walk_at "rds"
      refine r_reprS eS2 (.lst (SqL.of upd_same) (.cons ((dc.mv gL.vw).mv vw_sub) (.cons ((de.mv gL.vw).mv vw_sub) .nil))) ft2 ?_
      walk_at "rds"
      refine r_no (ne_refl _) ?_
      walk_at "rds"
      exact ⟨_, _, _, _, _, _, _, rfl, g15.trans gL⟩
    · obtain ⟨y2, y3, y4, y5, y6, y7, y8, rfl, g0⟩ := h
      walk_at "rds"
      exact k _
end
theorem all_mk {l : PySem.W.OpenLaw} {w : World} {K : PySem.W.Frag} {h : Heap} {mg : Str → Option Value} {fa CU : Addr} {tS tG : Tok} (X : K.In h) (G : h.Ns mainGlobals mg) (hfa : mg "law" = some (.ref fa))
    {f1 f2 f3 f4 f5 f6 f7 f8 f9 f10 f11 f12 f13 f14 f15 f16 f17 f18 f19 f20 f21 f22 f23 f24 f25 f26 f27 f28 f29 f30 : Addr}
    {od1 od2 od3 od4 od5 od6 od7 od8 od9 od10 od11 od12 od13 od14 od15 od16 od17 od18 od19 od20 od21 od22 od23 od24 od25 od26 od27 od28 od29 od30 an1 an2 an3 an4 an5 an6 an7 an8 an9 an10 an11 an12 an13 an14 an15 an16 an17 an18 an19 an20 an21 an22 an23 an24 an25 an26 an27 an28 an29 an30 : Option Addr} {sl1 sl2 sl3 sl4 sl5 sl6 sl7 sl8 sl9 sl10 sl11 sl12 sl13 sl14 sl15 sl16 sl17 sl18 sl19 sl20 sl21 sl22 sl23 sl24 sl25 sl26 sl27 sl28 sl29 sl30 : Array (Option Value)} {oc1 oc2 oc3 oc4 oc5 oc6 oc7 oc8 oc9 oc10 oc11 oc12 oc13 oc14 oc15 oc16 oc17 oc18 oc19 oc20 oc21 oc22 oc23 oc24 oc25 oc26 oc27 oc28 oc29 oc30 kV1 kV2 kV3 kV4 kV5 kV6 kV7 kV8 kV9 kV10 kV11 kV12 kV13 kV14 kV15 kV16 kV17 kV18 kV19 kV20 kV21 kV22 kV23 kV24 kV25 kV26 kV27 kV28 kV29 kV30 dc1 dc2 dc3 dc4 dc5 dc6 dc7 dc8 dc9 dc10 dc11 dc12 dc13 dc14 dc15 dc16 dc17 dc18 dc19 dc20 dc21 dc22 dc23 dc24 dc25 dc26 dc27 dc28 dc29 dc30 pm1 pm2 pm3 pm4 pm5 pm6 pm7 pm8 pm9 pm10 pm11 pm12 pm13 pm14 pm15 pm16 pm17 pm18 pm19 pm20 pm21 pm22 pm23 pm24 pm25 pm26 pm27 pm28 pm29 pm30 cd1 cd2 cd3 cd4 cd5 cd6 cd7 cd8 cd9 cd10 cd11 cd12 cd13 cd14 cd15 cd16 cd17 cd18 cd19 cd20 cd21 cd22 cd23 cd24 cd25 cd26 cd27 cd28 cd29 cd30 ct1 ct2 ct3 ct4 ct5 ct6 ct7 ct8 ct9 ct10 ct11 ct12 ct13 ct14 ct15 ct16 ct17 ct18 ct19 ct20 ct21 ct22 ct23 ct24 ct25 ct26 ct27 ct28 ct29 ct30 : Value}
    (a1 : PySem.W.nsIn K mainGlobals "lowest" = some (some (.ref f1))) (l1 : K.lookup f1 = some ⟨oc1, od1, .func (PySem.W.fnOf "lowest" "lowest" (defArgs s_lowest) (defBody s_lowest) (defScope s_lowest) .none kV1 dc1 pm1 an1 cd1 ct1), sl1⟩) (c1 : PySem.W.codeIn K cd1 "lowest" = true) (k1 : PySem.W.keepIn K (.ref f1) = true)
    (a2 : PySem.W.nsIn K mainGlobals "is_whole" = some (some (.ref f2))) (l2 : K.lookup f2 = some ⟨oc2, od2, .func (PySem.W.fnOf "is_whole" "is_whole" (defArgs s_is_whole) (defBody s_is_whole) (defScope s_is_whole) .none kV2 dc2 pm2 an2 cd2 ct2), sl2⟩) (c2 : PySem.W.codeIn K cd2 "is_whole" = true) (k2 : PySem.W.keepIn K (.ref f2) = true)
    (a3 : PySem.W.nsIn K mainGlobals "chain_error" = some (some (.ref f3))) (l3 : K.lookup f3 = some ⟨oc3, od3, .func (PySem.W.fnOf "chain_error" "chain_error" (defArgs s_chain_error) (defBody s_chain_error) (defScope s_chain_error) .none kV3 dc3 pm3 an3 cd3 ct3), sl3⟩) (c3 : PySem.W.codeIn K cd3 "chain_error" = true) (k3 : PySem.W.keepIn K (.ref f3) = true)
    (a4 : PySem.W.nsIn K mainGlobals "are_signs" = some (some (.ref f4))) (l4 : K.lookup f4 = some ⟨oc4, od4, .func (PySem.W.fnOf "are_signs" "are_signs" (defArgs s_are_signs) (defBody s_are_signs) (defScope s_are_signs) .none kV4 dc4 pm4 an4 cd4 ct4), sl4⟩) (c4 : PySem.W.codeIn K cd4 "are_signs" = true) (k4 : PySem.W.keepIn K (.ref f4) = true)
    (a5 : PySem.W.nsIn K mainGlobals "ascends" = some (some (.ref f5))) (l5 : K.lookup f5 = some ⟨oc5, od5, .func (PySem.W.fnOf "ascends" "ascends" (defArgs s_ascends) (defBody s_ascends) (defScope s_ascends) .none kV5 dc5 pm5 an5 cd5 ct5), sl5⟩) (c5 : PySem.W.codeIn K cd5 "ascends" = true) (k5 : PySem.W.keepIn K (.ref f5) = true)
    (a6 : PySem.W.nsIn K mainGlobals "_is_line" = some (some (.ref f6))) (l6 : K.lookup f6 = some ⟨oc6, od6, .func (PySem.W.fnOf "_is_line" "_is_line" (defArgs s_is_line) (defBody s_is_line) (defScope s_is_line) .none kV6 dc6 pm6 an6 cd6 ct6), sl6⟩) (c6 : PySem.W.codeIn K cd6 "_is_line" = true) (k6 : PySem.W.keepIn K (.ref f6) = true)
    (a7 : PySem.W.nsIn K mainGlobals "_lines_error" = some (some (.ref f7))) (l7 : K.lookup f7 = some ⟨oc7, od7, .func (PySem.W.fnOf "_lines_error" "_lines_error" (defArgs s_lines_error) (defBody s_lines_error) (defScope s_lines_error) .none kV7 dc7 pm7 an7 cd7 ct7), sl7⟩) (c7 : PySem.W.codeIn K cd7 "_lines_error" = true) (k7 : PySem.W.keepIn K (.ref f7) = true)
    (a8 : PySem.W.nsIn K mainGlobals "plain" = some (some (.ref f8))) (l8 : K.lookup f8 = some ⟨oc8, od8, .func (PySem.W.fnOf "plain" "plain" (defArgs s_plain) (defBody s_plain) (defScope s_plain) .none kV8 dc8 pm8 an8 cd8 ct8), sl8⟩) (c8 : PySem.W.codeIn K cd8 "plain" = true) (k8 : PySem.W.keepIn K (.ref f8) = true)
    (a9 : PySem.W.nsIn K mainGlobals "_plain_lines" = some (some (.ref f9))) (l9 : K.lookup f9 = some ⟨oc9, od9, .func (PySem.W.fnOf "_plain_lines" "_plain_lines" (defArgs s_plain_lines) (defBody s_plain_lines) (defScope s_plain_lines) .none kV9 dc9 pm9 an9 cd9 ct9), sl9⟩) (c9 : PySem.W.codeIn K cd9 "_plain_lines" = true) (k9 : PySem.W.keepIn K (.ref f9) = true)
    (a10 : PySem.W.nsIn K mainGlobals "_plain_line" = some (some (.ref f10))) (l10 : K.lookup f10 = some ⟨oc10, od10, .func (PySem.W.fnOf "_plain_line" "_plain_line" (defArgs s_plain_line) (defBody s_plain_line) (defScope s_plain_line) .none kV10 dc10 pm10 an10 cd10 ct10), sl10⟩) (c10 : PySem.W.codeIn K cd10 "_plain_line" = true) (k10 : PySem.W.keepIn K (.ref f10) = true)
    (a11 : PySem.W.nsIn K mainGlobals "start_share" = some (some (.ref f11))) (l11 : K.lookup f11 = some ⟨oc11, od11, .func (PySem.W.fnOf "start_share" "start_share" (defArgs s_start_share) (defBody s_start_share) (defScope s_start_share) .none kV11 dc11 pm11 an11 cd11 ct11), sl11⟩) (c11 : PySem.W.codeIn K cd11 "start_share" = true) (k11 : PySem.W.keepIn K (.ref f11) = true)
    (a12 : PySem.W.nsIn K mainGlobals "step_share" = some (some (.ref f12))) (l12 : K.lookup f12 = some ⟨oc12, od12, .func (PySem.W.fnOf "step_share" "step_share" (defArgs s_step_share) (defBody s_step_share) (defScope s_step_share) .none kV12 dc12 pm12 an12 cd12 ct12), sl12⟩) (c12 : PySem.W.codeIn K cd12 "step_share" = true) (k12 : PySem.W.keepIn K (.ref f12) = true)
    (a13 : PySem.W.nsIn K mainGlobals "tell_share" = some (some (.ref f13))) (l13 : K.lookup f13 = some ⟨oc13, od13, .func (PySem.W.fnOf "tell_share" "tell_share" (defArgs s_tell_share) (defBody s_tell_share) (defScope s_tell_share) .none kV13 dc13 pm13 an13 cd13 ct13), sl13⟩) (c13 : PySem.W.codeIn K cd13 "tell_share" = true) (k13 : PySem.W.keepIn K (.ref f13) = true)
    (a14 : PySem.W.nsIn K mainGlobals "_share" = some (some (.ref f14))) (l14 : K.lookup f14 = some ⟨oc14, od14, .func (PySem.W.fnOf "_share" "_share" (defArgs s_share) (defBody s_share) (defScope s_share) .none kV14 dc14 pm14 an14 cd14 ct14), sl14⟩) (c14 : PySem.W.codeIn K cd14 "_share" = true) (k14 : PySem.W.keepIn K (.ref f14) = true)
    (a15 : PySem.W.nsIn K mainGlobals "_law_deck" = some (some (.ref f15))) (l15 : K.lookup f15 = some ⟨oc15, od15, .func (PySem.W.fnOf "_law_deck" "_law_deck" (defArgs s_law_deck) (defBody s_law_deck) (defScope s_law_deck) .none kV15 dc15 pm15 an15 cd15 ct15), sl15⟩) (c15 : PySem.W.codeIn K cd15 "_law_deck" = true) (k15 : PySem.W.keepIn K (.ref f15) = true)
    (a16 : PySem.W.nsIn K mainGlobals "_law_draw" = some (some (.ref f16))) (l16 : K.lookup f16 = some ⟨oc16, od16, .func (PySem.W.fnOf "_law_draw" "_law_draw" (defArgs s_law_draw) (defBody s_law_draw) (defScope s_law_draw) .none kV16 dc16 pm16 an16 cd16 ct16), sl16⟩) (c16 : PySem.W.codeIn K cd16 "_law_draw" = true) (k16 : PySem.W.keepIn K (.ref f16) = true)
    (a17 : PySem.W.nsIn K mainGlobals "_law_pick" = some (some (.ref f17))) (l17 : K.lookup f17 = some ⟨oc17, od17, .func (PySem.W.fnOf "_law_pick" "_law_pick" (defArgs s_law_pick) (defBody s_law_pick) (defScope s_law_pick) .none kV17 dc17 pm17 an17 cd17 ct17), sl17⟩) (c17 : PySem.W.codeIn K cd17 "_law_pick" = true) (k17 : PySem.W.keepIn K (.ref f17) = true)
    (a18 : PySem.W.nsIn K mainGlobals "_law_shuffled" = some (some (.ref f18))) (l18 : K.lookup f18 = some ⟨oc18, od18, .func (PySem.W.fnOf "_law_shuffled" "_law_shuffled" (defArgs s_law_shuffled) (defBody s_law_shuffled) (defScope s_law_shuffled) .none kV18 dc18 pm18 an18 cd18 ct18), sl18⟩) (c18 : PySem.W.codeIn K cd18 "_law_shuffled" = true) (k18 : PySem.W.keepIn K (.ref f18) = true)
    (a19 : PySem.W.nsIn K mainGlobals "_law_gcd" = some (some (.ref f19))) (l19 : K.lookup f19 = some ⟨oc19, od19, .func (PySem.W.fnOf "_law_gcd" "_law_gcd" (defArgs s_law_gcd) (defBody s_law_gcd) (defScope s_law_gcd) .none kV19 dc19 pm19 an19 cd19 ct19), sl19⟩) (c19 : PySem.W.codeIn K cd19 "_law_gcd" = true) (k19 : PySem.W.keepIn K (.ref f19) = true)
    (a20 : PySem.W.nsIn K mainGlobals "_law_low" = some (some (.ref f20))) (l20 : K.lookup f20 = some ⟨oc20, od20, .func (PySem.W.fnOf "_law_low" "_law_low" (defArgs s_law_low) (defBody s_law_low) (defScope s_law_low) .none kV20 dc20 pm20 an20 cd20 ct20), sl20⟩) (c20 : PySem.W.codeIn K cd20 "_law_low" = true) (k20 : PySem.W.keepIn K (.ref f20) = true)
    (a21 : PySem.W.nsIn K mainGlobals "_law_line" = some (some (.ref f21))) (l21 : K.lookup f21 = some ⟨oc21, od21, .func (PySem.W.fnOf "_law_line" "_law_line" (defArgs s_law_line) (defBody s_law_line) (defScope s_law_line) .none kV21 dc21 pm21 an21 cd21 ct21), sl21⟩) (c21 : PySem.W.codeIn K cd21 "_law_line" = true) (k21 : PySem.W.keepIn K (.ref f21) = true)
    (a22 : PySem.W.nsIn K mainGlobals "_law_chain" = some (some (.ref f22))) (l22 : K.lookup f22 = some ⟨oc22, od22, .func (PySem.W.fnOf "_law_chain" "_law_chain" (defArgs s_law_chain) (defBody s_law_chain) (defScope s_law_chain) .none kV22 dc22 pm22 an22 cd22 ct22), sl22⟩) (c22 : PySem.W.codeIn K cd22 "_law_chain" = true) (k22 : PySem.W.keepIn K (.ref f22) = true)
    (a23 : PySem.W.nsIn K mainGlobals "_law_by" = some (some (.ref f23))) (l23 : K.lookup f23 = some ⟨oc23, od23, .func (PySem.W.fnOf "_law_by" "_law_by" (defArgs s_law_by) (defBody s_law_by) (defScope s_law_by) .none kV23 dc23 pm23 an23 cd23 ct23), sl23⟩) (c23 : PySem.W.codeIn K cd23 "_law_by" = true) (k23 : PySem.W.keepIn K (.ref f23) = true)
    (a24 : PySem.W.nsIn K mainGlobals "_law_many_by" = some (some (.ref f24))) (l24 : K.lookup f24 = some ⟨oc24, od24, .func (PySem.W.fnOf "_law_many_by" "_law_many_by" (defArgs s_law_many_by) (defBody s_law_many_by) (defScope s_law_many_by) .none kV24 dc24 pm24 an24 cd24 ct24), sl24⟩) (c24 : PySem.W.codeIn K cd24 "_law_many_by" = true) (k24 : PySem.W.keepIn K (.ref f24) = true)
    (a25 : PySem.W.nsIn K mainGlobals "_law_great" = some (some (.ref f25))) (l25 : K.lookup f25 = some ⟨oc25, od25, .func (PySem.W.fnOf "_law_great" "_law_great" (defArgs s_law_great) (defBody s_law_great) (defScope s_law_great) .none kV25 dc25 pm25 an25 cd25 ct25), sl25⟩) (c25 : PySem.W.codeIn K cd25 "_law_great" = true) (k25 : PySem.W.keepIn K (.ref f25) = true)
    (a26 : PySem.W.nsIn K mainGlobals "_law_wide_chain" = some (some (.ref f26))) (l26 : K.lookup f26 = some ⟨oc26, od26, .func (PySem.W.fnOf "_law_wide_chain" "_law_wide_chain" (defArgs s_law_wide_chain) (defBody s_law_wide_chain) (defScope s_law_wide_chain) .none kV26 dc26 pm26 an26 cd26 ct26), sl26⟩) (c26 : PySem.W.codeIn K cd26 "_law_wide_chain" = true) (k26 : PySem.W.keepIn K (.ref f26) = true)
    (a27 : PySem.W.nsIn K mainGlobals "_law_divided_line" = some (some (.ref f27))) (l27 : K.lookup f27 = some ⟨oc27, od27, .func (PySem.W.fnOf "_law_divided_line" "_law_divided_line" (defArgs s_law_divided_line) (defBody s_law_divided_line) (defScope s_law_divided_line) .none kV27 dc27 pm27 an27 cd27 ct27), sl27⟩) (c27 : PySem.W.codeIn K cd27 "_law_divided_line" = true) (k27 : PySem.W.keepIn K (.ref f27) = true)
    (a28 : PySem.W.nsIn K mainGlobals "_law_plain" = some (some (.ref f28))) (l28 : K.lookup f28 = some ⟨oc28, od28, .func (PySem.W.fnOf "_law_plain" "_law_plain" (defArgs s_law_plain) (defBody s_law_plain) (defScope s_law_plain) .none kV28 dc28 pm28 an28 cd28 ct28), sl28⟩) (c28 : PySem.W.codeIn K cd28 "_law_plain" = true) (k28 : PySem.W.keepIn K (.ref f28) = true)
    (a29 : PySem.W.nsIn K mainGlobals "_law_are_shares" = some (some (.ref f29))) (l29 : K.lookup f29 = some ⟨oc29, od29, .func (PySem.W.fnOf "_law_are_shares" "_law_are_shares" (defArgs s_law_are_shares) (defBody s_law_are_shares) (defScope s_law_are_shares) .none kV29 dc29 pm29 an29 cd29 ct29), sl29⟩) (c29 : PySem.W.codeIn K cd29 "_law_are_shares" = true) (k29 : PySem.W.keepIn K (.ref f29) = true)
    (a30 : PySem.W.nsIn K mainGlobals "law" = some (some (.ref f30))) (l30 : K.lookup f30 = some ⟨oc30, od30, .func (PySem.W.fnOf "law" "law" (defArgs s_law) (defBody s_law) (defScope s_law) .none kV30 dc30 pm30 an30 cd30 ct30), sl30⟩) (c30 : PySem.W.codeIn K cd30 "law" = true) (k30 : PySem.W.keepIn K (.ref f30) = true)
    (z1 : PySem.W.nsIn K mainGlobals "abs" = some none) (z2 : PySem.W.nsIn K mainGlobals "int" = some none) (z3 : PySem.W.nsIn K mainGlobals "len" = some none) (z4 : PySem.W.nsIn K mainGlobals "range" = some none) (z5 : PySem.W.nsIn K mainGlobals "repr" = some none) (z6 : PySem.W.nsIn K mainGlobals "isinstance" = some none) (z7 : PySem.W.nsIn K mainGlobals "tuple" = some none) (z8 : PySem.W.nsIn K mainGlobals "list" = some none) (z9 : PySem.W.nsIn K mainGlobals "str" = some none) (z10 : PySem.W.nsIn K mainGlobals "sum" = some none) (z11 : PySem.W.nsIn K mainGlobals "all" = some none) (z12 : PySem.W.nsIn K mainGlobals "any" = some none) (z13 : PySem.W.nsIn K mainGlobals "zip" = some none) (z14 : PySem.W.nsIn K mainGlobals "enumerate" = some none) (z15 : PySem.W.nsIn K mainGlobals "sorted" = some none) (z16 : PySem.W.nsIn K mainGlobals "reversed" = some none) (z17 : PySem.W.nsIn K mainGlobals "bool" = some none) (z18 : PySem.W.nsIn K mainGlobals "dict" = some none) (z19 : PySem.W.nsIn K mainGlobals "max" = some none) (z20 : PySem.W.nsIn K mainGlobals "min" = some none) (z21 : PySem.W.nsIn K mainGlobals "ord" = some none) (z22 : PySem.W.nsIn K mainGlobals "chr" = some none) (z23 : PySem.W.nsIn K mainGlobals "divmod" = some none) (z24 : PySem.W.nsIn K mainGlobals "set" = some none)
    (agc : PySem.W.nsIn K mainGlobals "gcd" = some (some (.builtin "math.gcd")))
    (aMS : PySem.W.nsIn K mainGlobals "MAX_STATES" = some (some (.int 6 tS))) (aMG : PySem.W.nsIn K mainGlobals "MAX_SIGNS" = some (some (.int 5 tG)))
    (aU : PySem.W.nsIn K mainGlobals "Unfit" = some (some (.ref CU)))
    (u1 : PySem.W.excIn K CU [.type "ValueError", .type "Exception", .type "BaseException", .type "object"] "ValueError.__new__" = true) (u2 : PySem.W.keepIn K (.ref CU) = true) (u3 : PySem.W.subIn K (.ref CU) (.type "BaseException") = some true) (u4 : PySem.W.typeIn K (.ref CU) = some (.type "type")) :
    ∃ fd : FuncData, (∀ (s : Shared) (v : Value), BindsTo s fd ⟨[v], []⟩ [("script", v)]) ∧ ∀ base : Heap, K.In base → base.Ns mainGlobals mg → FG l.prog w K mg base 5 fa fd ["script"] (spLaw K) := by
  have e := hfa.symm.trans (PySem.W.mg_of X G a30)
  cases e
  have F_lowest := fun_mk (st := s_lowest) l1 c1 k1
  have m_lowest := PySem.W.mg_of X G a1
  have b_lowest := F_lowest.binds (ps := ["a", "b"]) fun _ _ _ _ _ _ us hl => match us, hl with | [_, _], _ => rfl
  have F_is_whole := fun_mk (st := s_is_whole) l2 c2 k2
  have m_is_whole := PySem.W.mg_of X G a2
  have b_is_whole := F_is_whole.binds (ps := ["value"]) fun _ _ _ _ _ _ us hl => match us, hl with | [_], _ => rfl
  have F_chain_error := fun_mk (st := s_chain_error) l3 c3 k3
  have m_chain_error := PySem.W.mg_of X G a3
  have b_chain_error := F_chain_error.binds (ps := ["value"]) fun _ _ _ _ _ _ us hl => match us, hl with | [_], _ => rfl
  have F_are_signs := fun_mk (st := s_are_signs) l4 c4 k4
  have m_are_signs := PySem.W.mg_of X G a4
  have b_are_signs := F_are_signs.binds (ps := ["value"]) fun _ _ _ _ _ _ us hl => match us, hl with | [_], _ => rfl
  have F_ascends := fun_mk (st := s_ascends) l5 c5 k5
  have m_ascends := PySem.W.mg_of X G a5
  have b_ascends := F_ascends.binds (ps := ["items"]) fun _ _ _ _ _ _ us hl => match us, hl with | [_], _ => rfl
  have F_is_line := fun_mk (st := s_is_line) l6 c6 k6
  have m_is_line := PySem.W.mg_of X G a6
  have b_is_line := F_is_line.binds (ps := ["value"]) fun _ _ _ _ _ _ us hl => match us, hl with | [_], _ => rfl
  have F_lines_error := fun_mk (st := s_lines_error) l7 c7 k7
  have m_lines_error := PySem.W.mg_of X G a7
  have b_lines_error := F_lines_error.binds (ps := ["value", "word", "states", "width"]) fun _ _ _ _ _ _ us hl => match us, hl with | [_, _, _, _], _ => rfl
  have F_plain := fun_mk (st := s_plain) l8 c8 k8
  have m_plain := PySem.W.mg_of X G a8
  have b_plain := F_plain.binds (ps := ["chain"]) fun _ _ _ _ _ _ us hl => match us, hl with | [_], _ => rfl
  have F_plain_lines := fun_mk (st := s_plain_lines) l9 c9 k9
  have m_plain_lines := PySem.W.mg_of X G a9
  have b_plain_lines := F_plain_lines.binds (ps := ["lines"]) fun _ _ _ _ _ _ us hl => match us, hl with | [_], _ => rfl
  have F_plain_line := fun_mk (st := s_plain_line) l10 c10 k10
  have m_plain_line := PySem.W.mg_of X G a10
  have b_plain_line := F_plain_line.binds (ps := ["line"]) fun _ _ _ _ _ _ us hl => match us, hl with | [_], _ => rfl
  have F_start_share := fun_mk (st := s_start_share) l11 c11 k11
  have m_start_share := PySem.W.mg_of X G a11
  have b_start_share := F_start_share.binds (ps := ["chain", "state"]) fun _ _ _ _ _ _ us hl => match us, hl with | [_, _], _ => rfl
  have F_step_share := fun_mk (st := s_step_share) l12 c12 k12
  have m_step_share := PySem.W.mg_of X G a12
  have b_step_share := F_step_share.binds (ps := ["chain", "one", "other"]) fun _ _ _ _ _ _ us hl => match us, hl with | [_, _, _], _ => rfl
  have F_tell_share := fun_mk (st := s_tell_share) l13 c13 k13
  have m_tell_share := PySem.W.mg_of X G a13
  have b_tell_share := F_tell_share.binds (ps := ["chain", "state", "sign"]) fun _ _ _ _ _ _ us hl => match us, hl with | [_, _, _], _ => rfl
  have F_share := fun_mk (st := s_share) l14 c14 k14
  have m_share := PySem.W.mg_of X G a14
  have b_share := F_share.binds (ps := ["line", "place"]) fun _ _ _ _ _ _ us hl => match us, hl with | [_, _], _ => rfl
  have F_law_deck := fun_mk (st := s_law_deck) l15 c15 k15
  have m_law_deck := PySem.W.mg_of X G a15
  have b_law_deck := F_law_deck.binds (ps := ["script"]) fun _ _ _ _ _ _ us hl => match us, hl with | [_], _ => rfl
  have F_law_draw := fun_mk (st := s_law_draw) l16 c16 k16
  have m_law_draw := PySem.W.mg_of X G a16
  have b_law_draw := F_law_draw.binds (ps := ["deck", "many"]) fun _ _ _ _ _ _ us hl => match us, hl with | [_, _], _ => rfl
  have F_law_pick := fun_mk (st := s_law_pick) l17 c17 k17
  have m_law_pick := PySem.W.mg_of X G a17
  have b_law_pick := F_law_pick.binds (ps := ["deck", "items"]) fun _ _ _ _ _ _ us hl => match us, hl with | [_, _], _ => rfl
  have F_law_shuffled := fun_mk (st := s_law_shuffled) l18 c18 k18
  have m_law_shuffled := PySem.W.mg_of X G a18
  have b_law_shuffled := F_law_shuffled.binds (ps := ["deck", "items"]) fun _ _ _ _ _ _ us hl => match us, hl with | [_, _], _ => rfl
  have F_law_gcd := fun_mk (st := s_law_gcd) l19 c19 k19
  have m_law_gcd := PySem.W.mg_of X G a19
  have b_law_gcd := F_law_gcd.binds (ps := ["a", "b"]) fun _ _ _ _ _ _ us hl => match us, hl with | [_, _], _ => rfl
  have F_law_low := fun_mk (st := s_law_low) l20 c20 k20
  have m_law_low := PySem.W.mg_of X G a20
  have b_law_low := F_law_low.binds (ps := ["a", "b"]) fun _ _ _ _ _ _ us hl => match us, hl with | [_, _], _ => rfl
  have F_law_line := fun_mk (st := s_law_line) l21 c21 k21
  have m_law_line := PySem.W.mg_of X G a21
  have b_law_line := F_law_line.binds (ps := ["deck", "many"]) fun _ _ _ _ _ _ us hl => match us, hl with | [_, _], _ => rfl
  have F_law_chain := fun_mk (st := s_law_chain) l22 c22 k22
  have m_law_chain := PySem.W.mg_of X G a22
  have b_law_chain := F_law_chain.binds (ps := ["deck", "states", "signs"]) fun _ _ _ _ _ _ us hl => match us, hl with | [_, _, _], _ => rfl
  have F_law_by := fun_mk (st := s_law_by) l23 c23 k23
  have m_law_by := PySem.W.mg_of X G a23
  have b_law_by := F_law_by.binds (ps := ["deck", "line"]) fun _ _ _ _ _ _ us hl => match us, hl with | [_, _], _ => rfl
  have F_law_many_by := fun_mk (st := s_law_many_by) l24 c24 k24
  have m_law_many_by := PySem.W.mg_of X G a24
  have b_law_many_by := F_law_many_by.binds (ps := ["deck", "chain"]) fun _ _ _ _ _ _ us hl => match us, hl with | [_, _], _ => rfl
  have F_law_great := fun_mk (st := s_law_great) l25 c25 k25
  have m_law_great := PySem.W.mg_of X G a25
  have b_law_great := F_law_great.binds (ps := ["deck", "figures"]) fun _ _ _ _ _ _ us hl => match us, hl with | [_, _], _ => rfl
  have F_law_wide_chain := fun_mk (st := s_law_wide_chain) l26 c26 k26
  have m_law_wide_chain := PySem.W.mg_of X G a26
  have b_law_wide_chain := F_law_wide_chain.binds (ps := ["deck", "chain"]) fun _ _ _ _ _ _ us hl => match us, hl with | [_, _], _ => rfl
  have F_law_divided_line := fun_mk (st := s_law_divided_line) l27 c27 k27
  have m_law_divided_line := PySem.W.mg_of X G a27
  have b_law_divided_line := F_law_divided_line.binds (ps := ["line"]) fun _ _ _ _ _ _ us hl => match us, hl with | [_], _ => rfl
  have F_law_plain := fun_mk (st := s_law_plain) l28 c28 k28
  have m_law_plain := PySem.W.mg_of X G a28
  have b_law_plain := F_law_plain.binds (ps := ["chain"]) fun _ _ _ _ _ _ us hl => match us, hl with | [_], _ => rfl
  have F_law_are_shares := fun_mk (st := s_law_are_shares) l29 c29 k29
  have m_law_are_shares := PySem.W.mg_of X G a29
  have b_law_are_shares := F_law_are_shares.binds (ps := ["deck", "chain", "due"]) fun _ _ _ _ _ _ us hl => match us, hl with | [_, _, _], _ => rfl
  have F_law := fun_mk (st := s_law) l30 c30 k30
  have m_law := PySem.W.mg_of X G a30
  have b_law := F_law.binds (ps := ["script"]) fun _ _ _ _ _ _ us hl => match us, hl with | [_], _ => rfl
  have B := blt_mk X G z1 z2 z3 z4 z5 z6 z7 z8 z9 z10 z11 z12 z13 z14 z15 z16 z17 z18 z19 z20 z21 z22 z23 z24
  have eU : ErrC K mg "Unfit" CU := ⟨u1, PySem.W.mg_of X G aU, u2, u3, u4⟩
  have main : ∀ base : Heap, K.In base → base.Ns mainGlobals mg → FG l.prog w K mg base 5 fa (PySem.W.fnOf "law" "law" (defArgs s_law) (defBody s_law) (defScope s_law) .none kV30 dc30 pm30 an30 cd30 ct30) ["script"] (spLaw K) := by
    intro base KB GB
    have g := PySem.W.mg_of X G agc
    have gS := PySem.W.mg_of X G aMS
    have gG := PySem.W.mg_of X G aMG
    have cw := FnAt.mk' (base := base) (P := l.prog) (w := w) F_law_draw (ok_law_draw B F_law_draw) m_law_draw b_law_draw
    have cp := FnAt.mk' (base := base) (P := l.prog) (w := w) F_law_pick (ok_law_pick B F_law_pick cw) m_law_pick b_law_pick
    have cd := FnAt.mk' (base := base) (P := l.prog) (w := w) F_law_deck (ok_law_deck B F_law_deck) m_law_deck b_law_deck
    have cg := FnAt.mk' (base := base) (P := l.prog) (w := w) F_law_gcd (ok_law_gcd B F_law_gcd) m_law_gcd b_law_gcd
    have cl := FnAt.mk' (base := base) (P := l.prog) (w := w) F_law_low (ok_law_low B F_law_low cg) m_law_low b_law_low
    have cr := FnAt.mk' (base := base) (P := l.prog) (w := w) F_law_great (ok_law_great B F_law_great cw) m_law_great b_law_great
    have csh := FnAt.mk' (base := base) (P := l.prog) (w := w) F_law_shuffled (ok_law_shuffled B F_law_shuffled cw) m_law_shuffled b_law_shuffled
    have cln := FnAt.mk' (base := base) (P := l.prog) (w := w) F_law_line (ok_law_line B F_law_line cw cp) m_law_line b_law_line
    have cch := FnAt.mk' (base := base) (P := l.prog) (w := w) F_law_chain (ok_law_chain B F_law_chain cw csh cln) m_law_chain b_law_chain
    have cby := FnAt.mk' (base := base) (P := l.prog) (w := w) F_law_by (ok_law_by B F_law_by cp) m_law_by b_law_by
    have cmb := FnAt.mk' (base := base) (P := l.prog) (w := w) F_law_many_by (ok_law_many_by B F_law_many_by cby) m_law_many_by b_law_many_by
    have cwd := FnAt.mk' (base := base) (P := l.prog) (w := w) F_law_wide_chain (ok_law_wide_chain B F_law_wide_chain cw cp cr) m_law_wide_chain b_law_wide_chain
    have cdl := FnAt.mk' (base := base) (P := l.prog) (w := w) F_law_divided_line (ok_law_divided_line B F_law_divided_line cg) m_law_divided_line b_law_divided_line
    have clp := FnAt.mk' (base := base) (P := l.prog) (w := w) F_law_plain (ok_law_plain B F_law_plain cdl) m_law_plain b_law_plain
    have c1 := FnAt.mk' (base := base) (P := l.prog) (w := w) F_lowest (ok_lowest g eU F_lowest) m_lowest b_lowest
    have cpl := FnAt.mk' (base := base) (P := l.prog) (w := w) F_plain_line (ok_plain_line B g F_plain_line) m_plain_line b_plain_line
    have cps := FnAt.mk' (base := base) (P := l.prog) (w := w) F_plain_lines (ok_plain_lines B F_plain_lines cpl) m_plain_lines b_plain_lines
    have cpn := FnAt.mk' (base := base) (P := l.prog) (w := w) F_plain (ok_plain F_plain cpl cps) m_plain b_plain
    have csr := FnAt.mk' (base := base) (P := l.prog) (w := w) F_share (ok_share B F_share c1) m_share b_share
    have cs1 := FnAt.mk' (base := base) (P := l.prog) (w := w) F_start_share (ok_start_share F_start_share csr) m_start_share b_start_share
    have cs2 := FnAt.mk' (base := base) (P := l.prog) (w := w) F_step_share (ok_step_share F_step_share csr) m_step_share b_step_share
    have cs3 := FnAt.mk' (base := base) (P := l.prog) (w := w) F_tell_share (ok_tell_share F_tell_share csr) m_tell_share b_tell_share
    have cwh := FnAt.mk' (base := base) (P := l.prog) (w := w) F_is_whole (ok_is_whole B F_is_whole) m_is_whole b_is_whole
    have cil := FnAt.mk' (base := base) (P := l.prog) (w := w) F_is_line (ok_is_line B F_is_line cwh) m_is_line b_is_line
    have caz := FnAt.mk' (base := base) (P := l.prog) (w := w) F_ascends (ok_ascends B F_ascends) m_ascends b_ascends
    have cas := FnAt.mk' (base := base) (P := l.prog) (w := w) F_are_signs (ok_are_signs B caz gG F_are_signs) m_are_signs b_are_signs
    have cle := FnAt.mk' (base := base) (P := l.prog) (w := w) F_lines_error (ok_lines_error B F_lines_error cil) m_lines_error b_lines_error
    have cce := FnAt.mk' (base := base) (P := l.prog) (w := w) F_chain_error (ok_chain_error B gS F_chain_error cil cas cle) m_chain_error b_chain_error
    have car := FnAt.mk' (base := base) (P := l.prog) (w := w) F_law_are_shares (ok_law_are_shares B F_law_are_shares cw cl cs1 cs2 cs3) m_law_are_shares b_law_are_shares
    exact ok_law B F_law cd cp cw cch cwd clp cmb cpn cce car
  refine ⟨_, ?_, main⟩
  exact fun s v => .of_eq rfl
end VK
open PySem PySem.W PyProof.Rows
set_option maxHeartbeats 0 in
theorem PySem.Challenge.cw_veiledchains_k04_whole_plain_chains_and_holds : PySem.Challenge.rw_veiledchains_k04_whole_plain_chains_and.Holds := by
  w_on; o_law; k_head; (case hw => w_witness2)
  k_fill
  refine VB.walkG (l := PySem.Challenge.rw_veiledchains_k04_whole_plain_chains_and) (n := 63) (k := 5) (x := "script") (sp := VB.spLaw) rfl (by decide) rfl ⟨rfl, by decide, by decide⟩ (fun w h Y => PySem.W.kIn_of Y) ?F (fun K H a ns hl _ hS => ⟨a, ns, rfl, hS, hl, fun _ => rfl⟩)
  case F =>
    intro w mg fa h KX G hmg
    refine' VK.all_mk KX G hmg ?a1 ?l1 ?c1 ?k1 ?a2 ?l2 ?c2 ?k2 ?a3 ?l3 ?c3 ?k3 ?a4 ?l4 ?c4 ?k4 ?a5 ?l5 ?c5 ?k5 ?a6 ?l6 ?c6 ?k6 ?a7 ?l7 ?c7 ?k7 ?a8 ?l8 ?c8 ?k8 ?a9 ?l9 ?c9 ?k9 ?a10 ?l10 ?c10 ?k10 ?a11 ?l11 ?c11 ?k11 ?a12 ?l12 ?c12 ?k12 ?a13 ?l13 ?c13 ?k13 ?a14 ?l14 ?c14 ?k14 ?a15 ?l15 ?c15 ?k15 ?a16 ?l16 ?c16 ?k16 ?a17 ?l17 ?c17 ?k17 ?a18 ?l18 ?c18 ?k18 ?a19 ?l19 ?c19 ?k19 ?a20 ?l20 ?c20 ?k20 ?a21 ?l21 ?c21 ?k21 ?a22 ?l22 ?c22 ?k22 ?a23 ?l23 ?c23 ?k23 ?a24 ?l24 ?c24 ?k24 ?a25 ?l25 ?c25 ?k25 ?a26 ?l26 ?c26 ?k26 ?a27 ?l27 ?c27 ?k27 ?a28 ?l28 ?c28 ?k28 ?a29 ?l29 ?c29 ?k29 ?a30 ?l30 ?c30 ?k30 ?z1 ?z2 ?z3 ?z4 ?z5 ?z6 ?z7 ?z8 ?z9 ?z10 ?z11 ?z12 ?z13 ?z14 ?z15 ?z16 ?z17 ?z18 ?z19 ?z20 ?z21 ?z22 ?z23 ?z24 ?agc ?aMS ?aMG ?aU ?u1 ?u2 ?u3 ?u4
    (case a1 => k_is); (case l1 => k_is); (case c1 => k_is); (case k1 => k_is); (case a2 => k_is); (case l2 => k_is); (case c2 => k_is); (case k2 => k_is); (case a3 => k_is); (case l3 => k_is); (case c3 => k_is); (case k3 => k_is); (case a4 => k_is); (case l4 => k_is); (case c4 => k_is); (case k4 => k_is); (case a5 => k_is); (case l5 => k_is); (case c5 => k_is); (case k5 => k_is); (case a6 => k_is); (case l6 => k_is); (case c6 => k_is); (case k6 => k_is); (case a7 => k_is); (case l7 => k_is); (case c7 => k_is); (case k7 => k_is); (case a8 => k_is); (case l8 => k_is); (case c8 => k_is); (case k8 => k_is); (case a9 => k_is); (case l9 => k_is); (case c9 => k_is); (case k9 => k_is); (case a10 => k_is); (case l10 => k_is); (case c10 => k_is); (case k10 => k_is); (case a11 => k_is); (case l11 => k_is); (case c11 => k_is); (case k11 => k_is); (case a12 => k_is); (case l12 => k_is); (case c12 => k_is); (case k12 => k_is); (case a13 => k_is); (case l13 => k_is); (case c13 => k_is); (case k13 => k_is); (case a14 => k_is); (case l14 => k_is); (case c14 => k_is); (case k14 => k_is); (case a15 => k_is); (case l15 => k_is); (case c15 => k_is); (case k15 => k_is); (case a16 => k_is); (case l16 => k_is); (case c16 => k_is); (case k16 => k_is); (case a17 => k_is); (case l17 => k_is); (case c17 => k_is); (case k17 => k_is); (case a18 => k_is); (case l18 => k_is); (case c18 => k_is); (case k18 => k_is); (case a19 => k_is); (case l19 => k_is); (case c19 => k_is); (case k19 => k_is); (case a20 => k_is); (case l20 => k_is); (case c20 => k_is); (case k20 => k_is); (case a21 => k_is); (case l21 => k_is); (case c21 => k_is); (case k21 => k_is); (case a22 => k_is); (case l22 => k_is); (case c22 => k_is); (case k22 => k_is); (case a23 => k_is); (case l23 => k_is); (case c23 => k_is); (case k23 => k_is); (case a24 => k_is); (case l24 => k_is); (case c24 => k_is); (case k24 => k_is); (case a25 => k_is); (case l25 => k_is); (case c25 => k_is); (case k25 => k_is); (case a26 => k_is); (case l26 => k_is); (case c26 => k_is); (case k26 => k_is); (case a27 => k_is); (case l27 => k_is); (case c27 => k_is); (case k27 => k_is); (case a28 => k_is); (case l28 => k_is); (case c28 => k_is); (case k28 => k_is); (case a29 => k_is); (case l29 => k_is); (case c29 => k_is); (case k29 => k_is); (case a30 => k_is); (case l30 => k_is); (case c30 => k_is); (case k30 => k_is)
    (case aU => k_is); (case agc => k_is); (case aMS => k_is); (case aMG => k_is)
    (case z1 => k_is); (case z2 => k_is); (case z3 => k_is); (case z4 => k_is); (case z5 => k_is); (case z6 => k_is); (case z7 => k_is); (case z8 => k_is); (case z9 => k_is); (case z10 => k_is); (case z11 => k_is); (case z12 => k_is); (case z13 => k_is); (case z14 => k_is); (case z15 => k_is); (case z16 => k_is); (case z17 => k_is); (case z18 => k_is); (case z19 => k_is); (case z20 => k_is); (case z21 => k_is); (case z22 => k_is); (case z23 => k_is); (case z24 => k_is)
    (case u1 => k_exc); (case u2 => k_is); (case u3 => k_is); (case u4 => k_is)
#print axioms PySem.Challenge.cw_veiledchains_k04_whole_plain_chains_and_holds
