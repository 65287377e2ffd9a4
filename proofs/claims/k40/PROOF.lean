import PyProof.Rows.All
import Wide.All
import OpenK.AllK
import Wide.FinOn
import PyProof.StrLawsRepr
import PyProof.EqAt
import PyProof.EqKinds
import PyProof.TupleCall
import PyProof.ReprRoads
import KE.KExcIs
import HandS.ForMost
import HandS.Exc
import HandS.ExcInit
import HandS.ExcValue
import HandS.IsInst
import HandS.WordsExc
import HandS.SlotsOwn
import HandS.MakeKw
import HandS.MakeKwOnly
import KE.KCallOwn
import KE.KFmtOwn
import PyProof.Rows.StrMul
import HandS.Defaults
import HandS.Head0
import HandS.Head1
import HandS.Head2
import HandS.HeadEnd
import HandS.HeadHook1
import HandS.HeadHook2
import HandS.RaiseMore
import HandS.More
import HandS.HeadHook3
import HandS.FStr
import HandS.ClsMeth
import HandS.Codes
import Wide.Once
import PySem.Challenge.RW_twoheads_k40_claims_and_their_words
set_option Elab.async false
set_option linter.all false
set_option maxRecDepth 100000
set_option maxHeartbeats 8000000
/-! Tw, part 1: calls where no repr runs around; errors as values; errors kept behind their except suite. -/
namespace Tw
open PySem PySem.Spec PyProof.Rows L2

/-! ### no repr is running around -/
abbrev NoG (A : Around) : Prop := A.guards = some []
structure FnG (P : Program) (w : World) (K : PySem.W.Frag) (mg : Str → Option Value) (base : Heap) (CX : CXT) (k : Nat) (f : Addr) (fd : FuncData) (ps : List Str) (sp : Sp) : Prop where
  len : ∀ vs H Q E, sp vs H Q E → vs.length = ps.length
  run : ∀ (A : Around) (outer : List Env) (s : Shared) (H : Hp) (args : Args) (us : List Value) (vs : List V) (Q : VK) (E : XK), Room k A → NoG A → Env0 P w K mg base A outer s H →
    BindsTo s fd args (ps.zip us) → Vals vs us → sp vs H Q E → codeAny (model P w) A (.call (.ref f) args) (CR CX outer P w H s Q E) s
section
variable {P : Program} {w : World} {K : PySem.W.Frag} {mg : Str → Option Value} {base : Heap} {CX : CXT}
theorem FnG.of {k : Nat} {f : Addr} {fd : FuncData} {ps : List Str} {sp : Sp} (F : FnOk P w K mg base CX k f fd ps sp) : FnG P w K mg base CX k f fd ps sp :=
  ⟨F.len, fun A outer s H args us vs Q E hr _ => F.run A outer s H args us vs Q E hr⟩
theorem FnG.mono {j k : Nat} {f : Addr} {fd : FuncData} {ps : List Str} {sp : Sp} (F : FnG P w K mg base CX j f fd ps sp) (h : j ≤ k) : FnG P w K mg base CX k f fd ps sp :=
  ⟨F.len, fun A outer s H args us vs Q E hr => F.run A outer s H args us vs Q E (hr.mono h)⟩
/-- a def by its body, where no repr runs around -/
theorem fng {k : Nat} {f : Addr} {name qual : Str} {params : Arguments} {body : List Stmt} {scope : Scope} {dV kV doc pm cdv ct oc : Value} {an od : Option Addr} {osl : Array (Option Value)} {N ps : List Str} {sp : Sp}
    (lk : K.lookup f = some ⟨oc, od, .func (PySem.W.fnOf name qual params body scope dV kV doc pm an cdv ct), osl⟩) (hcd : PySem.W.codeIn K cdv qual = true) (S : FnScope N ps scope) (len : ∀ vs H Q E, sp vs H Q E → vs.length = ps.length)
    (hbody : ∀ (A : Around) (outer : List Env) (s : Shared) (H : Hp) (vs : List V) (Q : VK) (E : XK), Room k (A.deeper (envOfC qual scope s.heap.objs.size f cdv)) → NoG (A.deeper (envOfC qual scope s.heap.objs.size f cdv)) → sp vs H Q E →
      ∃ t, PSs (cxOf CX P w K mg base N qual scope f cdv A outer s H E) body t ∧ t { nx := fun _ H' => Q .non H', rt := Q } (start N vs) H) :
    FnG P w K mg base CX (k + 1) f (PySem.W.fnOf name qual params body scope dV kV doc pm an cdv ct) ps sp := by
  refine ⟨len, fun A outer s H args us vs Q E hr hg e0 hb r hsp => ?_⟩
  have at0 : ∀ b o, base.get? b = some o → s.heap.get? b = some o := fun b o e => (e0.bs b o e).1
  have hkind : ∀ y ∈ ps.zip us, scope.names.lookup y.1 = some .local ∨ (scope.names.lookup y.1 = some .cell ∧ ((cellsFrom (s.heap.objs.size + 1) scope.names []).lookup y.1).isSome = true) := by
    rintro ⟨n, v⟩ hy
    rcases S.par n (List.of_mem_zip hy).1 with q | q
    · exact .inl q
    · exact .inr ⟨q, PySem.W.cellsFrom_some _ _ _ (.inl q)⟩
  refine codeAny_call_function hr.depth ((e0.mod.kin.keeps at0) _ _ lk) rfl S.co S.gen rfl (PySem.W.codeRec_of (e0.mod.kin.keeps at0) hcd) (hb _ _ _ _ ?_)
  refine wpAny_newFunctionEnv_cells S.kind hkind fun env he s1 x => ?_
  subst he
  refine ⟨(e0.mod.nolimit.keeps at0).keeps x.toInCall.keep, codeAny_func ?_⟩
  obtain ⟨t, ht, hq⟩ := hbody A outer s H vs Q E (hr.deeper _) hg hsp
  refine wpAny_mono (ht.run [] s1 (start N vs) H _ (inv_start S hr.hd e0 (len _ _ _ _ hsp) r x) hq) (fun fl s' hs => ?_) fun e s' hs => hs
  cases fl with
  | ret u =>
    obtain ⟨v, σ', H', J, rv, q⟩ := hs
    exact ⟨v, H', J.os, J.bare, J.base, J.hok, rv, q⟩
  | next =>
    obtain ⟨σ', H', J, q⟩ := hs
    exact ⟨.non, H', J.os, J.bare, J.base, J.hok, rfl, q⟩
  | brk => exact hs.elim fun _ z => z.elim fun _ z => z.2.elim
  | cont => exact hs.elim fun _ z => z.elim fun _ z => z.2.elim
/-- the same for a def as the text has it -/
theorem _root_.L2.Fun.okG {x qual : Str} {st : Stmt} {f : Addr} {fd : FuncData} {N ps : List Str} {k : Nat} {sp : Sp} (F : Fun K x qual st f fd) (S : FnScope N ps (defScope st)) (len : ∀ vs H Q E, sp vs H Q E → vs.length = ps.length)
    (hbody : ∀ (cdv : Value) (A : Around) (outer : List Env) (s : Shared) (H : Hp) (vs : List V) (Q : VK) (E : XK), Room k (A.deeper (envOfC qual (defScope st) s.heap.objs.size f cdv)) → NoG (A.deeper (envOfC qual (defScope st) s.heap.objs.size f cdv)) → sp vs H Q E →
      ∃ t, PSs (cxOf CX0 P w K mg base N qual (defScope st) f cdv A outer s H E).nox (defBody st) t ∧ t { nx := fun _ H' => Q .non H', rt := Q } (start N vs) H) : FnG P w K mg base CX0 (k + 1) f fd ps sp := by
  obtain ⟨oc, od, kV, doc, pm, an, cdv, ct, osl, rfl, lk, hcd⟩ := F.ex
  refine fng lk hcd S len fun A outer s H vs Q E hr hg hsp => ?_
  obtain ⟨t, h, q⟩ := hbody cdv A outer s H vs Q E hr hg hsp
  exact ⟨t, h.nox, q⟩
end
section
variable {X : Cx} {CX : CXT} {k : Nat} {f : Addr} {fd : FuncData} {ps : List Str} {sp : Sp} {dvs : List V} {ds : List Value} {E : XK} {x : Str} {p pos : Pos} {e : Expr} {es : List Expr} {t : TA}
theorem run_fnG {pins : List (Addr × Obj)} {σ : L2.St} {H : Hp} {s : Shared} {Q : VK} {us : List Value} {vs : List V} (F : FnG X.prog X.w X.K X.mg X.base CX k f fd ps sp) (hr : Room k X.A) (hG : NoG X.A) (hb : Binds X.K fd ps ds) (hd : Vals dvs ds) (hx : Passes CX X E)
    (I : Inv X pins σ H s) (r : Vals vs us) (h : sp (vs ++ dvs) H Q E) : wpAny (model X.prog X.w) X.A (call (.ref f) us) (EP X pins σ Q) X.xe s := by
  have r2 : Vals (vs ++ dvs) (us ++ ds) := r.append hd
  have hl : (us ++ ds).length = ps.length := r2.length.symm.trans (F.len _ _ _ _ h)
  refine wpAny_call (codeAny_mono (F.run X.A X.stack s H ⟨us, []⟩ (us ++ ds) (vs ++ dvs) Q E hr hG I.env0 (hb s us I.kIn hl) r2 h) fun r s' hq => ?_)
  match r, hq with
  | .error e, hq => exact hx pins σ H s e s' I hq
  | .ok (.ret u), hq => exact I.after hq
/-- f(e, ..) -/
theorem pe_callG (F : FnG X.prog X.w X.K X.mg X.base CX k f fd ps sp) (hr : Room k X.A) (hG : NoG X.A) (hg : Gl X x) (hm : X.mg x = some (.ref f)) (hk : PySem.W.keepIn X.K (.ref f) = true) (hb : Binds X.K fd ps ds) (hd : Vals dvs ds) (hx : Passes CX X E)
    (ha : PA X (e :: es) t) (hdb : (x == ("__debug__" : Str)) = false := by decide) (he : starEach (e :: es) X.env = (false, eval e X.env) :: starEach es X.env := by rfl) (hpl : (backTo pos (starEach es X.env)).any (·.1) = false := by rfl) :
    PE X (.Call (.Name x p) (e :: es) [] pos) (tCall sp dvs E t) :=
  ⟨fun pins s σ H Q I h => wpAny_Call_Name_kw (ld_glob I hg hm (PySem.W.callWith_K (h₀ := X.base) I.ok.mod.kin hk (thn (ha.run pos pins s σ H _ I h) fun us s1 ⟨vs, H1, I1, r, q⟩ => ⟨I1.kIn, run_fnG F hr hG hb hd hx I1 r q⟩) he hpl) hdb)⟩
end
end Tw

/-! ### the law's end -/
namespace Tw
open PySem PySem.Spec PyProof.Rows L2
theorem law_endG {P : Program} {w : World} {K : PySem.W.Frag} {mg mb : Str → Option Value} {CX : CXT} {k : Nat} {fa a : Addr} {fd : FuncData} {x : Str} {sp : Sp} {s : Shared} {vs : List Value} {ns : List Int}
    (KX : K.In s.heap) (hns : s.heap.Ns mainGlobals mg) (hb : s.heap.Ns builtinsNs mb) (hbb : ∀ x : Str, x ≠ "__name__" → mb x = bootBuiltins x) (hlim : s.heap.NoLimit) (hg : s.gens = #[])
    (ha : s.heap.get? a = some { cls := .type "list", data := .seq vs.toArray }) (hi : IntsAre vs ns) (hl : ns.length ≤ sizeLine) (hr : Room k callerA)
    (F : ∀ base : Heap, K.In base → base.Ns mainGlobals mg → FnG P w K mg base CX k fa fd [x] sp) (hbind : ∀ (s : Shared) (u : Value), BindsTo s fd ⟨[u], []⟩ [(x, u)])
    (hsp : ∀ H : Hp, Only H → SqL K H a (ns.map V.int) → sp [.ref a] H (fun v _ => v = .bl true) fun _ _ _ => False)
    (hCX : ∀ H e s', CX [] H s (fun _ _ _ => False) e s' → False) :
    codeAny (model P w) callerA (.call (.ref fa) ⟨[.ref a], []⟩) (fun r s' => r = .ok (.ret (.bool true)) ∧ OldK s.heap s'.heap ∧ s'.os = s.os ∧ AllBare s'.gens) s := by
  have rv := vals_ints hi
  have lv := hi.length
  have go : ∀ H : Hp, Only H → SqL K H a (ns.map V.int) → HOk P w H s.heap → (∀ b, H b ≠ none → b = a) → (H a ≠ none → K.lookup a = none) →
      codeAny (model P w) callerA (.call (.ref fa) ⟨[.ref a], []⟩) (fun r s' => r = .ok (.ret (.bool true)) ∧ OldK s.heap s'.heap ∧ s'.os = s.os ∧ AllBare s'.gens) s := by
    intro H hO hS hok hA hK
    have none_of : ∀ {b : Addr}, b ≠ a → H b = none := fun {b} hb => by
      cases q : H b with
      | none => rfl
      | some u => exact absurd (hA b (by rw [q]; exact Option.some_ne_none u)) hb
    have noD : ∀ {b : Addr} {o : Obj} {es : Array DictEntry} {ep : Nat}, s.heap.get? b = some o → o.data = .dict es ep → H b = none := fun {b o es ep} e d => none_of fun z => by
      rw [z, ha] at e
      have e2 := Option.some.inj e
      rw [← e2] at d
      cases d
    have nsK : ∀ {b : Addr} {m : Str → Option Value}, s.heap.Ns b m → (hidT s.heap H).Ns b m := fun {b m} ⟨o, es, ep, e, d, r⟩ => ⟨o, es, ep, hidT_get e (noD e d), d, r⟩
    have hKb : K.In (hidT s.heap H) := fun b o e => hidT_get (KX b o e) (by
      by_cases hb : b = a
      · cases q : H b with
        | none => rfl
        | some u =>
          subst hb
          have z := hK (by rw [q]; exact Option.some_ne_none u)
          rw [z] at e
          cases e
      · exact none_of hb)
    have hM : Mod K mg (hidT s.heap H) := ⟨hKb, nsK hns, ⟨mb, nsK hb, hbb⟩, hlim.elim fun mc z => ⟨mc, nsK z.1, z.2⟩⟩
    have e0 : Env0 P w K mg (hidT s.heap H) callerA [] s H := ⟨rfl, hM, fun b o e => of_hidT e, Nat.le_of_eq (hidT_size _ _), trivial, (fun b hb => nomatch hb), hok, .of_eq hg⟩
    refine codeAny_mono ((F _ hKb (nsK hns)).run callerA [] s H ⟨[.ref a], []⟩ [.ref a] [.ref a] _ _ hr rfl e0 (hbind s (.ref a)) (.cons rfl .nil) (hsp H hO hS)) fun r s' h => ?_
    match r, h with
    | .error e, h => exact (hCX H e s' h).elim
    | .ok (.ret u), h =>
      obtain ⟨v, H', os, bare, un, hok', rv', q⟩ := h
      have q' : v = .bl true := q
      subst q'
      obtain rfl : u = Value.bool true := rv'
      refine ⟨rfl, OldK.of_keep fun b o e => ?_, os, bare⟩
      cases q : H b with
      | none => exact un.keep b o e q (fun z => nomatch z) (fun z => nomatch z)
      | some u =>
        rcases hO b with z | ⟨ob, xs, z⟩
        · rw [q] at z
          cases z
        · obtain ⟨e1, _⟩ := hok b _ z
          obtain ⟨e2, _⟩ := hok' b _ (un.frzs b ob _ z)
          rw [e] at e1
          cases e1
          exact e2
  cases hk : K.lookup a with
  | some o =>
    have e := KX a o hk
    rw [ha] at e
    cases e
    exact go (fun _ => none) (fun _ => .inl rfl) (.inr ⟨_, vs.toArray, _, hk, rfl, rfl, rfl, by rw [List.size_toArray, lv]; exact hl, by simpa using rv⟩) (fun b u z => nomatch z) (fun b z => absurd rfl z) fun z => absurd rfl z
  | none =>
    have at1 : (fun b => if b = a then some (HO.frz { cls := .type "list", data := .seq vs.toArray } (.lst (ns.map V.int))) else none : Hp) a = some (HO.frz { cls := .type "list", data := .seq vs.toArray } (.lst (ns.map V.int))) := if_pos rfl
    refine go (fun b => if b = a then some (.frz { cls := .type "list", data := .seq vs.toArray } (.lst (ns.map V.int))) else none) (fun b => ?_) (.inl (.inr ⟨_, at1⟩)) (fun b u z => ?_) (fun b z => ?_) fun _ => hk
    · by_cases hb : b = a
      · exact .inr ⟨_, _, if_pos hb⟩
      · exact .inl (if_neg hb)
    · by_cases hb : b = a
      · subst hb
        rw [at1] at z
        cases z
        exact ⟨ha, by rw [List.length_map]; exact hl, vs, _, rv, ha⟩
      · have z' := (if_neg hb).symm.trans z
        cases z'
    · by_cases hb : b = a
      · exact hb
      · exact absurd (if_neg hb) z
theorem walk_ofG {l : PySem.W.OpenLaw} {n k : Nat} {q : Program} {loose : List Str} {XP : (Str → Option Value) → Heap → Prop} {YP : World → Heap → Prop} {d : DefRec} {K : Params → PySem.W.Frag} {CX : World → CXT} {sp : World → Sp} {x : Str}
    (hn : l.most = some n) (hn2 : n ≤ sizeLine) (hdf : d.params.defaults = []) (hr : Room k callerA) (hY : ∀ (w : World) (h : Heap), YP w h → (K w.params).In h)
    (F : ∀ (w : World) (mg : Str → Option Value) (fa : Addr) (h : Heap), (K w.params).In h → h.Ns mainGlobals mg → mg d.name = some (.ref fa) →
      ∃ fd : FuncData, (∀ (s : Shared) (u : Value), BindsTo s fd ⟨[u], []⟩ [(x, u)]) ∧ ∀ base : Heap, (K w.params).In base → base.Ns mainGlobals mg → FnG l.prog w (K w.params) mg base (CX w) k fa fd [x] (sp w))
    (hsp : ∀ (w : World) (H : Hp) (a : Addr) (ns : List Int), ns.length ≤ n → Only H → SqL (K w.params) H a (ns.map V.int) → sp w [.ref a] H (fun v _ => v = .bl true) fun _ _ _ => False)
    (hCX : ∀ (w : World) (H : Hp) (s : Shared) (e : Value) (s' : Shared), CX w [] H s (fun _ _ _ => False) e s' → False) :
    PySem.W.WalkO q loose XP YP l.row.toRowW d [] (fun f vs => PySem.call f vs) := by
  refine Att.attach_call hn hdf fun w s₀ s₁ mg mb fa o pm cd doc a vs ns G Y ho hd hcd hmg hobj hints hlen hg => ?_
  obtain ⟨fd, hb, hF⟩ := F w mg fa _ (hY w _ Y) G.T.g hmg
  exact law_endG (hY w _ Y) G.T.g G.T.b G.T.builtins G.T.nolimit hg hobj hints (Nat.le_trans hlen hn2) hr hF hb (fun H hO hS => hsp w H a ns hlen hO hS) fun H e s' => hCX w H s₁ e s'
end Tw
/-! Tw, part 2: repr of data. -/
namespace Tw
open PySem PySem.Spec PyProof.Rows L2

/-! ### how long a repr may be -/
mutual
def cap : PyData → Nat
  | .none => 4
  | .bool _ => 5
  | .int _ => 1921
  | .str x => 10 * x.length + 2
  | .list xs => 2 + capAll xs
  | .tuple xs => 3 + capAll xs
  | .dict kvs => 2 + capKv kvs
def capAll : List PyData → Nat
  | [] => 0
  | x :: xs => cap x + 2 + capAll xs
def capKv : List (PyData × PyData) → Nat
  | [] => 0
  | (k, v) :: r => cap k + 4 + cap v + capKv r
end
mutual
/-- ints of moderate size, texts of plain signs -/
def mild : PyData → Bool
  | .none | .bool _ => true
  | .int i => decide (i.natAbs.log2 < 1920)
  | .str x => x.cps.toList.all fun c => decide (c < 16 ^ 8)
  | .list xs | .tuple xs => mildAll xs
  | .dict kvs => mildKv kvs
def mildAll : List PyData → Bool
  | [] => true
  | x :: xs => mild x && mildAll xs
def mildKv : List (PyData × PyData) → Bool
  | [] => true
  | (k, v) :: r => mild k && (mild v && mildKv r)
end
mutual
theorem mild_show : ∀ d : PyData, mild d = true → d.showable = true
  | .none, _ => rfl
  | .bool _, _ => rfl
  | .str _, _ => rfl
  | .int i, h => by simpa [mild, PyData.showable] using h
  | .list xs, h => by
    simp only [PyData.showable]
    exact mild_showAll xs (by simpa [mild] using h)
  | .tuple xs, h => by
    simp only [PyData.showable]
    exact mild_showAll xs (by simpa [mild] using h)
  | .dict kvs, h => by
    simp only [PyData.showable]
    exact mild_showKv kvs (by simpa [mild] using h)
theorem mild_showAll : ∀ xs : List PyData, mildAll xs = true → PyData.showableAll xs = true
  | [], _ => rfl
  | x :: xs, h => by
    have h2 := Bool.and_eq_true_iff.mp (show (mild x && mildAll xs) = true by simpa [mildAll] using h)
    simp only [PyData.showableAll, mild_show x h2.1, mild_showAll xs h2.2, Bool.and_self]
theorem mild_showKv : ∀ kvs : List (PyData × PyData), mildKv kvs = true → PyData.showableKv kvs = true
  | [], _ => rfl
  | (k, v) :: r, h => by
    have h2 := Bool.and_eq_true_iff.mp (show (mild k && (mild v && mildKv r)) = true by simpa [mildKv] using h)
    have h3 := Bool.and_eq_true_iff.mp h2.2
    simp only [PyData.showableKv, mild_show k h2.1, mild_show v h3.1, mild_showKv r h3.2, Bool.and_self]
end
theorem textFrom_le : ∀ (ts : List Str) (k : Nat) (acc : Str), (textFrom k acc ts).length ≤ acc.length + piled ts
  | [], k, acc => by
    show acc.length ≤ acc.length + _
    omega
  | t :: r, k, acc => by
    have ih := textFrom_le r (k + 1) (acc ++ (if k > 0 then ", " else "" : String) ++ t)
    rw [piled_cons]
    show (textFrom (k + 1) (acc ++ (if k > 0 then ", " else "" : String) ++ t) r).length ≤ _
    rw [strLen_append, strLen_append] at ih
    have e : (Str.ofString (if k > 0 then ", " else "" : String)).length ≤ 2 := by
      by_cases hk : k > 0
      · rw [if_pos hk]; decide
      · rw [if_neg hk]; decide
    have e' : ((if k > 0 then ", " else "" : String) : Str).length ≤ 2 := e
    omega
theorem join_le (ts : List Str) : (Str.join ", " ts).length ≤ piled ts := by
  by_cases h : ts = []
  · subst h
    decide
  · have := join_length_add ts h
    omega
theorem piled_le : ∀ (xs : List PyData) (ts : List Str), ts.length = xs.length → (∀ (i : Nat) (x : PyData) (t : Str), xs[i]? = some x → ts[i]? = some t → t.length ≤ cap x) → piled ts ≤ capAll xs
  | [], [], _, _ => Nat.le_refl _
  | x :: xs, t :: ts, hl, h => by
    have h1 := h 0 x t rfl rfl
    have h2 := piled_le xs ts (by simpa using hl) fun i y u e1 e2 => h (i + 1) y u (by simpa using e1) (by simpa using e2)
    rw [piled_cons]
    simp only [capAll]
    omega
  | [], _ :: _, hl, _ => by simp at hl
  | _ :: _, [], hl, _ => by simp at hl
mutual
theorem shown_le : ∀ d : PyData, mild d = true → d.shown.length ≤ cap d
  | .none, _ => by simp only [PyData.shown, cap]; decide
  | .bool b, _ => by
    simp only [PyData.shown, cap]
    cases b <;> decide
  | .int i, h => by
    have h2 : i.natAbs.log2 < 1920 := by simpa [mild] using h
    have e := int_text_length_le (a := i) (k := 1920) (by decide) h2
    simp only [PyData.shown, cap]
    show (Str.ofString (toString i)).length ≤ 1921
    rw [PySem.ofString_length]
    exact e
  | .str x, h => by
    simp only [PyData.shown, cap]
    exact PySem.StrLaws.reprText_len x fun c hc => of_decide_eq_true (List.all_eq_true.mp (show (x.cps.toList.all fun c => decide (c < 16 ^ 8)) = true by simpa [mild] using h) c hc)
  | .list xs, h => by
    have h2 := shownAll_le xs (by simpa [mild] using h)
    simp only [PyData.shown, cap]
    have e := textFrom_le (PyData.shownAll xs) 0 "["
    unfold listText
    rw [strLen_append]
    have e1 : ("[" : Str).length = 1 := by decide
    have e2 : ("]" : Str).length = 1 := by decide
    omega
  | .tuple xs, h => by
    have h2 := shownAll_le xs (by simpa [mild] using h)
    simp only [PyData.shown, cap]
    have e := join_le (PyData.shownAll xs)
    unfold tupleText
    rw [strLen_append, strLen_append]
    have e1 : ("(" : Str).length = 1 := by decide
    have e2 : ((if (PyData.shownAll xs).length == 1 then ",)" else ")" : String) : Str).length ≤ 2 := by
      cases (PyData.shownAll xs).length == 1 <;> decide
    omega
  | .dict kvs, h => by
    have h2 := shownKv_le kvs (by simpa [mild] using h)
    simp only [PyData.shown, cap]
    have e := join_le (PyData.shownKv kvs)
    unfold dictText
    rw [strLen_append, strLen_append]
    have e1 : ("{" : Str).length = 1 := by decide
    have e2 : ("}" : Str).length = 1 := by decide
    omega
theorem shownAll_le : ∀ xs : List PyData, mildAll xs = true → piled (PyData.shownAll xs) ≤ capAll xs
  | [], _ => by simp only [PyData.shownAll, capAll]; decide
  | x :: xs, h => by
    have h2 := Bool.and_eq_true_iff.mp (show (mild x && mildAll xs) = true by simpa [mildAll] using h)
    have a := shown_le x h2.1
    have b := shownAll_le xs h2.2
    simp only [PyData.shownAll, capAll, piled_cons]
    omega
theorem shownKv_le : ∀ kvs : List (PyData × PyData), mildKv kvs = true → piled (PyData.shownKv kvs) ≤ capKv kvs
  | [], _ => by simp only [PyData.shownKv, capKv]; decide
  | (k, v) :: r, h => by
    have h2 := Bool.and_eq_true_iff.mp (show (mild k && (mild v && mildKv r)) = true by simpa [mildKv] using h)
    have h3 := Bool.and_eq_true_iff.mp h2.2
    have a := shown_le k h2.1
    have b := shown_le v h3.1
    have c := shownKv_le r h3.2
    simp only [PyData.shownKv, capKv, piled_cons]
    rw [strLen_append, strLen_append]
    have e1 : (": " : Str).length = 2 := by decide
    omega
end

/-! ### data in the abstract heap, with flat dicts -/
def keyD : Key → PyData
  | .inl i => .int i
  | .inr x => .str x
mutual
inductive Dx (K : PySem.W.Frag) (H : Hp) : V → PyData → Prop
  | non : Dx K H .non .none
  | bl (b : Bool) : Dx K H (.bl b) (.bool b)
  | int (i : Int) : Dx K H (.int i) (.int i)
  | str (x : Str) : Dx K H (.str x) (.str x)
  | lst {a : Addr} {xs : List V} {ds : List PyData} : SqL K H a xs → a ≠ sysModules → DxAll K H xs ds → Dx K H (.ref a) (.list ds)
  | tup {a : Addr} {xs : List V} {ds : List PyData} : SqT K H a xs → DxAll K H xs ds → Dx K H (.ref a) (.tuple ds)
  | dic {a : Addr} {kvs : List (Key × V)} {ds : List PyData} : H a = some (.dK kvs) → DxAll K H (kvs.map (·.2)) ds → Dx K H (.ref a) (.dict ((kvs.map fun p => keyD p.1).zip ds))
inductive DxAll (K : PySem.W.Frag) (H : Hp) : List V → List PyData → Prop
  | nil : DxAll K H [] []
  | cons {v : V} {vs : List V} {d : PyData} {ds : List PyData} : Dx K H v d → DxAll K H vs ds → DxAll K H (v :: vs) (d :: ds)
end
section
variable {X : Cx} {pins : List (Addr × Obj)} {σ : L2.St} {H : Hp} {s : Shared}
theorem DxAll.len : ∀ {vs : List V} {ds : List PyData}, DxAll X.K H vs ds → vs.length = ds.length
  | [], _, .nil => rfl
  | _ :: _, _, .cons _ t => by
    have := DxAll.len t
    simp [this]
theorem readsAll_keys {h : Heap} : ∀ {kvs : List (Key × V)} {ws : List (Key × Value)} {es : List DictEntry}, KV kvs ws → Pairs (mixKind X.prog X.w) es ws → ReadsAll h (es.map (·.key)) (kvs.map fun p => keyD p.1) []
  | [], _, _, .nil, .nil => .nil
  | (k, v) :: kvs, (k', u) :: ws, e :: es, .cons r t, .cons a b q => by
    obtain ⟨r1, r2⟩ := r
    have ih := readsAll_keys (h := h) t q
    have hk : keyIs k' e.key = true := a
    have r1' : k = k' := r1
    subst r1'
    rcases keyIs_shape hk with ⟨i, tk, e1, e2⟩ | ⟨x, tk, e1, e2⟩
    · subst e1
      show ReadsAll h (e.key :: es.map (·.key)) (PyData.int i :: _) ([] ++ [])
      rw [e2]
      exact .cons (.int i tk) ih
    · subst e1
      show ReadsAll h (e.key :: es.map (·.key)) (PyData.str x :: _) ([] ++ [])
      rw [e2]
      exact .cons (.str x tk) ih
theorem vals_of_pairs : ∀ {kvs : List (Key × V)} {ws : List (Key × Value)} {es : List DictEntry}, KV kvs ws → Pairs (mixKind X.prog X.w) es ws → Vals (kvs.map (·.2)) (es.map (·.val))
  | [], _, _, .nil, .nil => .nil
  | (k, v) :: kvs, (k', u) :: ws, e :: es, .cons r t, .cons a b q => by
    obtain ⟨r1, r2⟩ := r
    refine .cons ?_ (vals_of_pairs t q)
    have b' : e.val = u := b
    show RelV v e.val
    rw [b']
    exact r2
theorem map_fst_zip' {α β : Type} : ∀ {l : List α} {m : List β}, l.length = m.length → (l.zip m).map (·.1) = l
  | [], [], _ => rfl
  | _ :: l, _ :: m, h => by
    have := map_fst_zip' (l := l) (m := m) (by simpa using h)
    simp [this]
  | [], _ :: _, h => by simp at h
  | _ :: _, [], h => by simp at h
theorem map_snd_zip' {α β : Type} : ∀ {l : List α} {m : List β}, l.length = m.length → (l.zip m).map (·.2) = m
  | [], [], _ => rfl
  | _ :: l, _ :: m, h => by
    have := map_snd_zip' (l := l) (m := m) (by simpa using h)
    simp [this]
  | [], _ :: _, h => by simp at h
  | _ :: _, [], h => by simp at h
mutual
theorem Dx.reads (I : Inv X pins σ H s) : ∀ {v : V} {d : PyData} {u : Value}, Dx X.K H v d → RelV v u → ∃ as, Reads s.heap u d as ∧ sysModules ∉ as
  | _, _, _, .non, r => by
    cases r
    exact ⟨_, Reads.none, fun z => nomatch z⟩
  | _, _, _, .bl b, r => by
    cases r
    exact ⟨_, Reads.bool b, fun z => nomatch z⟩
  | _, _, _, .int i, r => by
    obtain ⟨t, rfl⟩ := r
    exact ⟨_, Reads.int i t, fun z => nomatch z⟩
  | _, _, _, .str x, r => by
    obtain ⟨t, rfl⟩ := r
    exact ⟨_, Reads.str x t, fun z => nomatch z⟩
  | _, _, _, .lst (a := a) hs hne ha, r => by
    cases r
    obtain ⟨its, rv, ⟨o, n, ho, hc, _, hd⟩, _⟩ := I.list hs
    obtain ⟨as, hr, hn⟩ := DxAll.reads I ha rv
    refine ⟨_, Reads.list ho hc hd hr, fun z => ?_⟩
    rcases List.mem_cons.mp z with z | z
    · exact hne z.symm
    · exact hn z
  | _, _, _, .tup hs ha, r => by
    cases r
    obtain ⟨its, rv, ⟨o, ho, hc, n, hd⟩, _⟩ := I.tuple hs
    obtain ⟨as, hr, hn⟩ := DxAll.reads I ha rv
    exact ⟨_, Reads.tuple ho hc hd hr, hn⟩
  | _, _, _, .dic (kvs := kvs) hs ha, r => by
    cases r
    obtain ⟨_, hsys, ws, hkv, o, es, ep, ho, hx, hd, _, hp, _⟩ := I.hok _ _ hs
    have hl := DxAll.len (X := X) ha
    have rv := vals_of_pairs (X := X) hkv hp
    obtain ⟨as, hr, hn⟩ := DxAll.reads I ha rv
    have hk := readsAll_keys (h := s.heap) hkv hp
    refine ⟨_, Reads.dict ho hx.1 hd (as := []) (bs := as) (by rw [map_fst_zip' (by rw [List.length_map, ← hl, List.length_map])]; exact hk) (by rw [map_snd_zip' (by rw [List.length_map, ← hl, List.length_map])]; exact hr), fun z => ?_⟩
    rcases List.mem_cons.mp (by simpa using z) with z | z
    · rw [← z] at hsys
      simp at hsys
    · exact hn z
theorem DxAll.reads (I : Inv X pins σ H s) : ∀ {vs : List V} {ds : List PyData} {us : List Value}, DxAll X.K H vs ds → Vals vs us → ∃ as, ReadsAll s.heap us ds as ∧ sysModules ∉ as
  | _, _, _, .nil, .nil => ⟨_, .nil, fun z => nomatch z⟩
  | _, _, _, .cons h t, .cons r q => by
    obtain ⟨as, h1, n1⟩ := Dx.reads I h r
    obtain ⟨bs, h2, n2⟩ := DxAll.reads I t q
    exact ⟨_, .cons h1 h2, fun z => (List.mem_append.mp z).elim n1 n2⟩
end
end
end Tw

/-! ### the rules -/
namespace Tw
open PySem PySem.Spec PyProof.Rows L2
theorem boot_repr : bootBuiltins "repr" = some (.builtin "repr") := by decide +kernel
section
variable {X : Cx}
/-- repr(x), x a list or a tuple of data -/
def rRepr (K : PySem.W.Frag) : List V → Hp → VK → Prop := fun xs H Q => ∃ (a : Addr) (d : PyData), xs = [.ref a] ∧ Dx K H (.ref a) d ∧ mild d = true ∧ d.depth ≤ 64 ∧ cap d ≤ 16777216 ∧ Q (.str d.shown) H
theorem call_repr (hG : NoG X.A) (hu : X.A.units + 70 < cLine) : CallR X (.builtin "repr") (rRepr X.K) := by
  intro pins s σ H xs us Q I r h
  obtain ⟨a, d, rfl, hd, hm, hdp, hc, q⟩ := h
  obtain ⟨u, rfl, ru⟩ := vals1 r
  obtain ⟨as, hr, hn⟩ := Dx.reads I hd ru
  cases (show u = Value.ref a from ru)
  exact repr_of_reads' hr (mild_show d hm) (fun _ => hn) hG (by omega) (fun _ _ e => e) (fun h' u tk hk => ⟨.str d.shown, H, I.kept (t' := tk) hk, ⟨_, rfl⟩, q⟩) (Nat.le_trans (shown_le d hm) (by rw [sizeLine_eq]; exact hc))
mutual
theorem dp_reads {pins : List (Addr × Obj)} {σ : L2.St} {H : Hp} {s : Shared} (I : Inv X pins σ H s) : ∀ {v : V} {d : PyData}, Dp X.K H v d → d.hasDict = false
  | _, _, .non => by simp only [PyData.hasDict]
  | _, _, .bl _ => by simp only [PyData.hasDict]
  | _, _, .int _ => by simp only [PyData.hasDict]
  | _, _, .str _ => by simp only [PyData.hasDict]
  | _, _, .lst _ ha => by
    simp only [PyData.hasDict]
    exact dpAll_reads I ha
  | _, _, .tup _ ha => by
    simp only [PyData.hasDict]
    exact dpAll_reads I ha
theorem dpAll_reads {pins : List (Addr × Obj)} {σ : L2.St} {H : Hp} {s : Shared} (I : Inv X pins σ H s) : ∀ {vs : List V} {ds : List PyData}, DpAll X.K H vs ds → PyData.hasDictAll ds = false
  | _, _, .nil => by simp only [PyData.hasDictAll]
  | _, _, .cons h t => by simp only [PyData.hasDictAll, dp_reads I h, dpAll_reads I t, Bool.or_self]
end
def rReprD (K : PySem.W.Frag) : List V → Hp → VK → Prop := fun xs H Q => ∃ (a : Addr) (d : PyData), xs = [.ref a] ∧ Dp K H (.ref a) d ∧ mild d = true ∧ d.depth ≤ 64 ∧ cap d ≤ 16777216 ∧ Q (.str d.shown) H
theorem call_reprD (hG : NoG X.A) (hu : X.A.units + 70 < cLine) : CallR X (.builtin "repr") (rReprD X.K) := by
  intro pins s σ H xs us Q I r h
  obtain ⟨a, d, rfl, hd, hm, hdp, hc, q⟩ := h
  obtain ⟨u, rfl, ru⟩ := vals1 r
  obtain ⟨as, hr⟩ := Dp.reads I d _ u hd ru
  cases (show u = Value.ref a from ru)
  exact repr_of_reads' hr (mild_show d hm) (PyData.noDict_hsm (dp_reads I hd)) hG (by omega) (fun _ _ e => e) (fun h' u tk hk => ⟨.str d.shown, H, I.kept (t' := tk) hk, ⟨_, rfl⟩, q⟩) (Nat.le_trans (shown_le d hm) (by rw [sizeLine_eq]; exact hc))
/-! ### lists that are known to stand elsewhere than the table of modules -/
variable {es : List Expr} {t : TA} {pos : Pos}
def tLstB (t : TA) : TE := fun σ H Q => t σ H fun xs H1 => xs.length ≤ sizeLine ∧ ∀ p, H1 p = none → p ≠ sysModules → Q (.ref p) (upd H1 p (.lst xs))
theorem pe_lstB (h : PA X es t) : PE X (.List es pos) (tLstB t) := by
  refine ⟨fun pins s σ H Q I hq => wpAny_List_spliced (thn (h.run pos pins s σ H _ I hq) fun us s1 ⟨xs, H1, I1, r, z, q⟩ => ⟨by rw [← r.length]; exact z, ?_⟩)⟩
  exact ⟨.ref s1.heap.objs.size, upd H1 s1.heap.objs.size (.lst xs), I1.laid (t' := s1.toks) (fun b u e => Heap.get?_push_of_some _ e) (Nat.le_refl _) ⟨z, us, 0, r, Heap.get?_push_size _ rfl⟩, rfl, q _ (I1.hok.fresh (Nat.le_refl _)) (Nat.ne_of_gt I1.big)⟩
def rCatB : R2 := fun x y H Q => ∃ l b xs zs, x = .ref l ∧ y = .ref b ∧ H l = some (.lst xs) ∧ H b = some (.lst zs) ∧ xs.length + zs.length ≤ sizeLine ∧ ∀ p, H p = none → p ≠ sysModules → Q (.ref p) (upd H p (.lst (xs ++ zs)))
theorem op_catB : OpR X (binaryOp .Add) rCatB := by
  intro pins s σ H x y v u Q I rx ry h
  obtain ⟨l, b, xs, zs, rfl, rfl, hH, hB, hz, q⟩ := h
  cases rx
  cases ry
  obtain ⟨z, its, n, r, hl, e⟩ := I.lstM hH
  obtain ⟨z2, its2, n2, r2, hl2, e2⟩ := I.lstM hB
  refine PySem.P.add_list e e2 ?_ (by rw [List.size_toArray, List.size_toArray]; omega)
  rw [show its.toArray ++ its2.toArray = (its ++ its2).toArray by simp]
  exact ⟨.ref _, _, I.lnew (t' := s.toks) (r.append r2) (by rw [List.length_append]; omega), rfl, q _ I.fresh (Nat.ne_of_gt I.big)⟩
end
end Tw
/-! Tw, part 3: errors of own classes as values. -/
namespace Tw
open PySem PySem.Spec PyProof.Rows L2

/-- at a: an error of the class at C (made or caught), its own dict at d -/
def exT (a C : Addr) (d : Option Addr) : HO := .ext fun h => ∃ (oe : Obj) (vs : Array Value), h.get? a = some oe ∧ Zc (.ref C) d oe ∧ oe.data = .fields vs
theorem exT_ok {P : Program} {w : World} {H : Hp} {h : Heap} {a C : Addr} {d : Option Addr} {oe : Obj} {vs : Array Value} (e : h.get? a = some oe) (z : Zc (.ref C) d oe) (hd : oe.data = .fields vs) : ObjOk P w H h a (exT a C d) :=
  ⟨⟨oe, vs, e, z, hd⟩, ⟨oe, e⟩, fun _ _ ⟨o, v, q, r⟩ k => ⟨o, v, k o q, r⟩⟩
def IsX (H : Hp) (a C : Addr) (d : Option Addr) : Prop := H a = some (exo a C d) ∨ H a = some (exT a C d)
def IsXd (H : Hp) (d : Addr) (fs : List (Str × V)) : Prop := H d = some (exd d fs) ∨ H d = some (.xd fs)
theorem IsX.get {P : Program} {w : World} {H : Hp} {h : Heap} {a C : Addr} {d : Option Addr} (hok : HOk P w H h) (x : IsX H a C d) : ∃ (oe : Obj) (vs : Array Value), h.get? a = some oe ∧ Zc (.ref C) d oe ∧ oe.data = .fields vs := by
  rcases x with e | e
  · obtain ⟨t1, q⟩ := exo_at hok e
    exact ⟨_, _, q, ⟨rfl, rfl⟩, rfl⟩
  · have x : ObjOk P w H h a (.ext fun h => ∃ (oe : Obj) (vs : Array Value), h.get? a = some oe ∧ Zc (.ref C) d oe ∧ oe.data = .fields vs) := hok a _ e
    exact x.1
theorem IsXd.get {P : Program} {w : World} {H : Hp} {h : Heap} {d : Addr} {fs : List (Str × V)} (hok : HOk P w H h) (x : IsXd H d fs) : ∃ mA, h.Ns1 d mA ∧ ∀ f, RelO (fs.lookup f) (mA f) := by
  rcases x with e | e
  · exact exd_at hok e
  · exact (show ObjOk P w H h d (.xd fs) from hok d _ e)
theorem IsX.same {H H' : Hp} {a C : Addr} {d : Option Addr} (e : Same H H') (x : IsX H a C d) : IsX H' a C d := x.imp (e _ _) (e _ _)
theorem IsXd.same {H H' : Hp} {d : Addr} {fs : List (Str × V)} (e : Same H H') (x : IsXd H d fs) : IsXd H' d fs := x.imp (e _ _) (e _ _)

/-- what the written part says of an error class -/
structure XC (K : PySem.W.Frag) (C : Addr) : Prop where
  ox : OexC K C
  ga : PySem.W.findIn K (.ref C) "__getattribute__" = some (some (.builtin "BaseException.__getattribute__"))
  gg : PySem.W.findIn K (.ref C) "__getattr__" = some none
  hd : PySem.W.hasDictIn K C = true
  ca : PySem.W.findIn K (.ref C) "__class__" = some (some (.builtin "object.__class__"))
  cm : PySem.W.mroIn K C (.type "object") = some true
/-- what it says of object.__class__ -/
structure XO (K : PySem.W.Frag) : Prop where
  hn : PySem.W.specialIn K (.builtin "object.__class__") "__get__" = some (some (.builtin "getset_descriptor.__get__"))
  ht : PySem.W.takesIn K (.builtin "object.__class__") = some true
theorem oexC_cl {K : PySem.W.Frag} {C : Addr} (T : OexC K C) : (PySem.W.clsIn K C).isSome = true := by
  obtain ⟨nm, q, N, bs, bm, sn, sub, ab, col, dd, k0, k1, k2, k3, k5, hC, _⟩ := T.cls
  unfold PySem.W.clsIn
  rw [hC]
  rfl
section
variable {X : Cx} {CX : CXT} {k : Nat} {fI C : Addr} {fd : FuncData} {ps : List Str} {sp : Sp} {dvs : List V} {ds : List Value} {E : XK} {x f : Str} {p pos : Pos} {e : Expr} {es : List Expr} {ta : TA} {te : TE}
/-- C(e, ..) as a value, C an error class whose __init__ keeps sp -/
def tMkX (C : Addr) (sp : Sp) (dvs : List V) (ta : TA) : TE := fun σ H Q => ta σ H fun vs H1 => vs.length ≤ 1000 ∧ ∀ a, H1 a = none → sp (.ref a :: (vs ++ dvs)) (upd H1 a (exo a C none)) (fun v H2 => v = .non ∧ Q (.ref a) H2) (fun _ _ _ => False)
theorem pe_mkX (T : OexC X.K C) (iC : PySem.W.findIn X.K (.ref C) "__init__" = some (some (.ref fI))) (tI : PySem.W.typeIn X.K (.ref fI) = some (.type "function"))
    (F1 : FnOk X.prog X.w X.K X.mg X.base CX k fI fd ps sp) (hr : Room (k + 1) X.A) (hb : Binds X.K fd ps ds) (hd : Vals dvs ds) (hx : Passes CX X (fun _ _ _ => False)) (hg : Gl X x) (hm : X.mg x = some (.ref C)) (ha : PA X (e :: es) ta)
    (hdb : (x == ("__debug__" : Str)) = false := by decide) (he : starEach (e :: es) X.env = (false, eval e X.env) :: starEach es X.env := by rfl) (hpl : (backTo pos (starEach es X.env)).any (·.1) = false := by rfl) :
    PE X (.Call (.Name x p) (e :: es) [] pos) (tMkX C sp dvs ta) := by
  refine ⟨fun pins s σ H Q I h => ?_⟩
  obtain ⟨nm, q, N, bs, bm, sn, sub, ab, col, dd, k0, k1, k2, k3, k5, hC, hbm⟩ := T.cls
  refine wpAny_Call_Name_kw (ld_glob I hg hm ?_ hdb)
  refine PySem.W.callWith_K (h₀ := X.base) I.ok.mod.kin T.kC (thn (ha.run pos pins s σ H _ I h) fun us s1 ⟨vs, H1, I1, r1, hz, q1⟩ => ⟨I1.kIn, ?_⟩) he hpl
  show wpAny _ _ (call (.ref C) us) _ _ _
  obtain ⟨hp, g, dr, tk, os⟩ := s1
  have hsz : hp.objs.size ≤ hp.objs.size + 1 := Nat.le_succ _
  have hq := q1 (hp.objs.size + 1) (I1.hok.fresh hsz)
  have kk : ∀ b o, hp.get? b = some o → ((hp.push (PySem.W.kdv_tup us)).push (PySem.HandSPX.excO C hp.objs.size)).get? b = some o := fun b o z => Heap.get?_push_of_some _ (Heap.get?_push_of_some _ z)
  have hget : ((hp.push (PySem.W.kdv_tup us)).push (PySem.HandSPX.excO C hp.objs.size)).get? (hp.objs.size + 1) = some (PySem.HandSPX.excO C hp.objs.size) := by heap_get
  have I2 := I1.laid (t' := tk) (a := hp.objs.size + 1) (o := exo (hp.objs.size + 1) C none) (h' := (hp.push (PySem.W.kdv_tup us)).push (PySem.HandSPX.excO C hp.objs.size)) kk hsz (exo_ok hget)
  have r2 : Vals (V.ref (hp.objs.size + 1) :: (vs ++ dvs)) (Value.ref (hp.objs.size + 1) :: (us ++ ds)) := .cons rfl (r1.append hd)
  have hl : (Value.ref (hp.objs.size + 1) :: us ++ ds).length = ps.length := r2.length.symm.trans (F1.len _ _ _ _ hq)
  have hus : us.length ≤ sizeLine := by
    rw [← Paired.length r1, sizeLine_eq]
    omega
  refine wpAny_call (PySem.HandSPX.call_own F.excBase_ValueError (fun Y => PySem.HandSPX.refsVE_contains Y bm hbm) (I1.kIn _ _ hC) (PySem.W.looks_findIn I1.kIn iC) (fun self => PySem.W.bind_fn I1.kIn self tI) hus
    (codeAny_mono (F1.run _ X.stack _ _ ⟨Value.ref (hp.objs.size + 1) :: us, []⟩ (Value.ref (hp.objs.size + 1) :: (us ++ ds)) _ _ (fun _ _ _ => False) (hr.make C us []) (I2.env0.make C us []) (hb _ (Value.ref (hp.objs.size + 1) :: us) I2.kIn hl) r2 hq) fun r s' hq' => ?_))
  match r, hq' with
  | .error er, hq' => exact hx pins σ _ _ er s' I2 hq'
  | .ok (.ret u), hq' =>
    obtain ⟨v, H2, os2, bare2, un2, hok2, rv, ev, q2⟩ := hq'
    subst ev
    obtain ⟨h2, g2, d2, t2, os'⟩ := s'
    obtain rfl : os' = os := os2
    exact ⟨rv, .ref (hp.objs.size + 1), H2, I2.call (h' := h2) (g' := g2) (d' := d2) (t' := t2) (ch := []) un2 hok2 bare2 (fun b z => nomatch z), rfl, q2⟩
/-- e.f, e an error -/
def tXfld (K : PySem.W.Frag) (f : Str) (te : TE) : TE := fun σ H Q => te σ H fun x H1 => ∃ (a C d : Addr) (fs : List (Str × V)) (v : V), x = .ref a ∧ IsX H1 a C (some d) ∧ XC K C ∧ PySem.W.findIn K (.ref C) f = some none ∧ IsXd H1 d fs ∧ fs.lookup f = some v ∧ Q v H1
theorem pe_xfld (he : PE X e te) (hb : attributeBase e f X.env (eval e X.env) = eval e X.env := by rfl) : PE X (.Attribute e f pos) (tXfld X.K f te) := by
  refine ⟨fun pins s σ H Q I h => attr_of hb (thn (he.run pins s σ H _ I h) fun u s1 hh => ?_)⟩
  obtain ⟨x, H1, I1, rx, a, C, d, fs, v, ex, ia, T, hno, idd, hl, q⟩ := hh
  subst ex
  obtain rfl : u = Value.ref a := rx
  obtain ⟨oe, vs, ho, hz, hdt⟩ := ia.get I1.hok
  obtain ⟨mA, hns, hr⟩ := idd.get I1.hok
  obtain ⟨od, hod, hlk⟩ := lookIn_ns hns
  obtain ⟨u, hu, ru⟩ := RelO.some_of (v := v) (o := mA f) (by rw [← hl]; exact hr f)
  have J : PySem.W.InstAt s1.heap a oe C (some od) := ⟨ho, hz.1, by unfold PySem.W.notCls; rw [hdt] <;> rfl, by rw [hz.2]; exact hod⟩
  exact HandSPX.exc_get I1.kIn J T.ga T.gg T.ox.exC (PySem.W.findObj_own T.hd hno rfl (by rw [hlk, hu])) (handed_of ru) ⟨v, H1, I1.tok _, ru, q⟩
/-- isinstance(x, c), x anything that is known, errors too -/
def rIsA (K : PySem.W.Frag) : List V → Hp → VK → Prop := fun xs H Q => ∃ (x c : V) (t u : Value) (b : Bool), xs = [x, c] ∧ ClsV c u ∧ (TyX K H x t ∨ ∃ (a C : Addr) (d : Addr) (fs : List (Str × V)), x = .ref a ∧ t = .ref C ∧ IsX H a C (some d) ∧ IsXd H d fs ∧ XC K C ∧ XO K) ∧ PySem.W.kitOne K t u = some b ∧ Q (.bl b) H
theorem call_isA : CallR X (.builtin "isinstance") (rIsA X.K) := by
  intro pins s σ H xs us Q I r h
  obtain ⟨x, c, t, u, b, rfl, k, ty, e, q⟩ := h
  obtain ⟨u1, u2, rfl, r1, r2⟩ := vals2 r
  have e2 := k.eq r2
  subst e2
  rcases ty with ty | ⟨a, C, d, fs, rfl, rfl, ia, idd, T, O⟩
  · obtain ⟨P, Z, p, hx⟩ := kit_of I r1 ty
    exact PySem.W.kia_one Z I.kIn p e hx fun tk => ⟨.bl b, H, I.tok tk, rfl, q⟩
  · cases (show u1 = Value.ref a from r1)
    obtain ⟨oe, vs, ho, hz, hdt⟩ := ia.get I.hok
    obtain ⟨mA, hns, hr⟩ := idd.get I.hok
    obtain ⟨od, hod, hlk⟩ := lookIn_ns hns
    have J : PySem.W.InstAt s.heap a oe C (some od) := ⟨ho, hz.1, by unfold PySem.W.notCls; rw [hdt] <;> rfl, by rw [hz.2]; exact hod⟩
    exact PySem.W.kia_one (PySem.W.kitx_exc (od := some od) (oexC_cl T.ox) T.ga T.gg T.ox.exC T.ca O.hn O.ht T.cm) I.kIn J e (fun z => nomatch z) fun tk => ⟨.bl b, H, I.tok tk, rfl, q⟩
end
end Tw
/-! Tw: try: body, except x as n: suite, the caught error tracked behind the suite. -/
namespace Tw
open PySem PySem.Spec PyProof.Rows L2
section
variable {X : Cx} {pins : List (Addr × Obj)} {σ : L2.St} {H : Hp} {s : Shared}
/-- a pinned error of ours becomes a tracked one -/
theorem track {a C : Addr} {d : Option Addr} {oe : Obj} {vs : Array Value} (I : Inv X ((a, oe) :: pins) σ H s) (h0 : X.s_0.heap.get? a = none) (hne : ∀ p ∈ X.pn ++ pins, p.1 ≠ a) (hz : Zc (.ref C) d oe) (hd : oe.data = .fields vs) :
    Inv X pins σ (upd H a (exT a C d)) s := by
  obtain ⟨ha, na, nL, nF, nC⟩ := I.pin (a, oe) (List.mem_append_right _ List.mem_cons_self)
  have ne : ∀ {b : Addr} {u : HO}, H b = some u → b ≠ a := fun e => ne_of_none e na
  refine ⟨I.ok, I.os, I.bare, ⟨I.base.keep, I.base.slot, fun b o e n hx => ?_, I.base.there, fun b xs e => ?_, fun b o u e => ?_, fun b ps e => ?_⟩, I.loc, I.cell, ?_, fun x c e => ?_, fun p hp => ?_, fun b u e => ?_, I.len⟩
  · rw [upd_ne (fun z => by rw [z, h0] at e; cases e)]
    exact I.base.free b o e n hx
  · have q := I.base.tups b xs e
    rw [upd_ne (ne q)]
    exact q
  · have q := I.base.frzs b o u e
    rw [upd_ne (ne q)]
    exact q
  · obtain ⟨m, q⟩ := I.base.tbls b ps e
    exact ⟨m, by rw [upd_ne (ne q)]; exact q⟩
  · rw [upd_ne (Ne.symm nL)]
    exact I.free
  · obtain ⟨v, o, ho, hv⟩ := I.cell x c e
    rw [upd_ne (fun z => by
      have z' : c = a := z
      rw [z'] at ho
      have ha' : s.heap.get? a = some oe := ha
      rw [ha'] at ho
      cases ho
      exact nC v hv)]
    exact I.freeC x c e
  · obtain ⟨e1, e2, e3⟩ := I.pin p (by
      rcases List.mem_append.mp hp with z | z
      · exact List.mem_append_left _ z
      · exact List.mem_append_right _ (List.mem_cons_of_mem _ z))
    exact ⟨e1, by rw [upd_ne (hne p hp)]; exact e2, e3⟩
  · by_cases hb : b = a
    · subst hb
      rw [upd_same] at e
      cases e
      exact exT_ok ha hz hd
    · rw [upd_ne hb] at e
      exact (I.hok b u e).stay (fun _ _ _ q => q) (fun c q => by rw [upd_ne (ne q)]; exact q) fun c xs q => by rw [upd_ne (ne q)]; exact q
end
/-- what the clause wishes: its error stands tracked behind the suite -/
def wAsK (K : PySem.W.Frag) (c : Value) (i : Nat) (ts : Addr → Value → Option Addr → TS) (Wout : WX) (D : Ends) : WX := fun cls d σ H =>
  ∃ (C : Addr) (b : Bool), cls = .ref C ∧ PySem.W.exmOne K cls c = some b ∧ (b = true → ∀ a, H a = none → ts a cls d { nx := fun σ' H' => D.nx (σ'.set i none) (upd H' a (exT a C d)), rt := D.rt, bk := fun σ' H' => D.bk (σ'.set i none) H', ct := fun σ' H' => D.ct (σ'.set i none) H' } (σ.set i (some (.ref a))) H) ∧
    (b = false → Wout cls d σ H)
section
variable {X : Cx} {x n : Str} {c : Value} {i : Nat} {body suite : List Stmt} {b₀ : Stmt} {np pos pos' : Pos} {tb : WX → TS} {ts : Addr → Value → Option Addr → TS} {Wout : WX}
theorem ps_tryK (hex : X.ex = []) (hs : X.stack = X.env :: X.outer) (hf : X.env.frame = some X.env.locals) (hN : X.N.Nodup) (hi : X.N[i]? = some n) (hln : X.env.kindOf n = some .local) (hc : Names X x c) (tk : Takes X Wout)
    (hb : ∀ (W : WX) (pn : List (Addr × Obj)) (xe : Value → Shared → Prop), Takes (X.tr pn xe) W → PassesOwn (model X.prog X.w) X.A X.env xe → PSs (X.tr pn xe) body (tb W))
    (hsu : ∀ (a : Addr) (oe : Obj) (cls : Value) (d : Option Addr) (pn : List (Addr × Obj)), Zc cls d oe → (∃ vs, oe.data = .fields vs) → PSs (X.suite a ((a, oe) :: pn)) (b₀ :: suite) (ts a cls d)) :
    PS X (.Try body [.ExceptHandler (some (.Name x np)) (some n) (b₀ :: suite) pos'] [] [] pos) (fun D σ H => tb (wAsK X.K c i ts Wout D) D σ H) := by
  refine ⟨fun pins s σ H D I h => ?_⟩
  have ok := I.ok
  have hfr : X.A.frames = some (X.env :: X.outer) := by rw [ok.frames, hs]
  have hloc : Loc X.env.scope n := .inl hln
  refine wpAny_Try_except ?_
  refine wpAny_mono ((hb (wAsK X.K c i ts Wout D) (X.pn ++ pins) (fun e s₁ => wpAny (model X.prog X.w) X.A (noteFrame e X.env) (fun _ s₂ => wpAny (model X.prog X.w) X.A (setFlight e none) (fun _ s₃ =>
    wpAny (model X.prog X.w) X.A (handleBy e X.env [.ExceptHandler (some (.Name x np)) (some n) (b₀ :: suite) pos']) (SP X pins D) X.xe s₃) X.xe s₂) X.xe s₁) (fun u s' xx => ?_) PassesOwn.looking).run [] s σ H D (I.toTry _) h) (fun f s1 hsp => ?_) (fun e s1 he => he)
  · obtain ⟨a, B, sI, pins', σ', H', cls, d, rfl, J', nb, up, sky, na, os, ag, C, b, hcls, hb1, hyes, hno⟩ := xx
    have J : Inv X pins σ' H' sI := J'.ofTry ok
    have sky' : Sky B (X.env :: X.outer) a (Zc cls d) X.env.locals s'.heap := by rw [← hs]; exact sky
    show wpAny (model X.prog X.w) X.A (noteFrame (.ref a) X.env) _ _ _
    refine Sky.land Zc.steady hfr hf sky' fun h3 fl3 up3 => ?_
    have J3 : Inv X pins σ' H' { s' with heap := h3 } := J.landed nb fl3.1 (up.trans up3) os ag
    obtain ⟨oe3, vs3, he3, hz3, hd3⟩ := fl3.there
    have notFr : ∀ {h : Heap} {o : Obj} {vs : Array Value}, h.FunFrames B (X.env :: X.outer) → h.get? a = some o → o.data = .fields vs → a ∉ frs (X.env :: X.outer) := fun {h o vs} ff e dd hm => by
      obtain ⟨_, o', e', hnf⟩ := ff.mem hm
      rw [e] at e'
      cases e'
      exact hnf _ dd
    have nfr := notFr fl3.2.2.1 he3 hd3
    have nL : a ≠ X.env.locals := fun z => nfr (List.mem_filterMap.mpr ⟨X.env, List.mem_cons_self, by rw [hf, z]⟩)
    have nF : a ∉ X.fs := fun hm => by
      obtain ⟨e, he, q⟩ := List.mem_filterMap.mp hm
      exact nfr (List.mem_filterMap.mpr ⟨e, List.mem_cons_of_mem _ he, q⟩)
    -- the error is new to this def
    have nI : sI.heap.get? a = none := by
      cases e : sI.heap.get? a with
      | none => rfl
      | some o =>
        have z := nb a o e (by rw [hs]; exact nfr)
        have z2 : B.get? a = none := fl3.2.1
        rw [z2] at z
        cases z
    have n0 : X.s_0.heap.get? a = none := by
      cases e : X.s_0.heap.get? a with
      | none => rfl
      | some o =>
        obtain ⟨o', z⟩ := J.base.there a o e (by rw [hex]; exact fun z => nomatch z)
        rw [nI] at z
        cases z
    have npin : ∀ p ∈ X.pn ++ pins, p.1 ≠ a := fun p hp z => by
      obtain ⟨e, _⟩ := J.pin p hp
      rw [z, nI] at e
      cases e
    have S3 := J3.suite he3 hd3 na nL nF
    refine wpAny_handleBy_cons (codeAny_handlers_test ?_) (by intro q; cases q)
    have LT : PySem.W.Looks (model X.prog X.w) h3 (typeOf (.ref a)) cls := fun A Q E s k q => wpAny_typeOf_ref (k _ _ he3) (by rw [hz3.1]; exact q)
    have LM := PySem.W.exm_one (M := model X.prog X.w) (J3.kIn) LT hb1
    have test : ∀ {Q : Value → Shared → Prop} {E : Value → Shared → Prop}, Q c { s' with heap := h3 } → wpAny (model X.prog X.w) (X.A.mark (some (.ref a))) (eval (.Name x np) X.env) Q E { s' with heap := h3 } := fun {Q E} q => by
      obtain ⟨hg, hdbg, hm | ⟨hm, hv, hnn⟩⟩ := hc
      · exact ld_glob (X := X.suite a ((a, oe3) :: (X.pn ++ pins))) S3 hg hm q hdbg
      · exact ld_blt (X := X.suite a ((a, oe3) :: (X.pn ++ pins))) S3 hg hm hv q hnn hdbg
    refine test (LM.here ?_)
    cases b with
    | true =>
      refine codeAny_handlers_suite_as ?_
      refine HandSPX.lands_againZ fl3 fun h4 fl4 up4 => ?_
      have J4 : Inv X pins σ' H' { s' with heap := h4 } := J.landed nb fl4.1 ((up.trans up3).trans up4) os ag
      obtain ⟨oe4, vs4, he4, hz4, hd4⟩ := fl4.there
      have S4 := J4.suite he4 hd4 na nL nF
      refine store_ok (X := X.suite a ((a, oe4) :: (X.pn ++ pins))) (v := .ref a) S4 hN hi hloc rfl (fun s5 S5 => ?_) (.inr hln)
      refine wpAny_mono ((hsu a oe4 cls d (X.pn ++ pins) hz4 ⟨_, hd4⟩).run [] s5 _ H' _ S5 (hyes rfl a na)) (fun f s6 hsp => ?_) (fun _ _ z => False.elim z)
      have end_ : ∀ {σ6 : L2.St} {H6 : Hp} {Q : Shared → Prop}, Inv (X.suite a ((a, oe4) :: (X.pn ++ pins))) [] σ6 H6 s6 → (∀ s7, Inv X ((a, oe4) :: pins) (σ6.set i none) H6 s7 → Q s7) →
          wpAny (model X.prog X.w) X.A (do bindName X.env n .none; unbindBehindTheSuite X.env n pos') (fun _ s7 => Q s7) X.xe s6 := fun {σ6 H6 Q} S6 hq => by
        have J6 : Inv X ((a, oe4) :: pins) σ6 H6 s6 := (S6.unsuite ok).pins_of fun p hp => S6.pin p (List.mem_append_left _ (by
          rcases List.mem_cons.mp hp with z | z
          · exact List.mem_cons.mpr (.inl z)
          · exact List.mem_cons_of_mem _ (List.mem_append_right _ z)))
        exact gone_ok J6 hN hi hln hq
      have drop : ∀ {σ7 : L2.St} {H7 : Hp} {s7 : Shared}, Inv X ((a, oe4) :: pins) σ7 H7 s7 → Inv X pins σ7 H7 s7 := fun J7 => J7.pins_of fun p hp => J7.pin p (List.mem_append_right _ (List.mem_cons_of_mem _ hp))
      subst hcls
      cases f with
      | next =>
        obtain ⟨σ6, H6, S6, q6⟩ := hsp
        exact end_ S6 fun s7 J7 => ⟨_, _, track J7 n0 npin hz4 hd4, q6⟩
      | brk =>
        obtain ⟨σ6, H6, S6, q6⟩ := hsp
        exact end_ S6 fun s7 J7 => ⟨_, _, drop J7, q6⟩
      | cont =>
        obtain ⟨σ6, H6, S6, q6⟩ := hsp
        exact end_ S6 fun s7 J7 => ⟨_, _, drop J7, q6⟩
      | ret u =>
        obtain ⟨v6, σ6, H6, S6, r6, q6⟩ := hsp
        exact end_ S6 fun s7 J7 => ⟨_, _, _, drop J7, r6, q6⟩
    | false =>
      show wpAny _ X.A (handleBy (.ref a) X.env []) _ _ _
      refine wpAny_handleBy_nil ?_
      obtain ⟨k1, k2, k3, oe, vs, T, oT, ts', he, hz, hd, h1, hr⟩ := id fl3
      unfold PySem.passOn
      refine wpAny_bind (wpAny_field he hd h1 ?_)
      rw [if_neg (show ¬ ((Value.ref T == Value.none) = true) from by simp)]
      have fin : wpAny (model X.prog X.w) X.A (setFlight (.ref a) X.env.frame) (fun _ s4 => wpAny (model X.prog X.w) X.A (throw (.ref a) : Sem Flow) (SP X pins D) X.xe s4) X.xe { s' with heap := h3 } := by
        rw [hf]
        refine HandSPX.setFlight_upZ fl3 fun h4 hh4 up4 => wpAny_throw (tk _ _ ?_)
        exact ⟨a, B, sI, pins, σ', H', cls, d, rfl, J, nb, (up.trans up3).trans up4, .inr (.inr (by rw [hs]; exact hh4)), na, os, ag, hno rfl⟩
      first
        | exact wpAny_bind (wpAny_pure (wpAny_bind fin))
        | exact wpAny_bind fin
  · cases f with
    | next =>
      obtain ⟨σ', H', J', q⟩ := hsp
      exact wpAny_execs_nil ⟨σ', H', J'.ofTry ok, q⟩
    | brk =>
      obtain ⟨σ', H', J', q⟩ := hsp
      exact ⟨σ', H', J'.ofTry ok, q⟩
    | cont =>
      obtain ⟨σ', H', J', q⟩ := hsp
      exact ⟨σ', H', J'.ofTry ok, q⟩
    | ret u =>
      obtain ⟨v, σ', H', J', r, q⟩ := hsp
      exact ⟨v, σ', H', J'.ofTry ok, r, q⟩
end
end Tw
/-! Tw: instances of own classes: == and != by an own __eq__, str by an own __str__, made where __init__ may raise. -/
namespace Tw
open PySem PySem.Spec PyProof.Rows L2
/-- the type of anything that is known -/
def TyA (K : PySem.W.Frag) (H : Hp) (x : V) (t : Value) : Prop := TyX K H x t ∨ ∃ (a C : Addr) (d : Addr) (fs : List (Str × V)), x = .ref a ∧ t = .ref C ∧ IsX H a C (some d) ∧ IsXd H d fs ∧ XC K C ∧ XO K
section
variable {X : Cx} {CX : CXT} {pins : List (Addr × Obj)} {σ : L2.St} {H : Hp} {s : Shared} {k : Nat} {f C : Addr} {fd : FuncData} {ps : List Str} {sp : Sp} {E : XK}
theorem tyA_looks {x : V} {u t : Value} (I : Inv X pins σ H s) (r : RelV x u) (ty : TyA X.K H x t) (M : Model) : PySem.W.Looks M s.heap (typeOf u) t := by
  rcases ty with ty | ⟨a, C, d, fs, rfl, rfl, ia, idd, T, O⟩
  · obtain ⟨P, Z, p, _⟩ := kit_of I r ty
    exact Z.ty M s.heap I.kIn p
  · cases (show u = Value.ref a from r)
    obtain ⟨oe, vs, ho, hz, hdt⟩ := ia.get I.hok
    exact fun A Q E s k q => wpAny_typeOf_ref (k _ _ ho) (by rw [hz.1]; exact q)
theorem inst_at (I : Inv X pins σ H s) {a dx : Addr} {fs : List (Str × V)} (e : H a = some (.ins C dx fs)) : ∃ od ox, PySem.W.InstAt s.heap a ox C (some od) := by
  obtain ⟨mA, O, _⟩ := ins_get I.hok e
  obtain ⟨od, J, _⟩ := O.look
  exact ⟨od, _, J⟩
/-- a def run one deeper within a built-in -/
theorem run_in1 {Q : VK} {us : List Value} {vs : List V} (F : FnOk X.prog X.w X.K X.mg X.base CX k f fd ps sp) (hr : Room (k + 1) X.A) (hb : Binds X.K fd ps []) (hx : Passes CX X E) (I : Inv X pins σ H s) (r : Vals vs us) (h : sp vs H Q E) :
    wpAny (model X.prog X.w) X.A.in1 (call (.ref f) us) (EP X pins σ Q) X.xe s := by
  have hl : us.length = ps.length := r.length.symm.trans (F.len _ _ _ _ h)
  have b := hb s us I.kIn (by rw [List.append_nil]; exact hl)
  rw [List.append_nil] at b
  refine wpAny_call (codeAny_mono (F.run X.A.in1 X.stack s H ⟨us, []⟩ us vs Q E hr.in1 I.env0.in1 b r h) fun r s' hq => ?_)
  match r, hq with
  | .error e, hq => exact hx pins σ H s e s' I hq
  | .ok (.ret u), hq => exact I.after hq
theorem run_in2 {Q : VK} {us : List Value} {vs : List V} (F : FnOk X.prog X.w X.K X.mg X.base CX k f fd ps sp) (hr : Room (k + 2) X.A) (hb : Binds X.K fd ps []) (hx : Passes CX X E) (I : Inv X pins σ H s) (r : Vals vs us) (h : sp vs H Q E) :
    wpAny (model X.prog X.w) X.A.in1.in1 (call (.ref f) us) (EP X pins σ Q) X.xe s := by
  have hl : us.length = ps.length := r.length.symm.trans (F.len _ _ _ _ h)
  have b := hb s us I.kIn (by rw [List.append_nil]; exact hl)
  rw [List.append_nil] at b
  have hr1 : Room (k + 1) X.A.in1 := Room.in1 hr
  refine wpAny_call (codeAny_mono (F.run X.A.in1.in1 X.stack s H ⟨us, []⟩ us vs Q E hr1.in1 I.env0.in1.in1 b r h) fun r s' hq => ?_)
  match r, hq with
  | .error e, hq => exact hx pins σ H s e s' I hq
  | .ok (.ret u), hq => exact I.after hq
/-- x == y by x's own __eq__ -/
def rEqOwn (K : PySem.W.Frag) (C : Addr) (sp : Sp) (E : XK) : R2 := fun x y H Q => ∃ (a dx : Addr) (fs : List (Str × V)) (t : Value), x = .ref a ∧ H a = some (.ins C dx fs) ∧ TyA K H y t ∧ PySem.W.notFirst K C t = true ∧ sp [x, y] H Q E
theorem op_eqOwn (hs : PySem.W.findIn X.K (.ref C) "__eq__" = some (some (.ref f))) (hf : PySem.W.isFn X.K (.ref f) = true) (F : FnOk X.prog X.w X.K X.mg X.base CX k f fd ps sp) (hr : Room k X.A) (hb : Binds X.K fd ps []) (hx : Passes CX X E) : OpR X (compareOp .Eq) (rEqOwn X.K C sp E) := by
  intro pins s σ H x y v u Q I rx ry h
  obtain ⟨a, dx, fs, t, rfl, ea, ty, hn, q⟩ := h
  cases (show v = Value.ref a from rx)
  obtain ⟨od, ox, J⟩ := inst_at I ea
  obtain ⟨m, hF⟩ := I.fr
  show wpAny _ _ (richCompare .Eq _ _) _ _ _
  refine PySem.W.cmp_K (op := .Eq) (tb := t) hr.units0 hF I.ok.mod.kin J (tyA_looks I ry ty _) hn hs hf ?_
  refine wpAny_mono (run_fn (dvs := []) (ds := []) (us := [.ref a, u]) (vs := [.ref a, y]) F hr hb .nil hx I (.cons rfl (.cons ry .nil)) q) (fun w s' z => ?_) fun _ _ x => x
  obtain ⟨z', H', I', rz, qz⟩ := z
  exact SlX.cmpback rz ⟨z', H', I', rz, qz⟩
/-- x != y: object.__ne__ asks x's own __eq__ -/
def rNeOwn (K : PySem.W.Frag) (C : Addr) (sp : Sp) (E : XK) : R2 := fun x y H Q => ∃ (a dx : Addr) (fs : List (Str × V)) (t : Value), x = .ref a ∧ H a = some (.ins C dx fs) ∧ TyA K H y t ∧ PySem.W.notFirst K C t = true ∧ sp [x, y] H (fun z H' => ∃ b, z = .bl b ∧ Q (.bl (!b)) H') E
theorem ifBound_objNe {K : PySem.W.Frag} {M : Model} {A : Around} {E : Value → Shared → Prop} {s : Shared} {x : Addr} {ox : Obj} {od : Option Obj} {args : List Value} {Q : Option Value → Shared → Prop} (Y : K.In s.heap) (I : PySem.W.InstAt s.heap x ox C od) (hs : PySem.W.findIn K (.ref C) "__ne__" = some (some (.builtin "object.__ne__")))
    (h : wpAny M A (call (.builtin "object.__ne__") (.ref x :: args)) (fun v => Q (some v)) E s) : wpAny M A (callSpecialIfBound? (.ref x) "__ne__" args) Q E s := by
  simp only [callSpecialIfBound?, bindSpecialIfBound?]
  refine wpAny_holding (wpAny_bind (wpAny_bind (wpAny_bind (I.type.here ((PySem.W.looks_findIn Y hs).here ?_)))))
  refine wpAny_bind (wpAny_askSetting (wpAny_ite ?_))
  have fin : wpAny M A (call (.builtin "object.__ne__") ([.ref x] ++ args) >>= fun v => pure (some v)) Q E s := wpAny_bind (wpAny_mono h (fun v s' h' => wpAny_pure h') fun _ _ h' => h')
  split
  · exact wpAny_bind (wpAny_of_eq (F.cmp_object.ne.bind _) (wpAny_pure (by exact fin)))
  · exact wpAny_tryCatch (wpAny_bind (wpAny_of_eq (F.cmp_object.ne.bind _) (wpAny_pure (by exact fin))))
theorem ne_entry {K : PySem.W.Frag} {prog : Program} {w : World} {A : Around} {E : Value → Shared → Prop} {s : Shared} {x : Addr} {ox : Obj} {od : Option Obj} {b : Value} {Q : Fin → Shared → Prop} (hu : A.units < cLine) (Y : K.In s.heap) (I : PySem.W.InstAt s.heap x ox C od)
    (hs : PySem.W.findIn K (.ref C) "__eq__" = some (some (.ref f))) (hf : PySem.W.isFn K (.ref f) = true)
    (h : wpAny (model prog w) A (call (.ref f) [.ref x, b]) (fun v s' => ∃ c, v = .bool c ∧ Q (.done (.ret (.bool (!c)))) s') E s) : wpAny (model prog w) A (Builtin.«object.__ne__» ⟨[.ref x, b], []⟩) Q E s := by
  unfold Builtin.«object.__ne__»
  repeat (first
    | with_reducible refine wpAny_cRoomFor hu ?_
    | (refine wpAny_bind (m := callSpecialIfBound? (.ref x) (Str.ofString "__eq__") [b])
        (PySem.W.ifBound_K Y I hs hf (wpAny_mono h (fun r s' hr => by
          obtain ⟨b, rfl, hq⟩ := hr
          repeat (first | exact hq | exact wpAny_pure hq | exact wpAny_truthy_bool hq | (refine wpAny_bind (m := truthy (.bool _)) (wpAny_truthy_bool ?_)) | wp_step)) fun _ _ e => e)))
    | wp_step)
theorem ne_own {x : Addr} {ox : Obj} {od : Option Obj} {b tb : Value} {K : PySem.W.Frag} {prog : Program} {w : World} {A : Around} {E : Value → Shared → Prop} {s : Shared} {Q : Value → Shared → Prop} (hu : A.units + 1 < cLine) (Y : K.In s.heap) (I : PySem.W.InstAt s.heap x ox C od) (hb : PySem.W.Looks (model prog w) s.heap (typeOf b) tb) (hn : PySem.W.notFirst K C tb = true)
    (hne : PySem.W.findIn K (.ref C) "__ne__" = some (some (.builtin "object.__ne__"))) (hs : PySem.W.findIn K (.ref C) "__eq__" = some (some (.ref f))) (hf : PySem.W.isFn K (.ref f) = true) (hm : PySem.W.mroIn K C (.type "object") = some true)
    (h : wpAny (model prog w) A.in1 (call (.ref f) [.ref x, b]) (fun v s' => ∃ c, v = .bool c ∧ Q (.bool (!c)) s') E s) : wpAny (model prog w) A (richCompare .NotEq (.ref x) b) Q E s := by
  have one : wpAny (model prog w) A (tryCompare (.ref x) (cmpInfo .NotEq).2.1 b) (fun r s' => ∃ v, r = some v ∧ Q v s') E s := by
    unfold tryCompare
    refine wpAny_bind (ifBound_objNe Y I hne (wpAny_call (codeAny_call_builtin F.cmp_object.ne.plain F.cmpEntry_ne (PySem.W.check_slot F.cmpKind_ne F.cmpSplit_ne (I.type.andThen (PySem.W.looks_mroIn Y hm)) (F.cmpArgs_ne _ _)
      (ne_entry (A := A.in1) hu Y I hs hf (wpAny_mono h (fun v s' hv => ?_) fun _ _ e => e))))))
    obtain ⟨c, rfl, hq⟩ := hv
    first | exact ⟨c, rfl, wpAny_pure ⟨_, rfl, hq⟩⟩ | exact ⟨c, rfl, wpAny_pure (wpAny_pure ⟨_, rfl, hq⟩)⟩ | exact ⟨c, rfl, ⟨_, rfl, hq⟩⟩
  unfold richCompare
  simp only [oneThing_ref]
  refine wpAny_holding (wpAny_bind (wpAny_cRoomFor (Nat.lt_of_succ_lt hu) ?_))
  refine wpAny_bind (I.type.here (wpAny_bind (hb.here ?_)))
  split
  · rename_i q
    have e : PySem.W.subIn K tb (.ref C) = some false := by
      rcases Bool.or_eq_true_iff.mp hn with e | e
      · rw [beq_iff_eq.mp e] at q; simp at q
      · exact beq_iff_eq.mp e
    refine wpAny_bind ((PySem.W.looks_subIn Y e).here ?_)
    simp only [Bool.false_eq_true, if_false]
    refine wpAny_bind (wpAny_mono one (fun r s' z => ?_) fun _ _ e => e)
    obtain ⟨v, rfl, hq⟩ := z
    exact wpAny_pure hq
  · refine wpAny_bind (wpAny_pure ?_)
    simp only [Bool.false_eq_true, if_false]
    refine wpAny_bind (wpAny_mono one (fun r s' z => ?_) fun _ _ e => e)
    obtain ⟨v, rfl, hq⟩ := z
    exact wpAny_pure hq
theorem op_neOwn (hne : PySem.W.findIn X.K (.ref C) "__ne__" = some (some (.builtin "object.__ne__"))) (hs : PySem.W.findIn X.K (.ref C) "__eq__" = some (some (.ref f))) (hf : PySem.W.isFn X.K (.ref f) = true) (hm : PySem.W.mroIn X.K C (.type "object") = some true)
    (F : FnOk X.prog X.w X.K X.mg X.base CX k f fd ps sp) (hr : Room (k + 1) X.A) (hb : Binds X.K fd ps []) (hx : Passes CX X E) : OpR X (compareOp .NotEq) (rNeOwn X.K C sp E) := by
  intro pins s σ H x y v u Q I rx ry h
  obtain ⟨a, dx, fs, t, rfl, ea, ty, hn, q⟩ := h
  cases (show v = Value.ref a from rx)
  obtain ⟨od, ox, J⟩ := inst_at I ea
  show wpAny _ _ (richCompare .NotEq _ _) _ _ _
  refine ne_own (tb := t) (Nat.lt_of_le_of_lt (Nat.le_refl _) hr.in1.units0) I.kIn J (tyA_looks I ry ty _) hn hne hs hf hm ?_
  refine wpAny_mono (run_in1 F hr hb hx I (.cons rx (.cons ry .nil)) q) (fun w s' z => ?_) fun _ _ x => x
  obtain ⟨z', H', I', rz, b, rfl, qz⟩ := z
  exact ⟨b, rz, .bl (!b), H', I', rfl, qz⟩
/-- str(x) by x's own __str__ -/
def rStrOwn (C : Addr) (sp : Sp) (E : XK) : List V → Hp → VK → Prop := fun xs H Q => ∃ (a dx : Addr) (fs : List (Str × V)), xs = [.ref a] ∧ H a = some (.ins C dx fs) ∧ sp [.ref a] H (fun z H' => ∃ c, z = .str c ∧ Q z H') E
theorem call_strOwn (hs : PySem.W.findIn X.K (.ref C) "__str__" = some (some (.ref f))) (hf : PySem.W.isFn X.K (.ref f) = true) (F : FnOk X.prog X.w X.K X.mg X.base CX k f fd ps sp) (hr : Room (k + 2) X.A) (hb : Binds X.K fd ps []) (hx : Passes CX X E) : CallR X (.type "str") (rStrOwn C sp E) := by
  intro pins s σ H xs us Q I r h
  obtain ⟨a, dx, fs, rfl, ea, q⟩ := h
  obtain ⟨u1, rfl, r1⟩ := vals1 r
  cases (show u1 = Value.ref a from r1)
  obtain ⟨od, ox, J⟩ := inst_at I ea
  have hr1 : Room (k + 1) X.A.in1 := Room.in1 hr
  refine PySem.W.kso_call hr1.in1.units0 I.kIn J hs hf ?_
  refine wpAny_mono (run_in2 F hr hb hx I (.cons r1 .nil) q) (fun w s' z => ?_) fun _ _ x => x
  obtain ⟨z', H', I', rz, c, ez, qz⟩ := z
  subst ez
  obtain ⟨t, rfl⟩ := rz
  exact ⟨.str c, H', I', ⟨_, rfl⟩, qz⟩
end
end Tw
/-! Tw: a text times a number; an object made where its __init__ may raise into a try. -/
namespace Tw
open PySem PySem.Spec PyProof.Rows L2
section
variable {X : Cx} {CX : CXT} {k : Nat} {f C : Addr} {fd : FuncData} {ps : List Str} {sp : Sp} {E : L2.St → XK} {x : Str} {p pos : Pos} {e : Expr} {es : List Expr} {t : TA}
theorem op_mul_str : OpR X (binaryOp .Mult) (fun x y H Q => ∃ (z : Str) (n : Int), x = .str z ∧ y = .int n ∧ MulOk z n ∧ Q (.str (Txt.mul z n)) H) := by
  intro pins s σ H x y v u Q I rx ry h
  obtain ⟨z, n, rfl, rfl, ok, q⟩ := h
  obtain ⟨t, rfl⟩ := rx
  obtain ⟨t', rfl⟩ := ry
  exact SB.mul ok fun t' tk => ⟨.str (Txt.mul z n), H, I.tok _, ⟨_, rfl⟩, q⟩
/-- C(..) where C.__init__ may raise -/
def tMakeS (C : Addr) (sp : Sp) (E : L2.St → XK) (t : TA) : TE := fun σ H Q => t σ H fun vs H1 => ∀ x dx, H1 x = none → H1 dx = none → dx ≠ x →
  sp (.ref x :: vs) (upd (upd H1 dx (.own x)) x (.ins C dx [])) (fun v H2 => v = .non ∧ Q (.ref x) H2) (E σ)
theorem run_makeS {pins : List (Addr × Obj)} {σ : L2.St} {H : Hp} {s : Shared} {Q : VK} {us : List Value} {vs : List V} (M : Mk X.K C f) (F : FnOk X.prog X.w X.K X.mg X.base CX k f fd ps sp) (hr : Room (k + 1) X.A) (hb : Binds X.K fd ps [])
    (hx : PassesAt CX X σ (E σ)) (I : Inv X pins σ H s) (r : Vals vs us)
    (h : ∀ x dx, H x = none → H dx = none → dx ≠ x → sp (.ref x :: vs) (upd (upd H dx (.own x)) x (.ins C dx [])) (fun v H2 => v = .non ∧ Q (.ref x) H2) (E σ)) :
    wpAny (model X.prog X.w) X.A (call (.ref C) us) (EP X pins σ Q) X.xe s := by
  have hq := h (s.heap.objs.size + 1) s.heap.objs.size (I.hok.fresh (Nat.le_succ _)) (I.hok.fresh (Nat.le_refl _)) (Nat.ne_of_lt (Nat.lt_succ_self _))
  have I2 := Inv.made (C := C) I
  have r2 : Vals (V.ref (s.heap.objs.size + 1) :: vs) (Value.ref (s.heap.objs.size + 1) :: us) := .cons rfl r
  have hl : (Value.ref (s.heap.objs.size + 1) :: us).length = ps.length := by
    have e := r2.length
    rw [F.len _ _ _ _ hq] at e
    exact e.symm
  have b := hb _ (Value.ref (s.heap.objs.size + 1) :: us) I2.kIn (by rw [List.append_nil]; exact hl)
  rw [List.append_nil] at b
  refine wpAny_call (make_map (f := f) I.kIn M.makes M.init (beq_iff_eq.mp M.fn) (codeAny_mono (F.run _ X.stack _ _ ⟨Value.ref (s.heap.objs.size + 1) :: us, []⟩ (Value.ref (s.heap.objs.size + 1) :: us) _ _ (E σ) (hr.make C us [])
    (I2.env0.make C us []) b r2 hq) fun r s' hq' => ?_))
  cases r with
  | error e => exact hx pins _ _ e s' I2 hq'
  | ok fl =>
    cases fl with
    | ret u =>
      obtain ⟨v, H', I3, rv, ev, q3⟩ := I2.after hq'
      subst ev
      exact ⟨rv, ⟨V.ref (s.heap.objs.size + 1), H', I3, rfl, q3⟩⟩
    | next => exact False.elim hq'
    | brk => exact False.elim hq'
    | cont => exact False.elim hq'
theorem pe_makeS (M : Mk X.K C f) (F : FnOk X.prog X.w X.K X.mg X.base CX k f fd ps sp) (hr : Room (k + 1) X.A) (hg : Gl X x) (hm : X.mg x = some (.ref C)) (hb : Binds X.K fd ps []) (hx : ∀ σ, PassesAt CX X σ (E σ))
    (ha : PA X (e :: es) t) (hdb : (x == ("__debug__" : Str)) = false := by decide) (he : starEach (e :: es) X.env = (false, eval e X.env) :: starEach es X.env := by rfl) (hpl : (backTo pos (starEach es X.env)).any (·.1) = false := by rfl) :
    PE X (.Call (.Name x p) (e :: es) [] pos) (tMakeS C sp E t) := by
  refine ⟨fun pins s σ H Q I h => ?_⟩
  refine wpAny_Call_Name_kw (ld_glob I hg hm ?_ hdb)
  refine PySem.W.callWith_K (h₀ := X.base) I.ok.mod.kin M.kp (thn (ha.run pos pins s σ H _ I h) fun us s1 ⟨vs, H1, I1, r, q⟩ => ⟨I1.kIn, ?_⟩) he hpl
  exact run_makeS M F hr hb (hx σ) I1 r q
end
/-- a comprehension over a text, sign by sign -/
theorem lcStr {z : Str} {g : TG} {tt : TT} {te : TE} {ws : List Nat} {ρ : L2.St} {G : Hp} {D : Addr} {R : Hp → Prop} (P : Nat → Hp → Prop) (first : P 0 (upd G D (.lst [])))
    (step : ∀ i c H, z.cps[i]? = some c → P i H → g (.str ⟨#[c]⟩) (wipe ρ ws) H fun σ2 H2 => wipe σ2 ws = wipe ρ ws ∧ tt σ2 H2 fun b H3 => if b = true then te σ2 H3 fun y H4 => ∃ acc, H4 D = some (.lst acc) ∧ acc.length < sizeLine ∧ P (i + 1) (upd H4 D (.lst (acc ++ [y]))) else P (i + 1) H3)
    (last : ∀ H, P z.cps.size H → R H) :
    ∃ W : Nat → Nat → Hp → Prop, (∃ m, W 0 m (upd G D (.lst []))) ∧ ∀ i m H, W i m H → ((Its z).stop i H ∧ R H) ∨ ((Its z).go i H ∧ ∃ Nx : Hp → Prop, (∀ H', Nx H' → ∃ m', m' < m ∧ W (i + 1) m' H') ∧ ∀ x H', (Its z).yld i H x H' →
      g x (wipe ρ ws) H' fun σ2 H2 => wipe σ2 ws = wipe ρ ws ∧ tt σ2 H2 fun b H3 => if b = true then te σ2 H3 fun y H4 => ∃ acc, H4 D = some (.lst acc) ∧ acc.length < sizeLine ∧ Nx (upd H4 D (.lst (acc ++ [y]))) else Nx H3) := by
  refine ⟨fun i m H => m = z.cps.size - i ∧ i ≤ z.cps.size ∧ P i H, ⟨_, rfl, Nat.zero_le _, first⟩, ?_⟩
  rintro i m H ⟨rfl, hi, p⟩
  rcases Nat.lt_or_ge i z.cps.size with lt | ge
  · refine .inr ⟨lt, P (i + 1), fun H' p' => ⟨_, Nat.sub_succ_lt_self _ _ lt, rfl, lt, p'⟩, fun x H' ⟨e, c, ec, ex⟩ => ?_⟩
    subst e ex
    exact step i c _ ec p
  · exact .inl ⟨ge, last H (Nat.le_antisymm hi ge ▸ p)⟩
/-- values whose class is a built-in one -/
inductive Bv (H : Hp) : V → String → Prop where
  | non : Bv H .non "NoneType"
  | bl (b : Bool) : Bv H (.bl b) "bool"
  | int (i : Int) : Bv H (.int i) "int"
  | str (z : Str) : Bv H (.str z) "str"
  | lst {a : Addr} {xs : List V} (e : H a = some (.lst xs)) : Bv H (.ref a) "list"
  | tup {a : Addr} {xs : List V} (e : H a = some (.tup xs)) : Bv H (.ref a) "tuple"
  | dK {a : Addr} {kvs : List (Key × V)} (e : H a = some (.dK kvs)) : Bv H (.ref a) "dict"
theorem Bv.ty {K : PySem.W.Frag} {H : Hp} {x : V} {T : String} (h : Bv H x T) : TyX K H x (.type T) := by
  cases h with
  | non => exact .base .non
  | bl b => exact .base (.bl b)
  | int i => exact .base (.int i)
  | str z => exact .base (.str z)
  | lst e => exact .base (.lst e)
  | tup e => exact .base (.tup e)
  | dK e => exact .base (.dK e)
theorem Bv.same {H H' : Hp} {x : V} {T : String} (s : Same H H') (h : Bv H x T) : Bv H' x T := by
  cases h with
  | non => exact .non
  | bl b => exact .bl b
  | int i => exact .int i
  | str z => exact .str z
  | lst e => exact .lst (s _ _ e)
  | tup e => exact .tup (s _ _ e)
  | dK e => exact .dK (s _ _ e)
def isI : V → Bool
  | .int _ => true
  | _ => false
def isB : V → Bool
  | .bl _ => true
  | _ => false
def isS : V → Bool
  | .str _ => true
  | _ => false
/-- isinstance against a built-in class, by the value -/
theorem Bv.kits {K : PySem.W.Frag} {H : Hp} {x : V} {T : String} (h : Bv H x T) : PySem.W.kitOne K (.type T) (.type "str") = some (isS x) ∧ PySem.W.kitOne K (.type T) (.type "bool") = some (isB x) ∧ PySem.W.kitOne K (.type T) (.type "int") = some (isI x || isB x) := by
  cases h with
  | non => exact ⟨kit_ty (r := false) (by decide +kernel), kit_ty (r := false) (by decide +kernel), kit_ty (r := false) (by decide +kernel)⟩
  | bl b => exact ⟨kit_ty (r := false) (by decide +kernel), kit_ty (r := true) (by decide +kernel), kit_ty (r := true) (by decide +kernel)⟩
  | int i => exact ⟨kit_ty (r := false) (by decide +kernel), kit_ty (r := false) (by decide +kernel), kit_ty (r := true) (by decide +kernel)⟩
  | str z => exact ⟨kit_ty (r := true) (by decide +kernel), kit_ty (r := false) (by decide +kernel), kit_ty (r := false) (by decide +kernel)⟩
  | lst e => exact ⟨kit_ty (r := false) (by decide +kernel), kit_ty (r := false) (by decide +kernel), kit_ty (r := false) (by decide +kernel)⟩
  | tup e => exact ⟨kit_ty (r := false) (by decide +kernel), kit_ty (r := false) (by decide +kernel), kit_ty (r := false) (by decide +kernel)⟩
  | dK e => exact ⟨kit_ty (r := false) (by decide +kernel), kit_ty (r := false) (by decide +kernel), kit_ty (r := false) (by decide +kernel)⟩
end Tw
/-! Tw: a method called by keywords alone. -/
namespace Tw
open PySem PySem.Spec PyProof.Rows L2
section
variable {K : PySem.W.Frag} {x qual : Str} {params : Arguments} {body : List Stmt} {scope : Scope} {f : Addr} {fd : FuncData} {ps : List Str}
theorem kbNone (F : FunD K x qual params body scope [] [] f fd) (n : Nat) (ks : List Str)
    (h : ∀ (kV doc pm : Value) (an : Option Addr) (cdv ct : Value) (us ws : List Value), us.length = n → ws.length = ks.length → bindArgs (PySem.W.fnOf x qual params body scope .none kV doc pm an cdv ct) ⟨us, ks.zip ws⟩ = pure (ps.zip (us ++ ws))) :
    KBn K fd ps n ks (fun us ws => us ++ ws) (fun vs zs => vs ++ zs) := by
  obtain ⟨oc, od, dV, kV, doc, pm, an, cdv, ct, osl, rfl, lk, hcd, hD, hK⟩ := F.ex
  rcases hD with ⟨_, rfl⟩ | ⟨e, _⟩
  · exact ⟨fun s us ws X l1 l2 => .of_eq (h kV doc pm an cdv ct us ws l1 l2), fun r1 r2 => r1.append r2⟩
  · exact absurd rfl e
end
/-- o.m(k = v, ..) -/
def tMethN (C : Addr) (m : Str) (n : Nat) (sp : Sp) (gV : List V → List V → List V) (E : XK) (ta : TE) (tk : TA) : TE := fun σ H Q => ta σ H fun x H1 => ∃ (a dx : Addr) (fs : List (Str × V)), x = .ref a ∧ H1 a = some (.ins C dx fs) ∧ fs.lookup m = none ∧
  tk σ H1 fun zs H2 => zs.length = n ∧ sp (gV [.ref a] zs) H2 Q E
section
variable {X : Cx} {CX : CXT} {k : Nat} {f C : Addr} {fd : FuncData} {ps ks : List Str} {sp : Sp} {E : XK} {m : Str} {pos apos : Pos} {o : Expr} {kws : List Keyword} {ta : TE} {tk : TA} {g : List Value → List Value → List Value} {gV : List V → List V → List V}
theorem pe_methN {pl : Sem Bool} (he : PE X o ta) (c : Cls X.K C) (hm : Meth X.K C m f) (F : FnOk X.prog X.w X.K X.mg X.base CX k f fd ps sp) (hr : Room k X.A) (hb : KBn X.K fd ps 1 ks g gV) (hx : Passes CX X E) (hkw : PK X kws tk)
    (hall : (backToKw pos (keywordEach kws X.env)).all (·.1.isSome) = true := by rfl) (hks : (backToKw pos (keywordEach kws X.env)).filterMap (·.1) = ks := by rfl)
    (hpl : ((backTo pos (starEach [] X.env)).any (·.1) || (backToKw pos (keywordEach kws X.env)).any (·.1.isNone)) = false := by rfl)
    (ht : eval (.Call (.Attribute o m apos) [] kws pos) X.env = (do
      let v ← eval o X.env
      standAt apos.atName
      let (h, front) ← holding [v] (getMethod v m pl)
      callWith pos h front (backTo pos (starEach [] X.env)) (backToKw pos (keywordEach kws X.env))) := by rfl) :
    PE X (.Call (.Attribute o m apos) [] kws pos) (tMethN C m ks.length sp gV E ta tk) := by
  refine ⟨fun pins s σ H Q I h => ?_⟩
  refine PySem.W.methodCall_KW (pl := pl) (thn (he.run pins s σ H _ I h) fun u s1 ⟨x, H1, I1, rx, a, dx, fs, ex, ea, l, q⟩ => ?_) ht
  subst ex
  cases (show u = Value.ref a from rx)
  refine getmeth_ok I1 ea c hm l ?_
  refine PySem.W.callWith_KW0 (h₀ := X.base) (first := [.ref a]) I1.ok.mod.kin hm.kp hall (thn (hkw.run pos pins s1 σ H1 _ I1 q) fun ws s2 ⟨zs, H2, I2, rz, l2, q2⟩ => ⟨I2.kIn, ?_⟩) hpl
  rw [hks]
  exact run_fnN (us := [.ref a]) (vs := [.ref a]) F hr hb hx I2 (.cons rx .nil) rz rfl l2 q2
end
/-- == by an own __eq__, where the context is a comprehension's: what it knows is named -/
theorem eqOwnK {X : Cx} {CX : CXT} {k : Nat} {f C : Addr} {fd : FuncData} {ps : List Str} {sp : Sp} {E : XK} (P : Program) (w : World) (K : PySem.W.Frag) (mg : Str → Option Value) (base : Heap) (hs : PySem.W.findIn K (.ref C) "__eq__" = some (some (.ref f))) (hf : PySem.W.isFn K (.ref f) = true)
    (F : FnOk P w K mg base CX k f fd ps sp) (hr : Room k X.A) (hb : Binds K fd ps []) (hx : Passes CX X E) (e1 : X.prog = P := by rfl) (e2 : X.w = w := by rfl) (e3 : X.K = K := by rfl) (e4 : X.mg = mg := by rfl) (e5 : X.base = base := by rfl) : OpR X (compareOp .Eq) (rEqOwn K C sp E) := by
  subst e1 e2 e3 e4 e5
  exact op_eqOwn hs hf F hr hb hx
/-! lists of bools -/
theorem dpBools {K : PySem.W.Frag} {H : Hp} : ∀ bs : List Bool, DpAll K H (bs.map V.bl) (bs.map PyData.bool)
  | [] => .nil
  | b :: bs => .cons (.bl b) (dpBools bs)
theorem layBools : ∀ bs : List Bool, PyData.canLayAll0 (bs.map PyData.bool) = true ∧ PyData.depthAll (bs.map PyData.bool) = 0
  | [] => ⟨rfl, rfl⟩
  | b :: bs => by
    obtain ⟨h1, h2⟩ := layBools bs
    constructor
    · simp only [List.map_cons, PyData.canLayAll0, PyData.canLay0, h1, Bool.and_self]
    · simp only [List.map_cons, PyData.depthAll, PyData.depth, h2, Nat.max_self]
theorem shapedBools (bs : List Bool) : SeqAt.shaped (.list (bs.map PyData.bool)) = true := by
  obtain ⟨h1, h2⟩ := layBools bs
  simp [SeqAt.shaped, PyData.canLay0, PyData.depth, h1, h2]
theorem eqvBools (bs : List Bool) : PyData.eqv (.list (bs.map PyData.bool)) (.list (bs.map PyData.bool)) = true :=
  SeqAt.eqv_refl _ (by simpa [PyData.canLay0] using (layBools bs).1)
theorem ifSame {d : PyData} {A B : Prop} (h : PyData.eqv d d = true) (b : B) : if (!PyData.eqv d d) = true then A else B := by
  rw [h]
  exact iteF b
theorem mildBools : ∀ bs : List Bool, mildAll (bs.map PyData.bool) = true ∧ capAll (bs.map PyData.bool) ≤ 100 * bs.length
  | [] => ⟨rfl, Nat.le_refl _⟩
  | b :: bs => by
    obtain ⟨h1, h2⟩ := mildBools bs
    constructor
    · simp only [List.map_cons, mildAll, mild, h1, Bool.and_self]
    · simp only [List.map_cons, capAll, List.length_cons]
      have : cap (.bool b) ≤ 90 := by cases b <;> decide
      omega
end Tw
/-! Tw, part 4: the head's facts by names, error classes too. -/
namespace Tw
open PySem PySem.Spec PyProof.Rows L2 He
abbrev Fg := PySem.W.Frag
def excB (K : Fg) (C : Addr) : Bool := match K.lookup C with
  | some ⟨.type t, _, .cls cd, sl⟩ => (match cd.mro, sl.toList with
    | .ref C' :: bm, [_, _, _, _, some (.builtin n), _] => decide (t = "type") && (decide (C' = C) && (decide (n = "ValueError.__new__") && (!cd.hasDel && (cd.hasDict && PySem.HandSPX.refsVE bm))))
    | _, _ => false)
  | _ => false
theorem excB_ok {K : Fg} {C : Addr} (h : excB K C = true) : ∃ nm q N bs bm sn sub ab col dd k0 k1 k2 k3 k5, K.lookup C = some (excClassObj nm q C N bs bm true sn sub ab col dd k0 k1 k2 k3 k5 "ValueError.__new__") ∧ PySem.HandSPX.refsVE bm = true := by
  unfold excB at h
  cases e : K.lookup C with
  | none =>
    rw [e] at h
    cases h
  | some o =>
    rw [e] at h
    obtain ⟨oc, od, dt, sl⟩ := o
    cases oc with
    | type t =>
      cases dt with
      | cls cd =>
        obtain ⟨nm, bs, mro, ns, q, hd, sn, sb, ab, col, del⟩ := cd
        dsimp only at h
        obtain ⟨sl⟩ := sl
        dsimp only at h
        match mro, sl, h with
        | .ref C' :: bm, [k0, k1, k2, k3, some (.builtin n), k5], h =>
          obtain ⟨h1, h⟩ := ba h
          obtain ⟨h2, h⟩ := ba h
          obtain ⟨h3, h⟩ := ba h
          obtain ⟨h4, h⟩ := ba h
          obtain ⟨h5, h6⟩ := ba h
          have e1 := of_decide_eq_true h1
          have e2 := of_decide_eq_true h2
          have e3 := of_decide_eq_true h3
          subst e1 e2 e3
          have e4 : del = false := by simpa using h4
          subst e4
          subst h5
          exact ⟨_, _, _, _, _, _, _, _, _, _, _, _, _, _, _, rfl, h6⟩
      | _ => cases h
    | _ => cases h
inductive Fy where
  | fa (f : Fa)
  | xc (x : Str)
  | xo
  | ini (x : Str)
  | kit (x y : Str) (b : Bool)
  | kitT (x : Str) (T : String) (b : Bool)
  | names (x : Str) (zs : List Str)
def Fy.ok (K : Fg) : Fy → Bool
  | .fa f => f.ok K
  | .xc x => excB K (ga K x) && (eqO (PySem.W.findIn K (.ref (ga K x)) "__setattr__") (some (some (.builtin "object.__setattr__"))) && (decide (PySem.W.subIn K (.ref (ga K x)) (.type "BaseException") = some true) && (decide (PySem.W.typeIn K (.ref (ga K x)) = some (.type "type")) &&
      (PySem.W.keepIn K (.ref (ga K x)) && (eqO (PySem.W.findIn K (.ref (ga K x)) "__getattribute__") (some (some (.builtin "BaseException.__getattribute__"))) && (eqO (PySem.W.findIn K (.ref (ga K x)) "__getattr__") (some none) &&
      (PySem.W.hasDictIn K (ga K x) && (eqO (PySem.W.findIn K (.ref (ga K x)) "__class__") (some (some (.builtin "object.__class__"))) && decide (PySem.W.mroIn K (ga K x) (.type "object") = some true)))))))))
  | .xo => eqO (PySem.W.specialIn K (.builtin "object.__class__") "__get__") (some (some (.builtin "getset_descriptor.__get__"))) && decide (PySem.W.takesIn K (.builtin "object.__class__") = some true)
  | .ini x => eqO (PySem.W.findIn K (.ref (ga K x)) "__init__") (some (some (.ref (ma K (ga K x) "__init__")))) && decide (PySem.W.typeIn K (.ref (ma K (ga K x) "__init__")) = some (.type "function"))
  | .kit x y b => decide (PySem.W.kitOne K (.ref (ga K x)) (.ref (ga K y)) = some b)
  | .kitT x T b => decide (PySem.W.kitOne K (.ref (ga K x)) (.type T) = some b)
  | .names x zs => zs.all fun z => eqO (PySem.W.findIn K (.ref (ga K x)) z) (some none)
section
variable {K : Fg} {h : Heap} {mg : Str → Option Value}
theorem xc_ok {x : Str} (c : (Fy.xc x).ok K = true) : XC K (ga K x) := by
  obtain ⟨c1, c⟩ := ba c
  obtain ⟨c2, c⟩ := ba c
  obtain ⟨c3, c⟩ := ba c
  obtain ⟨c4, c⟩ := ba c
  obtain ⟨c5, c⟩ := ba c
  obtain ⟨c6, c⟩ := ba c
  obtain ⟨c7, c⟩ := ba c
  obtain ⟨c8, c⟩ := ba c
  obtain ⟨c9, c10⟩ := ba c
  exact ⟨⟨excB_ok c1, eqO_ok c2, of_decide_eq_true c3, of_decide_eq_true c4, c5⟩, eqO_ok c6, eqO_ok c7, c8, eqO_ok c9, of_decide_eq_true c10⟩
theorem xo_ok (c : Fy.xo.ok K = true) : XO K := by
  unfold Fy.ok at c
  obtain ⟨c1, c2⟩ := ba c
  exact ⟨eqO_ok c1, of_decide_eq_true c2⟩
theorem ini_ok {x : Str} (c : (Fy.ini x).ok K = true) : PySem.W.findIn K (.ref (ga K x)) "__init__" = some (some (.ref (ma K (ga K x) "__init__"))) ∧ PySem.W.typeIn K (.ref (ma K (ga K x) "__init__")) = some (.type "function") := by
  obtain ⟨c1, c2⟩ := ba c
  exact ⟨eqO_ok c1, of_decide_eq_true c2⟩
theorem kit_ok {x y : Str} {b : Bool} (c : (Fy.kit x y b).ok K = true) : PySem.W.kitOne K (.ref (ga K x)) (.ref (ga K y)) = some b := of_decide_eq_true c
theorem kitT_ok {x : Str} {T : String} {b : Bool} (c : (Fy.kitT x T b).ok K = true) : PySem.W.kitOne K (.ref (ga K x)) (.type T) = some b := of_decide_eq_true c
theorem names_ok {x : Str} {zs : List Str} (c : (Fy.names x zs).ok K = true) {z : Str} (hz : z ∈ zs) : PySem.W.findIn K (.ref (ga K x)) z = some none := eqO_ok (List.all_eq_true.mp c z hz)
end
/-! ### the hook: any truths of the written part, in groups -/
abbrev Fz := List (Fg → Bool)
def obsY (fs : Fz) (fn : List DefD) (K : Fg) : AlD := ((fs.all fun f => f K) && fn.all fun d => d.ok K, fn.map fun d => fnW K d.at_)
def SaysY (fs : Fz) (fn : List DefD) (K : Fg) : Prop := obsY fs fn K = valD fn
def obsYG (n : Nat) (fs : Fz) (fn : List DefD) (g : Addr → Option Obj) : AlD := obsY fs fn (frG g (asD g n))
def hookY (n : Nat) (fs : Fz) (fn : List DefD) : PySem.W.Hook where
  α := AlD
  obs := fun s => obsYG n fs fn s.heap.get?
  val := fun _ => valD fn
  says := fun _ h => ∃ K : Fg, K.In h ∧ SaysY fs fn K
  of := fun _ _ e => ⟨_, frG_in, e⟩
  keeps := fun _ _ _ ⟨K, hK, c⟩ k => ⟨K, PySem.W.Frag.In.keeps hK k, c⟩
theorem obsYG_eq {n : Nat} {fs : Fz} {fn : List DefD} {g : Addr → Option Obj} {s : Shared} (h : ∀ a, g a = s.heap.get? a) : obsYG n fs fn g = (hookY n fs fn).obs s := by
  have e : g = s.heap.get? := funext h
  rw [e] <;> rfl
section
variable {fs : Fz} {fn : List DefD} {K : Fg}
theorem SaysY.fact (c : SaysY fs fn K) (i : Nat) {f : Fg → Bool} (h : fs[i]? = some f := by rfl) : f K = true := by
  have c1 := (ba (show ((fs.all fun f => f K) && fn.all fun d => d.ok K) = true from congrArg (fun z : AlD => z.1) c)).1
  exact List.all_eq_true.mp c1 f (List.mem_of_getElem? h)
theorem SaysY.def_ (c : SaysY fs fn K) (i : Nat) {d : DefD} (h : fn[i]? = some d := by rfl) : ∃ fd, FunD K d.name d.qual d.params d.body d.scope (d.dvs K) (d.kws K) (fAd K d.at_) fd := by
  have c2 := (ba (show ((fs.all fun f => f K) && fn.all fun d => d.ok K) = true from congrArg (fun z : AlD => z.1) c)).2
  have e : fn.map (fun d => fnW K d.at_) = fn.map DefD.val := congrArg (fun z : AlD => z.2) c
  have e2 : (fn.map fun d => fnW K d.at_)[i]? = (fn.map DefD.val)[i]? := by rw [e]
  rw [List.getElem?_map, List.getElem?_map, h] at e2
  exact DefD.funD (Option.some.inj e2) (List.all_eq_true.mp c2 d (List.mem_of_getElem? h))
/-- a group told of each item of a list -/
theorem of_all {α : Type} {l : List α} {f : α → Bool} (h : l.all f = true) {x : α} (hx : x ∈ l) : f x = true := List.all_eq_true.mp h x hx
end
/-! ### defs as data -/
abbrev FnP (K : Fg) (x qual : Str) (st : Stmt) (f : Addr) (fd : FuncData) : Prop := FunD K x qual (defArgs st) (defBody st) (defScope st) [] [] f fd
theorem _root_.L2.FunD.okG {P : Program} {w : World} {K : Fg} {mg : Str → Option Value} {base : Heap} {CX : CXT} {x qual : Str} {params : Arguments} {body : List Stmt} {scope : Scope} {dvs : List V} {kws : List (Str × V)} {f : Addr} {fd : FuncData} {N ps : List Str} {k : Nat} {sp : Sp}
    (F : FunD K x qual params body scope dvs kws f fd) (S : FnScope N ps scope) (len : ∀ vs H Q E, sp vs H Q E → vs.length = ps.length)
    (hbody : ∀ (cdv : Value) (A : Around) (outer : List Env) (s : Shared) (H : Hp) (vs : List V) (Q : VK) (E : XK), Room k (A.deeper (envOfC qual scope s.heap.objs.size f cdv)) → NoG (A.deeper (envOfC qual scope s.heap.objs.size f cdv)) → sp vs H Q E →
      ∃ t, PSs (cxOf CX P w K mg base N qual scope f cdv A outer s H E) body t ∧ t { nx := fun _ H' => Q .non H', rt := Q } (start N vs) H) : FnG P w K mg base CX (k + 1) f fd ps sp := by
  obtain ⟨oc, od, dV, kV, doc, pm, an, cdv, ct, osl, rfl, lk, hcd, _, _⟩ := F.ex
  exact fng lk hcd S len fun A outer s H vs Q E hr hg hsp => hbody cdv A outer s H vs Q E hr hg hsp
/-! ### the law's end over facts -/
theorem walk_ofEG {l : PySem.W.OpenLaw} {n k : Nat} {q : Program} {loose : List Str} {XP : (Str → Option Value) → Heap → Prop} {YP : World → Heap → Prop} {d : DefRec} {CX : CXT} {x : Str}
    (hn : l.most = some n) (hn2 : n ≤ sizeLine) (hdf : d.params.defaults = []) (hr : Room k callerA)
    (F : ∀ (w : World) (mg : Str → Option Value) (fa : Addr) (h : Heap), YP w h → h.Ns mainGlobals mg → mg d.name = some (.ref fa) →
      ∃ (K : Fg) (fd : FuncData) (sp : Sp), K.In h ∧ (∀ (s : Shared) (u : Value), BindsTo s fd ⟨[u], []⟩ [(x, u)]) ∧
        (∀ (H : Hp) (a : Addr) (ns : List Int), ns.length ≤ n → Only H → SqL K H a (ns.map V.int) → sp [.ref a] H (fun v _ => v = .bl true) fun _ _ _ => False) ∧
        ∀ base : Heap, K.In base → base.Ns mainGlobals mg → FnG l.prog w K mg base CX k fa fd [x] sp)
    (hCX : ∀ (H : Hp) (s : Shared) (e : Value) (s' : Shared), CX [] H s (fun _ _ _ => False) e s' → False) :
    PySem.W.WalkO q loose XP YP l.row.toRowW d [] (fun f vs => PySem.call f vs) := by
  refine Att.attach_call hn hdf fun w s₀ s₁ mg mb fa o pm cd doc a vs ns G Y ho hd hcd hmg hobj hints hlen hg => ?_
  obtain ⟨K, fd, sp, KX, hb, hsp, hF⟩ := F w mg fa _ Y G.T.g hmg
  exact law_endG KX G.T.g G.T.b G.T.builtins G.T.nolimit hg hobj hints (Nat.le_trans hlen hn2) hr hF hb (fun H hO hS => hsp H a ns hlen hO hS) fun H e s' => hCX H s₁ e s'
end Tw
/-! Tw: new objects, told by what holds of the heap behind them alone. -/
namespace Tw
open PySem PySem.Spec PyProof.Rows L2
theorem same_new {H : Hp} {p : Addr} {o : HO} (h : H p = none) : Same H (upd H p o) := fun b u e => by
  rw [upd_ne (ne_of_none e h)]
  exact e
section
variable {X : Cx} {es : List Expr} {t : TA} {pos : Pos}
/-- a new object o: its place, the heap behind -/
def New (H : Hp) (o : HO) (Q : Addr → Hp → Prop) : Prop := ∀ (p : Addr) (H' : Hp), H p = none → p ≠ sysModules → Same H H' → H' p = some o → Q p H'
theorem New.at {H : Hp} {o : HO} {Q : Addr → Hp → Prop} (h : New H o Q) {p : Addr} (h1 : H p = none) (h2 : p ≠ sysModules) : Q p (upd H p o) := h p _ h1 h2 (same_new h1) upd_same
def tLstN (t : TA) : TE := fun σ H Q => t σ H fun xs H1 => xs.length ≤ sizeLine ∧ New H1 (.lst xs) fun p H' => Q (.ref p) H'
theorem pe_lstN (h : PA X es t) : PE X (.List es pos) (tLstN t) := by
  refine ⟨fun pins s σ H Q I hq => wpAny_List_spliced (thn (h.run pos pins s σ H _ I hq) fun us s1 ⟨xs, H1, I1, r, z, q⟩ => ⟨by rw [← r.length]; exact z, ?_⟩)⟩
  exact ⟨.ref s1.heap.objs.size, upd H1 s1.heap.objs.size (.lst xs), I1.laid (t' := s1.toks) (fun b u e => Heap.get?_push_of_some _ e) (Nat.le_refl _) ⟨z, us, 0, r, Heap.get?_push_size _ rfl⟩, rfl, q.at (I1.hok.fresh (Nat.le_refl _)) (Nat.ne_of_gt I1.big)⟩
def tTupN (t : TA) : TE := fun σ H Q => t σ H fun xs H1 => xs.length ≤ sizeLine ∧ ∀ (p : Addr) (H' : Hp), H1 p = none → Same H1 H' → H' p = some (.tup xs) → Q (.ref p) H'
theorem pe_tupN {x1} (h : PA X es t) : PE X (.Tuple es x1 pos) (tTupN t) := by
  refine ⟨fun pins s σ H Q I hq => wpAny_Tuple_spliced (thn (h.run pos pins s σ H _ I hq) fun us s1 ⟨xs, H1, I1, r, z, q⟩ => ⟨by rw [← r.length]; exact z, ?_⟩)⟩
  have hf : H1 s1.heap.objs.size = none := I1.hok.fresh (Nat.le_refl _)
  exact ⟨.ref s1.heap.objs.size, upd H1 s1.heap.objs.size (.tup xs), I1.laid (t' := s1.toks) (fun b u e => Heap.get?_push_of_some _ e) (Nat.le_refl _) ⟨z, us, r, _, Heap.get?_push_size _ rfl, rfl, 0, rfl⟩, rfl, q _ _ hf (same_new hf) upd_same⟩
def tDnewN : TE := fun _ H Q => New H (.dK []) fun p H' => Q (.ref p) H'
theorem pe_dnewN : PE X (.Dict [] [] pos) tDnewN := ⟨fun pins s σ H Q I h =>
  wpAny_Dict_empty ⟨.ref s.heap.objs.size, _, I.laid (a := s.heap.objs.size) (o := .dK []) (t' := s.toks) (fun _ _ q => Heap.get?_push_of_some _ q) (Nat.le_refl _) (dk_empty s.heap I.big), rfl, h.at (I.hok.fresh (Nat.le_refl _)) (Nat.ne_of_gt I.big)⟩⟩
def rCatN : R2 := fun x y H Q => ∃ l b xs zs, x = .ref l ∧ y = .ref b ∧ H l = some (.lst xs) ∧ H b = some (.lst zs) ∧ xs.length + zs.length ≤ sizeLine ∧ New H (.lst (xs ++ zs)) fun p H' => Q (.ref p) H'
theorem op_catN : OpR X (binaryOp .Add) rCatN := by
  intro pins s σ H x y v u Q I rx ry h
  obtain ⟨l, b, xs, zs, rfl, rfl, hH, hB, hz, q⟩ := h
  cases rx
  cases ry
  obtain ⟨z, its, n, r, hl, e⟩ := I.lstM hH
  obtain ⟨z2, its2, n2, r2, hl2, e2⟩ := I.lstM hB
  refine PySem.P.add_list e e2 ?_ (by rw [List.size_toArray, List.size_toArray]; omega)
  rw [show its.toArray ++ its2.toArray = (its ++ its2).toArray by simp]
  exact ⟨.ref _, _, I.lnew (t' := s.toks) (r.append r2) (by rw [List.length_append]; omega), rfl, q.at I.fresh (Nat.ne_of_gt I.big)⟩
end
end Tw
namespace Tw
open PySem PySem.Spec PyProof.Rows L2
theorem room70 {k : Nat} {A : Around} (r : Room k A) : A.units + 70 < cLine := by
  have := r.un
  omega
section
variable {X : Cx} {K : PySem.W.Frag}
theorem ixl (K : PySem.W.Frag) (h : X.K = K := by rfl) : IxR X (rIxL K) := by
  subst h
  exact ix_list
theorem ixt (K : PySem.W.Frag) (h : X.K = K := by rfl) : IxR X (rIxT K) := by
  subst h
  exact ix_tup
end
end Tw
/-! Tw, part 5: the pen that draws. -/
namespace Tw
open PySem PySem.Spec PyProof.Rows L2 He
/-- a statement, what holds behind it on every way, the rest once -/
def tMid (t u : TS) : TS := fun D σ H => ∃ W : L2.St → Hp → Prop, t { D with nx := W } σ H ∧ ∀ σ' H', W σ' H' → u D σ' H'
theorem pss_mid {X : Cx} {st : Stmt} {rest : List Stmt} {t u : TS} (h1 : PS X st t) (h2 : PSs X rest u) : PSs X (st :: rest) (tMid t u) :=
  ⟨fun pins s σ H D I ⟨W, hm, hu⟩ => wpAny_execs_cons (thn (h1.run pins s σ H { D with nx := W } I hm) fun f s1 q => match f, q with
    | .next, ⟨σ', H', I', q⟩ => h2.run pins s1 σ' H' D I' (hu σ' H' q)
    | .ret _, q => q
    | .brk, q => q
    | .cont, q => q)⟩
/-- all that was tracked but p stands -/
def But (p : Addr) (H H' : Hp) : Prop := ∀ b o, H b = some o → b ≠ p → H' b = some o
theorem But.refl {p : Addr} (H : Hp) : But p H H := fun _ _ e _ => e
theorem But.trans {p : Addr} {H H1 H2 : Hp} (a : But p H H1) (b : But p H1 H2) : But p H H2 := fun c o e h => b c o (a c o e h) h
theorem But.of {p : Addr} {H H' : Hp} (e : Same H H') : But p H H' := fun b o h _ => e b o h
theorem But.upd {p : Addr} {H : Hp} {o : HO} : But p H (upd H p o) := fun b u e h => by
  rw [upd_ne h]
  exact e
/-- the pen: the script's ints, the number of draws so far, what is left of a great number -/
def PenAt (H : Hp) (p : Addr) (c : Nat) : Prop := ∃ (l : Addr) (ns : List Int) (i g : Int), H p = some (.lst [.ref l, .int i, .int g]) ∧ H l = some (.lst (ns.map V.int)) ∧ l ≠ p ∧ ns.length ≤ 63 ∧ 0 ≤ i ∧ i ≤ (c : Int) ∧ 0 ≤ g
theorem PenAt.mono {H : Hp} {p : Addr} {c c' : Nat} (h : PenAt H p c) (hc : c ≤ c') : PenAt H p c' := by
  obtain ⟨l, ns, i, g, h1, h2, h3, h4, h5, h6, h7⟩ := h
  exact ⟨l, ns, i, g, h1, h2, h3, h4, h5, by omega, h7⟩
theorem PenAt.same {H H' : Hp} {p : Addr} {c : Nat} (e : Same H H') (h : PenAt H p c) : PenAt H' p c := by
  obtain ⟨l, ns, i, g, h1, h2, h3⟩ := h
  exact ⟨l, ns, i, g, e _ _ h1, e _ _ h2, h3⟩
/-- a draw: below many, the pen one further, nothing else touched -/
def spDraw : Sp := fun vs H Q _ => ∃ (p : Addr) (m : Int) (c : Nat), vs = [.ref p, .int m] ∧ 0 < m ∧ m < 1073741824 ∧ PenAt H p c ∧ c ≤ 1000000 ∧
  ∀ (r : Int) (H' : Hp), 0 ≤ r → r < m → PenAt H' p (c + 1) → But p H H' → Q (.int r) H'
theorem dp_ints {K : Fg} {H : Hp} : ∀ ns : List Int, DpAll K H (ns.map V.int) (ns.map PyData.int)
  | [] => .nil
  | n :: ns => .cons (.int n) (dp_ints ns)
theorem lay_ints : ∀ ns : List Int, PyData.canLayAll0 (ns.map PyData.int) = true ∧ PyData.depthAll (ns.map PyData.int) = 0
  | [] => ⟨rfl, rfl⟩
  | n :: ns => by
    obtain ⟨h1, h2⟩ := lay_ints ns
    constructor
    · simp only [List.map_cons, PyData.canLayAll0, PyData.canLay0, h1, Bool.and_self]
    · simp only [List.map_cons, PyData.depthAll, PyData.depth, h2, Nat.max_self]
theorem shaped_ints (ns : List Int) : SeqAt.shaped (.list (ns.map PyData.int)) = true := by
  obtain ⟨h1, h2⟩ := lay_ints ns
  simp [SeqAt.shaped, PyData.canLay0, PyData.depth, h1, h2]
theorem atI_of {xs : List V} {i : Int} {v : V} (h0 : 0 ≤ i) (h : xs[i.toNat]? = some v) : atI xs i = some v := by
  have e : i = (i.toNat : Int) := (Int.toNat_of_nonneg h0).symm
  rw [e]
  exact atI_nat h
theorem mul_le' {a b A B : Int} (h1 : 0 ≤ a) (h2 : a ≤ A) (h3 : 0 ≤ b) (h4 : b ≤ B) : 0 ≤ a * b ∧ a * b ≤ A * B :=
  ⟨Int.mul_nonneg h1 h3, Int.mul_le_mul h2 h4 h3 (Int.le_trans h1 h2)⟩
theorem pow_ok (i : Int) (h0 : 0 ≤ i) (h : i < 2 ^ 64) : i.natAbs < 2 ^ 64 := by omega
end Tw
namespace Tw
open PySem PySem.Spec PyProof.Rows L2 He
theorem But.seq {K : Fg} {p a : Addr} {H H' : Hp} {xs : List V} (e : But p H H') (hne : a ≠ p) (h : SqL K H a xs) : SqL K H' a xs := by
  rcases h with (h | ⟨o, h⟩) | h
  · exact .inl (.inl (e _ _ h hne))
  · exact .inl (.inr ⟨o, e _ _ h hne⟩)
  · exact .inr h
theorem cut_ints (ns : List Int) (lo hi : Option Int) : ∃ ms : List Int, cutV (ns.map V.int) lo hi = ms.map V.int ∧ ms.length ≤ ns.length := by
  refine ⟨(ns.drop (HT.sIx (ns.map V.int).length 0 lo)).take (HT.sIx (ns.map V.int).length (ns.map V.int).length hi - HT.sIx (ns.map V.int).length 0 lo), ?_, ?_⟩
  · unfold cutV
    rw [List.map_take, List.map_drop]
  · rw [List.length_take, List.length_drop]
    omega
/-- a new pen -/
def spPen (K : Fg) : Sp := fun vs H Q _ => ∃ (a : Addr) (ns : List Int), vs = [.ref a] ∧ SqL K H a (ns.map V.int) ∧ ns.length ≤ 63 ∧ ∀ (p : Addr) (H' : Hp), H p = none → PenAt H' p 0 → Same H H' → Q (.ref p) H'
/-- an item of a list that is not the pen, drawn -/
def spPick (K : Fg) : Sp := fun vs H Q _ => ∃ (p q : Addr) (xs : List V) (c : Nat), vs = [.ref p, .ref q] ∧ SqL K H q xs ∧ q ≠ p ∧ 0 < xs.length ∧ xs.length < 1000 ∧ PenAt H p c ∧ c ≤ 1000000 ∧
  ∀ (v : V) (H' : Hp), v ∈ xs → PenAt H' p (c + 1) → But p H H' → Q v H'
/-- the heap without the pen -/
def hid (p : Addr) (H : Hp) : Hp := fun b => if b = p then none else H b
theorem hid_ne {p b : Addr} {H : Hp} (h : b ≠ p) : hid p H b = H b := if_neg h
theorem hid_same {p : Addr} {H : Hp} : Same (hid p H) H := fun b o e => by
  unfold hid at e
  split at e
  · cases e
  · exact e
theorem hid_but {p : Addr} {H H' : Hp} (e : But p H H') : Same (hid p H) (hid p H') := fun b o h => by
  unfold hid at h ⊢
  split at h
  · cases h
  · rename_i hb
    rw [if_neg hb]
    exact e b o h hb
theorem sqT_same {K : Fg} {H H' : Hp} {a : Addr} {xs : List V} (e : Same H H') (h : SqT K H a xs) : SqT K H' a xs := by
  rcases h with (h | ⟨o, h⟩) | h
  · exact .inl (.inl (e _ _ h))
  · exact .inl (.inr ⟨o, e _ _ h⟩)
  · exact .inr h
mutual
theorem Dx.same {K : Fg} {H H' : Hp} (e : Same H H') : ∀ {v : V} {d : PyData}, Dx K H v d → Dx K H' v d
  | _, _, .non => .non
  | _, _, .bl b => .bl b
  | _, _, .int i => .int i
  | _, _, .str x => .str x
  | _, _, .lst h n a => .lst (e.seq h) n (DxAll.same e a)
  | _, _, .tup h a => .tup (sqT_same e h) (DxAll.same e a)
  | _, _, .dic h a => .dic (e _ _ h) (DxAll.same e a)
theorem DxAll.same {K : Fg} {H H' : Hp} (e : Same H H') : ∀ {vs : List V} {ds : List PyData}, DxAll K H vs ds → DxAll K H' vs ds
  | _, _, .nil => .nil
  | _, _, .cons h t => .cons (Dx.same e h) (DxAll.same e t)
end
theorem sz1000 {n : Nat} (h : n ≤ 1000) : n ≤ sizeLine := Nat.le_trans h (by decide)
end Tw
/-! Tw: the pen again, its list of cells named: so that a list that grows beside it is known to be another one. -/
namespace Tw
open PySem PySem.Spec PyProof.Rows L2 He
/-- the pen at p, its cells at l -/
def PenL (H : Hp) (p l : Addr) (c : Nat) : Prop := ∃ (ns : List Int) (i g : Int), H p = some (.lst [.ref l, .int i, .int g]) ∧ H l = some (.lst (ns.map V.int)) ∧ l ≠ p ∧ ns.length ≤ 63 ∧ 0 ≤ i ∧ i ≤ (c : Int) ∧ 0 ≤ g
theorem PenL.mono {H : Hp} {p l : Addr} {c c' : Nat} (h : PenL H p l c) (hc : c ≤ c') : PenL H p l c' := by
  obtain ⟨ns, i, g, h1, h2, h3, h4, h5, h6, h7⟩ := h
  exact ⟨ns, i, g, h1, h2, h3, h4, h5, by omega, h7⟩
theorem PenL.same {H H' : Hp} {p l : Addr} {c : Nat} (e : Same H H') (h : PenL H p l c) : PenL H' p l c := by
  obtain ⟨ns, i, g, h1, h2, h3⟩ := h
  exact ⟨ns, i, g, e _ _ h1, e _ _ h2, h3⟩
/-- another object than the pen and its cells changes -/
theorem PenL.upd {H : Hp} {p l q : Addr} {c : Nat} {o : HO} (h : PenL H p l c) (h1 : q ≠ p) (h2 : q ≠ l) : PenL (L2.upd H q o) p l c := by
  obtain ⟨ns, i, g, e1, e2, r⟩ := h
  exact ⟨ns, i, g, by rw [upd_ne h1.symm]; exact e1, by rw [upd_ne h2.symm]; exact e2, r⟩
/-- what is new is neither -/
theorem PenL.new {H : Hp} {p l q : Addr} {c : Nat} (h : PenL H p l c) (hq : H q = none) : q ≠ p ∧ q ≠ l := by
  obtain ⟨ns, i, g, e1, e2, r⟩ := h
  exact ⟨(ne_of_none e1 hq).symm, (ne_of_none e2 hq).symm⟩
def spDrawL : Sp := fun vs H Q _ => ∃ (p l : Addr) (m : Int) (c : Nat), vs = [.ref p, .int m] ∧ 0 < m ∧ m < 1073741824 ∧ PenL H p l c ∧ c ≤ 1000000 ∧
  ∀ (r : Int) (H' : Hp), 0 ≤ r → r < m → PenL H' p l (c + 1) → But p H H' → Q (.int r) H'
def spPenL (K : Fg) : Sp := fun vs H Q _ => ∃ (a : Addr) (ns : List Int), vs = [.ref a] ∧ SqL K H a (ns.map V.int) ∧ ns.length ≤ 63 ∧ ∀ (p l : Addr) (H' : Hp), H p = none → PenL H' p l 0 → Same H H' → Q (.ref p) H'
def spPickL (K : Fg) : Sp := fun vs H Q _ => ∃ (p l q : Addr) (xs : List V) (c : Nat), vs = [.ref p, .ref q] ∧ SqL K H q xs ∧ q ≠ p ∧ 0 < xs.length ∧ xs.length < 1000 ∧ PenL H p l c ∧ c ≤ 1000000 ∧
  ∀ (v : V) (H' : Hp), v ∈ xs → PenL H' p l (c + 1) → But p H H' → Q v H'
end Tw
/-! Tw: repr of any data, get of a written dict, isinstance against a tuple of classes, tuples of the written part, the hook with tables. -/
namespace Tw
open PySem PySem.Spec PyProof.Rows L2 He
section
variable {X : Cx}
/-- repr(x), x any data -/
def rReprV (K : PySem.W.Frag) : List V → Hp → VK → Prop := fun xs H Q => ∃ (v : V) (d : PyData), xs = [v] ∧ Dx K H v d ∧ mild d = true ∧ d.depth ≤ 64 ∧ cap d ≤ 16777216 ∧ Q (.str d.shown) H
theorem call_reprV (hG : NoG X.A) (hu : X.A.units + 70 < cLine) : CallR X (.builtin "repr") (rReprV X.K) := by
  intro pins s σ H xs us Q I r h
  obtain ⟨v, d, rfl, hd, hm, hdp, hc, q⟩ := h
  have hl := Nat.le_trans (shown_le d hm) (show cap d ≤ sizeLine by rw [sizeLine_eq]; exact hc)
  cases v with
  | ref a => exact call_repr hG hu pins s σ H _ us Q I r ⟨a, d, rfl, hd, hm, hdp, hc, q⟩
  | non =>
    cases hd
    obtain ⟨u, rfl, ru⟩ := vals1 r
    cases ru
    exact PySem.P.repr_of_none ⟨.str _, H, I.tok _, ⟨_, rfl⟩, by simpa only [PyData.shown] using q⟩
  | bl b =>
    cases hd
    obtain ⟨u, rfl, ru⟩ := vals1 r
    cases ru
    exact PySem.P.repr_of_bool ⟨.str _, H, I.tok _, ⟨_, rfl⟩, by simpa only [PyData.shown] using q⟩
  | int i =>
    cases hd
    obtain ⟨u, rfl, t, rfl⟩ := vals1 r
    exact PySem.P.repr_of_int (by simpa [mild] using hm) ⟨.str _, H, I.tok _, ⟨_, rfl⟩, by simpa only [PyData.shown] using q⟩
  | str x =>
    cases hd
    obtain ⟨u, rfl, t, rfl⟩ := vals1 r
    exact PySem.P.repr_of_str ⟨.str _, H, I.tok _, ⟨_, rfl⟩, by simpa only [PyData.shown] using q⟩ (by simpa only [PyData.shown] using hl)
  | _ => cases hd
/-- isinstance(x, (C, D, ..)), x anything that is known, errors too -/
def rIsAT (K : PySem.W.Frag) : List V → Hp → VK → Prop := fun xs H Q => ∃ (x : V) (tp : Addr) (cs : List V) (t : Value) (us : List Value) (b : Bool), xs = [x, .ref tp] ∧ H tp = some (.tup cs) ∧ Paired ClsV cs us ∧
  (TyX K H x t ∨ ∃ (a C : Addr) (d : Addr) (fs : List (Str × V)), x = .ref a ∧ t = .ref C ∧ IsX H a C (some d) ∧ IsXd H d fs ∧ XC K C ∧ XO K) ∧ PySem.W.kitAny K t us = some b ∧ Q (.bl b) H
theorem call_isAT : CallR X (.builtin "isinstance") (rIsAT X.K) := by
  intro pins s σ H xs us Q I r h
  obtain ⟨x, tp, cs, t, ws, b, rfl, hT, k, ty, e, q⟩ := h
  obtain ⟨u1, u2, rfl, r1, r2⟩ := vals2 r
  cases (show u2 = Value.ref tp from r2)
  obtain ⟨_, its, rv, o, h1, h2, n, h3⟩ := (show ObjOk X.prog X.w H s.heap tp (.tup cs) from I.hok tp _ hT)
  have e3 := ClsV.all k rv
  subst e3
  obtain ⟨oc, od, dt, sl⟩ := o
  simp only at h2 h3
  subst h2 h3
  rcases ty with ty | ⟨a, C, d, fs, rfl, rfl, ia, idd, T, O⟩
  · obtain ⟨P, Z, p, hx⟩ := kit_of I r1 ty
    exact PySem.W.kia_tup Z I.kIn p h1 e hx fun tk => ⟨.bl b, H, I.tok tk, rfl, q⟩
  · cases (show u1 = Value.ref a from r1)
    obtain ⟨oe, vs, ho, hz, hdt⟩ := ia.get I.hok
    obtain ⟨mA, hns, hr⟩ := idd.get I.hok
    obtain ⟨od, hod, hlk⟩ := lookIn_ns hns
    have J : PySem.W.InstAt s.heap a oe C (some od) := ⟨ho, hz.1, by unfold PySem.W.notCls; rw [hdt] <;> rfl, by rw [hz.2]; exact hod⟩
    exact PySem.W.kia_tup (PySem.W.kitx_exc (od := some od) (oexC_cl T.ox) T.ga T.gg T.ox.exC T.ca O.hn O.ht T.cm) I.kIn J h1 e (fun z => nomatch z) fun tk => ⟨.bl b, H, I.tok tk, rfl, q⟩
end
/-- d.get(y, x), d a dict of the top with text keys -/
def tKGet2 (K : PySem.W.Frag) (d : Addr) (td ty tx : TE) : TE := fun σ H Q => td σ H fun x H1 => x = .ref d ∧ ty σ H1 fun y H2 => ∃ z, y = .str z ∧ tx σ H2 fun q H3 => ∃ (r : Option Value) (v : V), PySem.W.nsIn K d z = some r ∧ (∀ u, RelV q u → RelV v (r.getD u)) ∧ Q v H3
section
variable {X : Cx} {o e f : Expr} {apos cpos : Pos} {td ty tx : TE} {d : Addr} {es : Array DictEntry} {n : Nat}
theorem pe_kget2 (D : KDict X.K X.w d es n) (ho : PE X o td) (he : PE X e ty) (hf : PE X f tx) (m : M2 X o "get" apos e f cpos) : PE X (.Call (.Attribute o "get" apos) [e, f] [] cpos) (tKGet2 X.K d td ty tx) := by
  refine ⟨fun pins s σ H Q I h => ?_⟩
  refine wpAny_Call_method m.base m.few m.line PySem.F.plainAttrs_dict PySem.F.slot_dict_get PySem.F.type_dict_get (thn (ho.run pins s σ H _ I h) fun u s1 ⟨x, H1, I1, rx, ex, q1⟩ => ?_)
  subst ex
  obtain rfl : u = Value.ref d := rx
  refine ⟨kd_type D I1, fun b q => by cases q; exact ⟨_, I1.kIn _ _ D.at_, rfl⟩, ?_⟩
  rw [m.trees]
  refine Calls.callWith_builtin rfl (Calls.evalArgs_plain (Calls.spliced_cons (thn (he.run pins s1 σ H1 _ I1 q1) fun iv s2 ⟨y, H2, I2, ry, z, ez, q2⟩ =>
    Calls.spliced_cons (thn (hf.run pins s2 σ H2 _ I2 q2) fun fv s3 ⟨q, H3, I3, rq, r, v, er, hv, q3⟩ => Calls.spliced_nil ?_))))
  subst ez
  obtain ⟨t, rfl⟩ := ry
  refine call_meetsIn PySem.F.slot_dict_get (kd_type D I3) PySem.F.entry_dict_get (PySem.F.args_dict_get_3 _ _ _) (meets_dict_get_default (PySem.strKind X.prog X.w) d (PySem.strKind_is X.prog X.w z t) D.low fv) ⟨_, PySem.W.mapOf_K (prog := X.prog) I3.kIn D.at_ D.lit, ?_⟩
  rw [PySem.W.find_K D.at_ er]
  exact ⟨v, H3, I3.tok _, hv _ rq, q3⟩
end
/-! ### tuples of the written part -/
def tupB (K : Fg) (a : Addr) (vs : List V) : Bool := match K.lookup a with
  | some ⟨.type t, _, .seq its _, _⟩ => decide (t = "tuple") && (decide (its.size ≤ 1000) && relAll vs its.toList)
  | _ => false
theorem tupB_ok {K : Fg} {a : Addr} {vs : List V} (h : tupB K a vs = true) (H : Hp) : SqT K H a vs := by
  unfold tupB at h
  cases e : K.lookup a with
  | none =>
    rw [e] at h
    cases h
  | some o =>
    rw [e] at h
    obtain ⟨oc, od, dt, sl⟩ := o
    cases oc with
    | type t =>
      cases dt with
      | seq its n =>
        obtain ⟨h1, h⟩ := ba h
        obtain ⟨h2, h3⟩ := ba h
        have e1 := of_decide_eq_true h1
        subst e1
        exact .inr ⟨_, its, n, e, rfl, rfl, Nat.le_trans (of_decide_eq_true h2) (by decide), relAll_ok h3⟩
      | _ => cases h
    | _ => cases h
/-- C.f, a constant read off the class -/
def cvalB (K : Fg) (C : Addr) (f : Str) (v : V) : Bool := match PySem.W.findCls K (.ref C) (.type "type") f with
  | some (.val u) => relB v u
  | _ => false
theorem cvalB_ok {K : Fg} {C : Addr} {f : Str} {v : V} (h : cvalB K C f v = true) : ∃ u, ClX.CVal K C (.type "type") f v u := by
  unfold cvalB at h
  split at h
  · rename_i u e
    exact ⟨u, e, relB_ok h⟩
  · cases h
def creadB (K : Fg) (C : Addr) : Bool := PySem.W.readsIn K C (.type "type") && eqO (PySem.W.specialIn K (.ref C) "__getattribute__") (some (some (.builtin "type.__getattribute__")))
theorem creadB_ok {K : Fg} {C : Addr} (h : creadB K C = true) : ClX.CRead K C (.type "type") := by
  obtain ⟨h1, h2⟩ := ba h
  exact ⟨h1, eqO_ok h2⟩
/-! ### the hook with tables -/
abbrev AlYT : Type := AlD × List (Option (List (Option (Str × Int))))
def obsYT (fs : Fz) (fn : List DefD) (ts : List Tab) (K : Fg) : AlYT := (obsY fs fn K, ts.map fun t => dicW K (t.1 K))
def valYT (fn : List DefD) (ts : List Tab) (w : World) : AlYT := (valD fn, ts.map fun t => some (keysIn w.params t.2))
def obsYTG (n : Nat) (fs : Fz) (fn : List DefD) (ts : List Tab) (g : Addr → Option Obj) : AlYT := obsYT fs fn ts (frG g (asD g n ++ [cStatics]))
def SaysYT (fs : Fz) (fn : List DefD) (ts : List Tab) (w : World) (K : Fg) : Prop := obsYT fs fn ts K = valYT fn ts w
def hookYT (n : Nat) (fs : Fz) (fn : List DefD) (ts : List Tab) : PySem.W.Hook where
  α := AlYT
  obs := fun s => obsYTG n fs fn ts s.heap.get?
  val := fun w => valYT fn ts w
  says := fun w h => ∃ K : Fg, K.In h ∧ SaysYT fs fn ts w K
  of := fun _ _ e => ⟨_, frG_in, e⟩
  keeps := fun _ _ _ ⟨K, hK, c⟩ k => ⟨K, PySem.W.Frag.In.keeps hK k, c⟩
theorem obsYTG_eq {n : Nat} {fs : Fz} {fn : List DefD} {ts : List Tab} {g : Addr → Option Obj} {s : Shared} (h : ∀ a, g a = s.heap.get? a) : obsYTG n fs fn ts g = (hookYT n fs fn ts).obs s := by
  have e : g = s.heap.get? := funext h
  rw [e] <;> rfl
section
variable {fs : Fz} {fn : List DefD} {ts : List Tab} {w : World} {K : Fg}
theorem SaysYT.y (c : SaysYT fs fn ts w K) : SaysY fs fn K := congrArg (fun z : AlYT => z.1) c
theorem SaysYT.tab (c : SaysYT fs fn ts w K) (i : Nat) {t : Tab} (h : ts[i]? = some t := by rfl) : ∃ es n, KDict K w (t.1 K) es n := by
  have e : ts.map (fun t => dicW K (t.1 K)) = ts.map fun t => some (keysIn w.params t.2) := congrArg (fun z : AlYT => z.2) c
  have e2 : (ts.map fun t => dicW K (t.1 K))[i]? = (ts.map fun t => some (keysIn w.params t.2))[i]? := by rw [e]
  rw [List.getElem?_map, List.getElem?_map, h] at e2
  exact dicW_ok (Option.some.inj e2)
end
/-! ### small texts -/
/-- signs below 128, at most n -/
def Small (n : Nat) (z : Str) : Prop := z.length ≤ n ∧ ∀ c ∈ z.cps.toList, c < 128
theorem Small.app {m n : Nat} {x y : Str} (hx : Small m x) (hy : Small n y) : Small (m + n) (x ++ y) := by
  refine ⟨by rw [Str.length_append]; exact Nat.add_le_add hx.1 hy.1, fun c hc => ?_⟩
  rw [show (x ++ y).cps.toList = TL.tl (x ++ y) from rfl, TL.tl_append] at hc
  rcases List.mem_append.mp hc with q | q
  · exact hx.2 c q
  · exact hy.2 c q
theorem Small.cut {n : Nat} {x : Str} (hx : Small n x) (lo hi : Option Int) : Small n (cutS x lo hi) := by
  refine ⟨Nat.le_trans (cutS_length x lo hi) hx.1, fun c hc => hx.2 c ?_⟩
  unfold cutS at hc
  exact List.mem_of_mem_drop (List.mem_of_mem_take (by simpa using hc))
theorem Small.mono {m n : Nat} {x : Str} (hx : Small m x) (h : m ≤ n) : Small n x := ⟨Nat.le_trans hx.1 h, hx.2⟩
theorem Small.mild {n : Nat} {x : Str} (hx : Small n x) : Tw.mild (.str x) = true := by
  unfold Tw.mild
  rw [List.all_eq_true]
  exact fun c hc => decide_eq_true (Nat.lt_trans (hx.2 c hc) (by decide))
def smallB (n : Nat) (z : Str) : Bool := decide (z.length ≤ n) && z.cps.toList.all fun c => decide (c < 128)
theorem smallB_ok {n : Nat} {z : Str} (h : smallB n z = true) : Small n z := by
  obtain ⟨h1, h2⟩ := ba h
  exact ⟨of_decide_eq_true h1, fun c hc => of_decide_eq_true (List.all_eq_true.mp h2 c hc)⟩
theorem Small.strOk {n : Nat} {z : Str} (h : Small n z) : PyData.strOk z = true := by
  unfold PyData.strOk
  rw [← Array.all_toList, List.all_eq_true]
  exact fun c hc => decide_eq_true (Nat.lt_trans (h.2 c hc) (by decide))
/-! ### lists of texts -/
theorem dxStrs {K : PySem.W.Frag} {H : Hp} : ∀ zs : List Str, DxAll K H (zs.map V.str) (zs.map PyData.str)
  | [] => .nil
  | z :: zs => .cons (.str z) (dxStrs zs)
theorem dxBools {K : PySem.W.Frag} {H : Hp} : ∀ zs : List Bool, DxAll K H (zs.map V.bl) (zs.map PyData.bool)
  | [] => .nil
  | z :: zs => .cons (.bl z) (dxBools zs)
theorem dpStrs {K : PySem.W.Frag} {H : Hp} : ∀ zs : List Str, DpAll K H (zs.map V.str) (zs.map PyData.str)
  | [] => .nil
  | z :: zs => .cons (.str z) (dpStrs zs)
theorem mildStrs {n : Nat} : ∀ zs : List Str, (∀ z ∈ zs, Small n z) → mildAll (zs.map .str) = true ∧ capAll (zs.map .str) ≤ (12 * n + 100) * zs.length
  | [], _ => ⟨rfl, Nat.le_refl _⟩
  | z :: zs, h => by
    obtain ⟨h1, h2⟩ := mildStrs zs fun y hy => h y (List.mem_cons_of_mem _ hy)
    have h3 := h z List.mem_cons_self
    constructor
    · simp only [List.map_cons, mildAll, h3.mild, h1, Bool.and_self]
    · simp only [List.map_cons, capAll, List.length_cons]
      have h4 : cap (.str z) ≤ 12 * n + 90 := by
        have := h3.1
        simp only [cap]
        omega
      rw [Nat.mul_add]
      omega
theorem depthStrs : ∀ zs : List Str, PyData.depthAll (zs.map PyData.str) = 0
  | [] => rfl
  | z :: zs => by simp only [List.map_cons, PyData.depthAll, PyData.depth, depthStrs zs, Nat.max_self]
/-- what repr asks of a list of small texts -/
theorem reprStrs {n : Nat} (zs : List Str) (h : ∀ z ∈ zs, Small n z) (hn : n ≤ 1000) (hz : zs.length ≤ 1000) : mild (.list (zs.map .str)) = true ∧ (PyData.list (zs.map .str)).depth ≤ 64 ∧ cap (.list (zs.map .str)) ≤ 16777216 := by
  obtain ⟨h1, h2⟩ := mildStrs zs h
  have h3 : (12 * n + 100) * zs.length ≤ 12100 * 1000 := Nat.mul_le_mul (by omega) hz
  refine ⟨by simpa [mild] using h1, by simp only [PyData.depth, depthStrs]; decide, ?_⟩
  simp only [cap]
  omega
end Tw
/-! ### the defs of a text, by their number -/
namespace Tw
open PySem PySem.Spec PyProof.Rows L2 He
abbrev DefsAt (fn : List DefD) (K : Fg) (fd : Nat → FuncData) : Prop := ∀ (i : Nat) (d : DefD), fn[i]? = some d → FunD K d.name d.qual d.params d.body d.scope (d.dvs K) (d.kws K) (fAd K d.at_) (fd i)
theorem SaysY.defs {fs : Fz} {fn : List DefD} {K : Fg} (c : SaysY fs fn K) {d0 : DefD} (h0 : fn[0]? = some d0) : ∃ fd : Nat → FuncData, DefsAt fn K fd := by
  obtain ⟨u0, _⟩ := c.def_ 0 h0
  have h : ∀ i : Nat, ∃ u : FuncData, ∀ d : DefD, fn[i]? = some d → FunD K d.name d.qual d.params d.body d.scope (d.dvs K) (d.kws K) (fAd K d.at_) u := fun i => by
    cases e : fn[i]? with
    | none => exact ⟨u0, fun d z => nomatch z⟩
    | some d =>
      obtain ⟨u, hu⟩ := c.def_ i e
      exact ⟨u, fun d' z => by
        cases z
        exact hu⟩
  exact ⟨fun i => Classical.choose (h i), fun i d e => Classical.choose_spec (h i) d e⟩
/-- what the walk asks of the written part and of the module's names -/
structure TxtB (fs : Fz) (fn : List DefD) (K : Fg) (mg : Str → Option Value) : Prop where
  c : SaysY fs fn K
  gl : ∀ x, (Fa.glo x).ok K = true → mg x = some (.ref (ga K x))
  fr : ∀ x, (Fa.free x).ok K = true → mg x = none
  nt : ∀ x i, (Fa.int x i).ok K = true → ∃ t, mg x = some (.int i t)
  tx : ∀ x z, (Fa.str x z).ok K = true → ∃ t, mg x = some (.str z t)
end Tw
namespace Tw
open PySem PySem.Spec PyProof.Rows L2 He
/-! ### errors of one field -/
/-- C.__init__ that stores one value -/
def spIni (C : Addr) (f : Str) : Sp := fun vs H Q _ => ∃ (a : Addr) (v : V), vs = [.ref a, v] ∧ H a = some (exo a C none) ∧ ∀ (d : Addr) (H' : Hp), H d = none → d ≠ a → H' a = some (exo a C (some d)) → H' d = some (exd d [(f, v)]) → But a H H' → Q .non H'
theorem bad_out {H : Hp} {C : Addr} {f : Str} {v : V} {Q : XK} {E : XK} (k : ∀ (d : Addr) (H' : Hp), Same H H' → H' d = some (.xd [(f, v)]) → Q (.ref C) (some d) H') :
    ([v] : List V).length ≤ 1000 ∧ ∀ a, H a = none → spIni C f (.ref a :: (([v] : List V) ++ [])) (upd H a (exo a C none)) (fun v H2 => v = .non ∧ ∃ (d : Addr) (fs : List (Str × V)), H2 a = some (exo a C (some d)) ∧ H2 d = some (exd d fs) ∧ H d = none ∧ Q (.ref C) (some d) (upd (del H2 a) d (.xd fs))) E := by
  refine ⟨(by show 1 ≤ 1000; decide), fun a ha => ⟨a, v, rfl, upd_same, fun d H' hd hda e1 e2 e3 => ?_⟩⟩
  rw [upd_ne hda] at hd
  refine ⟨rfl, d, _, e1, e2, hd, k d _ (fun b o hb => ?_) upd_same⟩
  have hba : b ≠ a := ne_of_none hb ha
  rw [upd_ne (ne_of_none hb hd), del_ne hba]
  exact e3 b o (by rw [upd_ne hba]; exact hb) hba
theorem same_but {H H1 H2 : Hp} {a : Addr} (s : Same H H1) (b : But a H1 H2) (h : H a = none) : Same H H2 := fun c o e => b c o (s c o e) (ne_of_none e h)
theorem same_made {H : Hp} {a dx : Addr} {o u : HO} (hd : H dx = none) (ha : H a = none) (hda : dx ≠ a) : Same H (upd (upd H dx o) a u) := (same_new hd).trans (same_new (by rw [upd_ne hda.symm]; exact ha))
theorem atI_gen {α : Type} {xs : List α} {i : Int} {v : α} (h0 : 0 ≤ i) (h : xs[i.toNat]? = some v) : atI xs i = some v := by
  have e : i = (i.toNat : Int) := (Int.toNat_of_nonneg h0).symm
  rw [e]
  exact atI_nat h
theorem dec_i {i j : Int} : decide (V.int i = V.int j) = decide (i = j) := by
  by_cases h : i = j
  · rw [h]
    simp
  · rw [decide_eq_false h, decide_eq_false fun z => h (V.int.inj z)]
theorem dec_s {i j : Str} : decide (V.str i = V.str j) = decide (i = j) := by
  by_cases h : i = j
  · rw [h]
    simp
  · rw [decide_eq_false h, decide_eq_false fun z => h (V.str.inj z)]
theorem inStrs (z : Str) : ∀ zs : List Str, inV (.str z) (zs.map V.str) = decide (z ∈ zs)
  | [] => rfl
  | y :: ys => by
    have ih := inStrs z ys
    unfold inV at ih ⊢
    rw [List.map_cons, List.any_cons, ih]
    show ((y == z) || _) = _
    by_cases h : y = z
    · subst h
      simp
    · rw [beq_eq_false_iff_ne.mpr h, Bool.false_or]
      exact decide_eq_decide.2 ⟨fun q => List.mem_cons_of_mem _ q, fun q => (List.mem_cons.mp q).resolve_left fun e => h e.symm⟩
theorem flatStrs : ∀ zs : List Str, (zs.map V.str).all flatV = true
  | [] => rfl
  | _ :: zs => by
    rw [List.map_cons, List.all_cons, flatStrs zs]
    rfl
end Tw
namespace K40
open PySem PySem.Spec PyProof.Rows L2 He Tw
def topS (i : Nat) : Stmt := PySem.Challenge.pw_twoheads_k40_claims_and_their_words.main.body.getD i (.Pass ⟨0, 0, 0, 0⟩)
def dM (c : Str) (i j : Nat) (m : Str) (dvs : List Dv) : DefD := ⟨(c, some m), m, c ++ "." ++ m, defArgs (inClass (topS i) j), defBody (inClass (topS i) j), defScope (inClass (topS i) j), dvs, []⟩
def dF (x : Str) (i : Nat) : DefD := ⟨(x, none), x, x, defArgs (topS i), defBody (topS i), defScope (topS i), [], []⟩
def clss : List Str := ["HeadsError", "BadInput", "BadPlace", "BadWalk", "BadText", "BadName", "Claim"]
def fnames : List Str := ["exchanged", "last_in", "_law_pen", "_law_draw", "_law_pick", "_law_claim_words", "_law_near", "_law_refused", "_law_right", "law"]
def blts : List Str := ["all", "str", "list", "int", "len", "isinstance", "repr", "abs", "tuple", "range"]
def fn : List DefD := [dM "BadPlace" 4 0 "__init__" [], dM "BadWalk" 5 0 "__init__" [], dM "BadText" 6 0 "__init__" [], dM "BadName" 7 0 "__init__" [], dF "exchanged" 11, dF "last_in" 13, dM "Claim" 15 1 "__init__" [], dM "Claim" 15 2 "__str__" [], dM "Claim" 15 3 "__eq__" [], dM "Claim" 15 4 "turned" [], dM "Claim" 15 6 "ends" [], dF "_law_pen" 17, dF "_law_draw" 18, dF "_law_pick" 19, dF "_law_claim_words" 20, dF "_law_near" 21, dF "_law_refused" 22, dF "_law_right" 23, dF "law" 24]
abbrev s_BadPlace_init : Stmt := inClass (topS 4) 0
abbrev N_BadPlace_init : List Str := ["self", "at"]
theorem sc_BadPlace_init : FnScope N_BadPlace_init ["self", "at"] (defScope s_BadPlace_init) := ⟨rfl, rfl, rfl, by decide +kernel, rfl, by decide +kernel, by decide +kernel⟩
abbrev at_BadPlace_init (K : Fg) : Addr := (ma K (ga K "BadPlace") "__init__")
abbrev fd_BadPlace_init (fd : Nat → FuncData) : FuncData := fd 0
section
variable {K : Fg} {mg : Str → Option Value} {fd : Nat → FuncData}
theorem F_BadPlace_init (D : DefsAt fn K fd) : FnP K "__init__" "BadPlace.__init__" s_BadPlace_init (at_BadPlace_init K) (fd_BadPlace_init fd) := D 0 _ rfl
theorem b_BadPlace_init (D : DefsAt fn K fd) : Binds K (fd_BadPlace_init fd) ["self", "at"] [] := (F_BadPlace_init D).bindsN fun _ _ _ _ _ _ us hl => match us, hl with | [_, _], _ => rfl
theorem k_BadPlace_init (D : DefsAt fn K fd) : PySem.W.keepIn K (.ref (at_BadPlace_init K)) = true := (F_BadPlace_init D).kp
end
abbrev s_BadWalk_init : Stmt := inClass (topS 5) 0
abbrev N_BadWalk_init : List Str := ["self", "reason", "line"]
theorem sc_BadWalk_init : FnScope N_BadWalk_init ["self", "reason", "line"] (defScope s_BadWalk_init) := ⟨rfl, rfl, rfl, by decide +kernel, rfl, by decide +kernel, by decide +kernel⟩
abbrev at_BadWalk_init (K : Fg) : Addr := (ma K (ga K "BadWalk") "__init__")
abbrev fd_BadWalk_init (fd : Nat → FuncData) : FuncData := fd 1
section
variable {K : Fg} {mg : Str → Option Value} {fd : Nat → FuncData}
theorem F_BadWalk_init (D : DefsAt fn K fd) : FnP K "__init__" "BadWalk.__init__" s_BadWalk_init (at_BadWalk_init K) (fd_BadWalk_init fd) := D 1 _ rfl
theorem b_BadWalk_init (D : DefsAt fn K fd) : Binds K (fd_BadWalk_init fd) ["self", "reason", "line"] [] := (F_BadWalk_init D).bindsN fun _ _ _ _ _ _ us hl => match us, hl with | [_, _, _], _ => rfl
theorem k_BadWalk_init (D : DefsAt fn K fd) : PySem.W.keepIn K (.ref (at_BadWalk_init K)) = true := (F_BadWalk_init D).kp
end
abbrev s_BadText_init : Stmt := inClass (topS 6) 0
abbrev N_BadText_init : List Str := ["self", "row", "word"]
theorem sc_BadText_init : FnScope N_BadText_init ["self", "row", "word"] (defScope s_BadText_init) := ⟨rfl, rfl, rfl, by decide +kernel, rfl, by decide +kernel, by decide +kernel⟩
abbrev at_BadText_init (K : Fg) : Addr := (ma K (ga K "BadText") "__init__")
abbrev fd_BadText_init (fd : Nat → FuncData) : FuncData := fd 2
section
variable {K : Fg} {mg : Str → Option Value} {fd : Nat → FuncData}
theorem F_BadText_init (D : DefsAt fn K fd) : FnP K "__init__" "BadText.__init__" s_BadText_init (at_BadText_init K) (fd_BadText_init fd) := D 2 _ rfl
theorem b_BadText_init (D : DefsAt fn K fd) : Binds K (fd_BadText_init fd) ["self", "row", "word"] [] := (F_BadText_init D).bindsN fun _ _ _ _ _ _ us hl => match us, hl with | [_, _, _], _ => rfl
theorem k_BadText_init (D : DefsAt fn K fd) : PySem.W.keepIn K (.ref (at_BadText_init K)) = true := (F_BadText_init D).kp
end
abbrev s_BadName_init : Stmt := inClass (topS 7) 0
abbrev N_BadName_init : List Str := ["self", "name"]
theorem sc_BadName_init : FnScope N_BadName_init ["self", "name"] (defScope s_BadName_init) := ⟨rfl, rfl, rfl, by decide +kernel, rfl, by decide +kernel, by decide +kernel⟩
abbrev at_BadName_init (K : Fg) : Addr := (ma K (ga K "BadName") "__init__")
abbrev fd_BadName_init (fd : Nat → FuncData) : FuncData := fd 3
section
variable {K : Fg} {mg : Str → Option Value} {fd : Nat → FuncData}
theorem F_BadName_init (D : DefsAt fn K fd) : FnP K "__init__" "BadName.__init__" s_BadName_init (at_BadName_init K) (fd_BadName_init fd) := D 3 _ rfl
theorem b_BadName_init (D : DefsAt fn K fd) : Binds K (fd_BadName_init fd) ["self", "name"] [] := (F_BadName_init D).bindsN fun _ _ _ _ _ _ us hl => match us, hl with | [_, _], _ => rfl
theorem k_BadName_init (D : DefsAt fn K fd) : PySem.W.keepIn K (.ref (at_BadName_init K)) = true := (F_BadName_init D).kp
end
abbrev s_exchanged : Stmt := topS 11
abbrev N_exchanged : List Str := ["word"]
theorem sc_exchanged : FnScope N_exchanged ["word"] (defScope s_exchanged) := ⟨rfl, rfl, rfl, by decide +kernel, rfl, by decide +kernel, by decide +kernel⟩
abbrev at_exchanged (K : Fg) : Addr := (ga K "exchanged")
abbrev fd_exchanged (fd : Nat → FuncData) : FuncData := fd 4
section
variable {K : Fg} {mg : Str → Option Value} {fd : Nat → FuncData}
theorem F_exchanged (D : DefsAt fn K fd) : FnP K "exchanged" "exchanged" s_exchanged (at_exchanged K) (fd_exchanged fd) := D 4 _ rfl
theorem b_exchanged (D : DefsAt fn K fd) : Binds K (fd_exchanged fd) ["word"] [] := (F_exchanged D).bindsN fun _ _ _ _ _ _ us hl => match us, hl with | [_], _ => rfl
theorem k_exchanged (D : DefsAt fn K fd) : PySem.W.keepIn K (.ref (at_exchanged K)) = true := (F_exchanged D).kp
end
abbrev s_last_in : Stmt := topS 13
abbrev N_last_in : List Str := ["stand", "side"]
theorem sc_last_in : FnScope N_last_in ["stand", "side"] (defScope s_last_in) := ⟨rfl, rfl, rfl, by decide +kernel, rfl, by decide +kernel, by decide +kernel⟩
abbrev at_last_in (K : Fg) : Addr := (ga K "last_in")
abbrev fd_last_in (fd : Nat → FuncData) : FuncData := fd 5
section
variable {K : Fg} {mg : Str → Option Value} {fd : Nat → FuncData}
theorem F_last_in (D : DefsAt fn K fd) : FnP K "last_in" "last_in" s_last_in (at_last_in K) (fd_last_in fd) := D 5 _ rfl
theorem b_last_in (D : DefsAt fn K fd) : Binds K (fd_last_in fd) ["stand", "side"] [] := (F_last_in D).bindsN fun _ _ _ _ _ _ us hl => match us, hl with | [_, _], _ => rfl
theorem k_last_in (D : DefsAt fn K fd) : PySem.W.keepIn K (.ref (at_last_in K)) = true := (F_last_in D).kp
end
abbrev s_Claim_init : Stmt := inClass (topS 15) 1
abbrev N_Claim_init : List Str := ["self", "word", "kind", "_", "side"]
theorem sc_Claim_init : FnScope N_Claim_init ["self", "word"] (defScope s_Claim_init) := ⟨rfl, rfl, rfl, by decide +kernel, rfl, by decide +kernel, by decide +kernel⟩
abbrev at_Claim_init (K : Fg) : Addr := (ma K (ga K "Claim") "__init__")
abbrev fd_Claim_init (fd : Nat → FuncData) : FuncData := fd 6
section
variable {K : Fg} {mg : Str → Option Value} {fd : Nat → FuncData}
theorem F_Claim_init (D : DefsAt fn K fd) : FnP K "__init__" "Claim.__init__" s_Claim_init (at_Claim_init K) (fd_Claim_init fd) := D 6 _ rfl
theorem b_Claim_init (D : DefsAt fn K fd) : Binds K (fd_Claim_init fd) ["self", "word"] [] := (F_Claim_init D).bindsN fun _ _ _ _ _ _ us hl => match us, hl with | [_, _], _ => rfl
theorem k_Claim_init (D : DefsAt fn K fd) : PySem.W.keepIn K (.ref (at_Claim_init K)) = true := (F_Claim_init D).kp
end
abbrev s_Claim_str : Stmt := inClass (topS 15) 2
abbrev N_Claim_str : List Str := ["self"]
theorem sc_Claim_str : FnScope N_Claim_str ["self"] (defScope s_Claim_str) := ⟨rfl, rfl, rfl, by decide +kernel, rfl, by decide +kernel, by decide +kernel⟩
abbrev at_Claim_str (K : Fg) : Addr := (ma K (ga K "Claim") "__str__")
abbrev fd_Claim_str (fd : Nat → FuncData) : FuncData := fd 7
section
variable {K : Fg} {mg : Str → Option Value} {fd : Nat → FuncData}
theorem F_Claim_str (D : DefsAt fn K fd) : FnP K "__str__" "Claim.__str__" s_Claim_str (at_Claim_str K) (fd_Claim_str fd) := D 7 _ rfl
theorem b_Claim_str (D : DefsAt fn K fd) : Binds K (fd_Claim_str fd) ["self"] [] := (F_Claim_str D).bindsN fun _ _ _ _ _ _ us hl => match us, hl with | [_], _ => rfl
theorem k_Claim_str (D : DefsAt fn K fd) : PySem.W.keepIn K (.ref (at_Claim_str K)) = true := (F_Claim_str D).kp
end
abbrev s_Claim_eq : Stmt := inClass (topS 15) 3
abbrev N_Claim_eq : List Str := ["self", "other"]
theorem sc_Claim_eq : FnScope N_Claim_eq ["self", "other"] (defScope s_Claim_eq) := ⟨rfl, rfl, rfl, by decide +kernel, rfl, by decide +kernel, by decide +kernel⟩
abbrev at_Claim_eq (K : Fg) : Addr := (ma K (ga K "Claim") "__eq__")
abbrev fd_Claim_eq (fd : Nat → FuncData) : FuncData := fd 8
section
variable {K : Fg} {mg : Str → Option Value} {fd : Nat → FuncData}
theorem F_Claim_eq (D : DefsAt fn K fd) : FnP K "__eq__" "Claim.__eq__" s_Claim_eq (at_Claim_eq K) (fd_Claim_eq fd) := D 8 _ rfl
theorem b_Claim_eq (D : DefsAt fn K fd) : Binds K (fd_Claim_eq fd) ["self", "other"] [] := (F_Claim_eq D).bindsN fun _ _ _ _ _ _ us hl => match us, hl with | [_, _], _ => rfl
theorem k_Claim_eq (D : DefsAt fn K fd) : PySem.W.keepIn K (.ref (at_Claim_eq K)) = true := (F_Claim_eq D).kp
end
abbrev s_Claim_turned : Stmt := inClass (topS 15) 4
abbrev N_Claim_turned : List Str := ["self"]
theorem sc_Claim_turned : FnScope N_Claim_turned ["self"] (defScope s_Claim_turned) := ⟨rfl, rfl, rfl, by decide +kernel, rfl, by decide +kernel, by decide +kernel⟩
abbrev at_Claim_turned (K : Fg) : Addr := (ma K (ga K "Claim") "turned")
abbrev fd_Claim_turned (fd : Nat → FuncData) : FuncData := fd 9
section
variable {K : Fg} {mg : Str → Option Value} {fd : Nat → FuncData}
theorem F_Claim_turned (D : DefsAt fn K fd) : FnP K "turned" "Claim.turned" s_Claim_turned (at_Claim_turned K) (fd_Claim_turned fd) := D 9 _ rfl
theorem b_Claim_turned (D : DefsAt fn K fd) : Binds K (fd_Claim_turned fd) ["self"] [] := (F_Claim_turned D).bindsN fun _ _ _ _ _ _ us hl => match us, hl with | [_], _ => rfl
theorem k_Claim_turned (D : DefsAt fn K fd) : PySem.W.keepIn K (.ref (at_Claim_turned K)) = true := (F_Claim_turned D).kp
end
abbrev s_Claim_ends : Stmt := inClass (topS 15) 6
abbrev N_Claim_ends : List Str := ["self", "stand"]
theorem sc_Claim_ends : FnScope N_Claim_ends ["self", "stand"] (defScope s_Claim_ends) := ⟨rfl, rfl, rfl, by decide +kernel, rfl, by decide +kernel, by decide +kernel⟩
abbrev at_Claim_ends (K : Fg) : Addr := (ma K (ga K "Claim") "ends")
abbrev fd_Claim_ends (fd : Nat → FuncData) : FuncData := fd 10
section
variable {K : Fg} {mg : Str → Option Value} {fd : Nat → FuncData}
theorem F_Claim_ends (D : DefsAt fn K fd) : FnP K "ends" "Claim.ends" s_Claim_ends (at_Claim_ends K) (fd_Claim_ends fd) := D 10 _ rfl
theorem b_Claim_ends (D : DefsAt fn K fd) : Binds K (fd_Claim_ends fd) ["self", "stand"] [] := (F_Claim_ends D).bindsN fun _ _ _ _ _ _ us hl => match us, hl with | [_, _], _ => rfl
theorem k_Claim_ends (D : DefsAt fn K fd) : PySem.W.keepIn K (.ref (at_Claim_ends K)) = true := (F_Claim_ends D).kp
end
abbrev s_pen : Stmt := topS 17
abbrev N_pen : List Str := ["_law_script"]
theorem sc_pen : FnScope N_pen ["_law_script"] (defScope s_pen) := ⟨rfl, rfl, rfl, by decide +kernel, rfl, by decide +kernel, by decide +kernel⟩
abbrev at_pen (K : Fg) : Addr := (ga K "_law_pen")
abbrev fd_pen (fd : Nat → FuncData) : FuncData := fd 11
section
variable {K : Fg} {mg : Str → Option Value} {fd : Nat → FuncData}
theorem F_pen (D : DefsAt fn K fd) : FnP K "_law_pen" "_law_pen" s_pen (at_pen K) (fd_pen fd) := D 11 _ rfl
theorem b_pen (D : DefsAt fn K fd) : Binds K (fd_pen fd) ["_law_script"] [] := (F_pen D).bindsN fun _ _ _ _ _ _ us hl => match us, hl with | [_], _ => rfl
theorem k_pen (D : DefsAt fn K fd) : PySem.W.keepIn K (.ref (at_pen K)) = true := (F_pen D).kp
end
abbrev s_draw : Stmt := topS 18
abbrev N_draw : List Str := ["_law_pen_here", "_law_many", "_law_digit", "_law_turn", "_law_cell", "_law_great", "_law_mixed"]
theorem sc_draw : FnScope N_draw ["_law_pen_here", "_law_many"] (defScope s_draw) := ⟨rfl, rfl, rfl, by decide +kernel, rfl, by decide +kernel, by decide +kernel⟩
abbrev at_draw (K : Fg) : Addr := (ga K "_law_draw")
abbrev fd_draw (fd : Nat → FuncData) : FuncData := fd 12
section
variable {K : Fg} {mg : Str → Option Value} {fd : Nat → FuncData}
theorem F_draw (D : DefsAt fn K fd) : FnP K "_law_draw" "_law_draw" s_draw (at_draw K) (fd_draw fd) := D 12 _ rfl
theorem b_draw (D : DefsAt fn K fd) : Binds K (fd_draw fd) ["_law_pen_here", "_law_many"] [] := (F_draw D).bindsN fun _ _ _ _ _ _ us hl => match us, hl with | [_, _], _ => rfl
theorem k_draw (D : DefsAt fn K fd) : PySem.W.keepIn K (.ref (at_draw K)) = true := (F_draw D).kp
end
abbrev s_pick : Stmt := topS 19
abbrev N_pick : List Str := ["_law_pen_here", "_law_some"]
theorem sc_pick : FnScope N_pick ["_law_pen_here", "_law_some"] (defScope s_pick) := ⟨rfl, rfl, rfl, by decide +kernel, rfl, by decide +kernel, by decide +kernel⟩
abbrev at_pick (K : Fg) : Addr := (ga K "_law_pick")
abbrev fd_pick (fd : Nat → FuncData) : FuncData := fd 13
section
variable {K : Fg} {mg : Str → Option Value} {fd : Nat → FuncData}
theorem F_pick (D : DefsAt fn K fd) : FnP K "_law_pick" "_law_pick" s_pick (at_pick K) (fd_pick fd) := D 13 _ rfl
theorem b_pick (D : DefsAt fn K fd) : Binds K (fd_pick fd) ["_law_pen_here", "_law_some"] [] := (F_pick D).bindsN fun _ _ _ _ _ _ us hl => match us, hl with | [_, _], _ => rfl
theorem k_pick (D : DefsAt fn K fd) : PySem.W.keepIn K (.ref (at_pick K)) = true := (F_pick D).kp
end
abbrev s_claim_words : Stmt := topS 20
abbrev N_claim_words : List Str := ["_law_found", "_law_word"]
theorem sc_claim_words : FnScope N_claim_words [] (defScope s_claim_words) := ⟨rfl, rfl, rfl, by decide +kernel, rfl, by decide +kernel, by decide +kernel⟩
abbrev at_claim_words (K : Fg) : Addr := (ga K "_law_claim_words")
abbrev fd_claim_words (fd : Nat → FuncData) : FuncData := fd 14
section
variable {K : Fg} {mg : Str → Option Value} {fd : Nat → FuncData}
theorem F_claim_words (D : DefsAt fn K fd) : FnP K "_law_claim_words" "_law_claim_words" s_claim_words (at_claim_words K) (fd_claim_words fd) := D 14 _ rfl
theorem b_claim_words (D : DefsAt fn K fd) : Binds K (fd_claim_words fd) [] [] := (F_claim_words D).bindsN fun _ _ _ _ _ _ us hl => match us, hl with | [], _ => rfl
theorem k_claim_words (D : DefsAt fn K fd) : PySem.W.keepIn K (.ref (at_claim_words K)) = true := (F_claim_words D).kp
end
abbrev s_near : Stmt := topS 21
abbrev N_near : List Str := ["_law_pen_here", "_law_word", "_law_at", "_law_sign", "_law_some", "_law_one"]
theorem sc_near : FnScope N_near ["_law_pen_here"] (defScope s_near) := ⟨rfl, rfl, rfl, by decide +kernel, rfl, by decide +kernel, by decide +kernel⟩
abbrev at_near (K : Fg) : Addr := (ga K "_law_near")
abbrev fd_near (fd : Nat → FuncData) : FuncData := fd 15
section
variable {K : Fg} {mg : Str → Option Value} {fd : Nat → FuncData}
theorem F_near (D : DefsAt fn K fd) : FnP K "_law_near" "_law_near" s_near (at_near K) (fd_near fd) := D 15 _ rfl
theorem b_near (D : DefsAt fn K fd) : Binds K (fd_near fd) ["_law_pen_here"] [] := (F_near D).bindsN fun _ _ _ _ _ _ us hl => match us, hl with | [_], _ => rfl
theorem k_near (D : DefsAt fn K fd) : PySem.W.keepIn K (.ref (at_near K)) = true := (F_near D).kp
end
abbrev s_refused : Stmt := topS 22
abbrev N_refused : List Str := ["_law_value", "_law_caught", "error", "_law_is_one"]
theorem sc_refused : FnScope N_refused ["_law_value"] (defScope s_refused) := ⟨rfl, rfl, rfl, by decide +kernel, rfl, by decide +kernel, by decide +kernel⟩
abbrev at_refused (K : Fg) : Addr := (ga K "_law_refused")
abbrev fd_refused (fd : Nat → FuncData) : FuncData := fd 16
section
variable {K : Fg} {mg : Str → Option Value} {fd : Nat → FuncData}
theorem F_refused (D : DefsAt fn K fd) : FnP K "_law_refused" "_law_refused" s_refused (at_refused K) (fd_refused fd) := D 16 _ rfl
theorem b_refused (D : DefsAt fn K fd) : Binds K (fd_refused fd) ["_law_value"] [] := (F_refused D).bindsN fun _ _ _ _ _ _ us hl => match us, hl with | [_], _ => rfl
theorem k_refused (D : DefsAt fn K fd) : PySem.W.keepIn K (.ref (at_refused K)) = true := (F_refused D).kp
end
abbrev s_right : Stmt := topS 23
abbrev N_right : List Str := ["_law_word", "_law_claim", "_law_turn", "_law_got", "_law_ends", "_law_stand", "_law_due"]
theorem sc_right : FnScope N_right ["_law_word"] (defScope s_right) := ⟨rfl, rfl, rfl, by decide +kernel, rfl, by decide +kernel, by decide +kernel⟩
abbrev at_right (K : Fg) : Addr := (ga K "_law_right")
abbrev fd_right (fd : Nat → FuncData) : FuncData := fd 17
section
variable {K : Fg} {mg : Str → Option Value} {fd : Nat → FuncData}
theorem F_right (D : DefsAt fn K fd) : FnP K "_law_right" "_law_right" s_right (at_right K) (fd_right fd) := D 17 _ rfl
theorem b_right (D : DefsAt fn K fd) : Binds K (fd_right fd) ["_law_word"] [] := (F_right D).bindsN fun _ _ _ _ _ _ us hl => match us, hl with | [_], _ => rfl
theorem k_right (D : DefsAt fn K fd) : PySem.W.keepIn K (.ref (at_right K)) = true := (F_right D).kp
end
abbrev s_law : Stmt := topS 24
abbrev N_law : List Str := ["_law_script", "_law_pen_here", "_law_words", "_law_word", "_law_alike_so", "_law_other", "_law_turn"]
theorem sc_law : FnScope N_law ["_law_script"] (defScope s_law) := ⟨rfl, rfl, rfl, by decide +kernel, rfl, by decide +kernel, by decide +kernel⟩
abbrev at_law (K : Fg) : Addr := (ga K "law")
abbrev fd_law (fd : Nat → FuncData) : FuncData := fd 18
section
variable {K : Fg} {mg : Str → Option Value} {fd : Nat → FuncData}
theorem F_law (D : DefsAt fn K fd) : FnP K "law" "law" s_law (at_law K) (fd_law fd) := D 18 _ rfl
theorem b_law (D : DefsAt fn K fd) : Binds K (fd_law fd) ["_law_script"] [] := (F_law D).bindsN fun _ _ _ _ _ _ us hl => match us, hl with | [_], _ => rfl
theorem k_law (D : DefsAt fn K fd) : PySem.W.keepIn K (.ref (at_law K)) = true := (F_law D).kp
end
end K40
namespace K40
open PySem PySem.Spec PyProof.Rows L2 He Tw
def words : List Str := ["inside", "ending", "ordered", "single", "stable", "level", "keeps left", "keeps right", "uses left", "uses right", "spares left", "spares right"]
def wordsAt (K : Fg) : Addr := ma K (ga K "Claim") "WORDS"
def sidesL : List Str := ["left", "right"]
def exch : List (Str × Dv) := [("left", .str "right"), ("right", .str "left"), ("less", .str "more"), ("more", .str "less"), ("new left", .str "new right"), ("new right", .str "new left")]
def ts : List Tab := [(fun K => ga K "EXCHANGED", ["left", "right", "less", "more", "new left", "new right"])]
def fs : Fz := [fun K => clss.all fun x => (Fa.glo x).ok K, fun K => fnames.all fun x => (Fa.glo x).ok K, fun K => blts.all fun x => (Fa.free x).ok K,
  fun K => (Fy.xc "BadName").ok K, fun K => Fy.xo.ok K, fun K => (Fy.ini "BadName").ok K, fun K => (Fy.names "BadName" ["name"]).ok K,
  fun K => (Fy.kit "BadName" "BadName" true).ok K, fun K => (Fy.kit "BadName" "BadInput" true).ok K,
  fun K => decide (PySem.W.kitAny K (.ref (ga K "BadName")) [.ref (ga K "BadPlace"), .ref (ga K "BadText"), .ref (ga K "BadWalk")] = some false),
  fun K => decide (PySem.W.exmOne K (.ref (ga K "BadName")) (.ref (ga K "HeadsError")) = some true),
  fun K => decide (PySem.W.kitOne K (.type "str") (.ref (ga K "Claim")) = some false) && PySem.W.notFirst K (ga K "Claim") (.type "str"),
  fun K => PySem.W.notFirst K (ga K "Claim") (.ref (ga K "Claim")), fun K => (Fy.kit "Claim" "Claim" true).ok K,
  fun K => (Fa.cls "Claim").ok K, fun K => (Fa.mkr "Claim").ok K, fun K => (["word", "kind", "side"] : List Str).all fun f => (Fa.noat "Claim" f).ok K,
  fun K => (["turned", "ends", "__eq__", "__str__"] : List Str).all fun m => (Fa.meth "Claim" m).ok K,
  fun K => eqO (PySem.W.findIn K (.ref (ga K "Claim")) "__ne__") (some (some (.builtin "object.__ne__"))), fun K => decide (PySem.W.mroIn K (ga K "Claim") (.type "object") = some true),
  fun K => eqO (PySem.W.findIn K (.ref (ga K "Claim")) "__class__") (some (some (.builtin "object.__class__"))),
  fun K => conB K "Claim" "WORDS" (.adr wordsAt), fun K => tupB K (wordsAt K) (words.map V.str), fun K => cvalB K (ga K "Claim") "WORDS" (.ref (wordsAt K)), fun K => creadB K (ga K "Claim"),
  fun K => (["SIDES", "EXCHANGED"] : List Str).all fun x => (Fa.glo x).ok K, fun K => tupB K (ga K "SIDES") (sidesL.map V.str), fun K => valsB K (ga K "EXCHANGED") exch]
abbrev Txt := TxtB fs fn
section
variable {K : Fg} {mg : Str → Option Value}
theorem Txt.cl (T : Txt K mg) {x : Str} (h : x ∈ clss) : mg x = some (.ref (ga K x)) := T.gl x (of_all (f := fun x => (Fa.glo x).ok K) (T.c.fact 0) h)
theorem Txt.fn (T : Txt K mg) {x : Str} (h : x ∈ fnames) : mg x = some (.ref (ga K x)) := T.gl x (of_all (f := fun x => (Fa.glo x).ok K) (T.c.fact 1) h)
theorem Txt.bl (T : Txt K mg) {x : Str} (h : x ∈ blts) : mg x = none := T.fr x (of_all (f := fun x => (Fa.free x).ok K) (T.c.fact 2) h)
theorem Txt.xc (T : Txt K mg) : XC K (ga K "BadName") := xc_ok (T.c.fact 3)
theorem Txt.xo (T : Txt K mg) : XO K := xo_ok (T.c.fact 4)
theorem Txt.ini (T : Txt K mg) : PySem.W.findIn K (.ref (ga K "BadName")) "__init__" = some (some (.ref (ma K (ga K "BadName") "__init__"))) ∧ PySem.W.typeIn K (.ref (ma K (ga K "BadName") "__init__")) = some (.type "function") := ini_ok (T.c.fact 5)
theorem Txt.no (T : Txt K mg) : PySem.W.findIn K (.ref (ga K "BadName")) "name" = some none := names_ok (T.c.fact 6) (by decide +kernel)
theorem Txt.kitNN (T : Txt K mg) : PySem.W.kitOne K (.ref (ga K "BadName")) (.ref (ga K "BadName")) = some true := kit_ok (T.c.fact 7)
theorem Txt.kitNI (T : Txt K mg) : PySem.W.kitOne K (.ref (ga K "BadName")) (.ref (ga K "BadInput")) = some true := kit_ok (T.c.fact 8)
theorem Txt.kitN3 (T : Txt K mg) : PySem.W.kitAny K (.ref (ga K "BadName")) [.ref (ga K "BadPlace"), .ref (ga K "BadText"), .ref (ga K "BadWalk")] = some false := of_decide_eq_true (T.c.fact 9)
theorem Txt.exm (T : Txt K mg) : PySem.W.exmOne K (.ref (ga K "BadName")) (.ref (ga K "HeadsError")) = some true := of_decide_eq_true (T.c.fact 10)
theorem Txt.kitSC (T : Txt K mg) : PySem.W.kitOne K (.type "str") (.ref (ga K "Claim")) = some false := of_decide_eq_true (ba (T.c.fact 11)).1
theorem Txt.nfS (T : Txt K mg) : PySem.W.notFirst K (ga K "Claim") (.type "str") = true := (ba (T.c.fact 11)).2
theorem Txt.nfC (T : Txt K mg) : PySem.W.notFirst K (ga K "Claim") (.ref (ga K "Claim")) = true := T.c.fact 12
theorem Txt.kitCC (T : Txt K mg) : PySem.W.kitOne K (.ref (ga K "Claim")) (.ref (ga K "Claim")) = some true := kit_ok (T.c.fact 13)
theorem Txt.cls (T : Txt K mg) : Cls K (ga K "Claim") := cls_ok (T.c.fact 14)
theorem Txt.mk (T : Txt K mg) : Mk K (ga K "Claim") (ma K (ga K "Claim") "__init__") := mkr_ok (T.c.fact 15)
theorem Txt.na (T : Txt K mg) {f : Str} (h : f ∈ (["word", "kind", "side"] : List Str)) : NoAttr K (ga K "Claim") f := noat_ok (List.all_eq_true.mp (T.c.fact 16) f h)
theorem Txt.mt (T : Txt K mg) {m : Str} (h : m ∈ (["turned", "ends", "__eq__", "__str__"] : List Str)) : Meth K (ga K "Claim") m (ma K (ga K "Claim") m) := meth_ok (List.all_eq_true.mp (T.c.fact 17) m h)
theorem Txt.ne (T : Txt K mg) : PySem.W.findIn K (.ref (ga K "Claim")) "__ne__" = some (some (.builtin "object.__ne__")) := eqO_ok (T.c.fact 18)
theorem Txt.mro (T : Txt K mg) : PySem.W.mroIn K (ga K "Claim") (.type "object") = some true := of_decide_eq_true (T.c.fact 19)
theorem Txt.ca (T : Txt K mg) : PySem.W.findIn K (.ref (ga K "Claim")) "__class__" = some (some (.builtin "object.__class__")) := eqO_ok (T.c.fact 20)
theorem Txt.con (T : Txt K mg) : ∃ u, Con K (ga K "Claim") "WORDS" (.ref (wordsAt K)) u := conB_ok (T.c.fact 21)
theorem Txt.words (T : Txt K mg) (H : Hp) : SqT K H (wordsAt K) (K40.words.map V.str) := tupB_ok (T.c.fact 22) H
theorem Txt.cval (T : Txt K mg) : ∃ u, ClX.CVal K (ga K "Claim") (.type "type") "WORDS" (.ref (wordsAt K)) u := cvalB_ok (T.c.fact 23)
theorem Txt.crd (T : Txt K mg) : ClX.CRead K (ga K "Claim") (.type "type") := creadB_ok (T.c.fact 24)
theorem Txt.gSides (T : Txt K mg) : mg "SIDES" = some (.ref (ga K "SIDES")) := T.gl _ (of_all (f := fun x => (Fa.glo x).ok K) (T.c.fact 25) (by decide +kernel))
theorem Txt.gExch (T : Txt K mg) : mg "EXCHANGED" = some (.ref (ga K "EXCHANGED")) := T.gl _ (of_all (f := fun x => (Fa.glo x).ok K) (T.c.fact 25) (by decide +kernel))
theorem Txt.sides (T : Txt K mg) (H : Hp) : SqT K H (ga K "SIDES") (sidesL.map V.str) := tupB_ok (T.c.fact 26) H
theorem Txt.exch (T : Txt K mg) {q : Str × Dv} (h : q ∈ K40.exch) : ∃ u, PySem.W.nsIn K (ga K "EXCHANGED") q.1 = some (some u) ∧ RelV (q.2.v K) u := valsB_ok (T.c.fact 27) h
end
section
variable {P : Program} {w : World} {K : Fg} {mg : Str → Option Value} {base : Heap} {fd : Nat → FuncData}
theorem G_draw (D : DefsAt fn K fd) (T : Txt K mg) : FnOk P w K mg base CX0 1 (at_draw K) (fd_draw fd) ["_law_pen_here", "_law_many"] spDrawL := by
  have zint : mg "int" = none := T.bl (by decide +kernel)
  have zlen : mg "len" = none := T.bl (by decide +kernel)
  have zabs : mg "abs" = none := T.bl (by decide +kernel)
  refine (F_draw D).ok sc_draw (fun vs H Q E h => ?_) (fun cdv A outer s H vs Q E hr h => ?_)
  · obtain ⟨p, l, m, c, rfl, _⟩ := h
    rfl
  · obtain ⟨p, l, m, c, rfl, hm0, hm1, ⟨ns, i, g, hp, hl, hlp, hn, hi0, hic, hg0⟩, hc, k⟩ := h
    have hsp : SqL K H p [.ref l, .int i, .int g] := SqL.of hp
    have hsl : SqL K H l (ns.map V.int) := SqL.of hl
    refine ⟨_, PSs.nox (pss_cons (ps_if (pt_cmpR op_gt (pe_ix ix_list (pv 0) pe_int (fun _ _ => rfl)) pe_int (nomark _)) (pss_cons (ps_set (i := 2) sc_draw.nd rfl (Or.inl rfl) (pe_op op_mod (pe_callTy call_int1 (by rfl) zint (by decide +kernel) (pa_cons (pe_ix ix_list (pv 0) pe_int (fun _ _ => rfl)) pa_nil)) (pv 1)))
    (pss_cons (ps_asg (pe_op op_fdiv (pe_callTy call_int1 (by rfl) zint (by decide +kernel) (pa_cons (pe_ix ix_list (pv 0) pe_int (fun _ _ => rfl)) pa_nil)) (pv 1)) (pg_sub (pv 0) pe_int set_list))
    (pss_one (ps_ret (pv 2))))) pss_nil)
    (pss_cons (ps_set (i := 3) sc_draw.nd rfl (Or.inl rfl) (pe_ix ix_list (pv 0) pe_int (fun _ _ => rfl)))
    (pss_cons (ps_asg (pe_op op_add (pv 3) pe_int) (pg_sub (pv 0) pe_int set_list))
    (pss_cons (ps_set (i := 4) sc_draw.nd rfl (Or.inl rfl) (pe_op op_add (pe_op op_mul pe_int (pv 3)) pe_int))
    (pss_mid (ps_if (pt_cmpR (op_neD hr.units) (pe_ix ix_list (pv 0) pe_int (fun _ _ => rfl)) (pe_lst pa_nil) (nomark _)) (pss_one (ps_set (i := 4) sc_draw.nd rfl (Or.inl rfl) (pe_ix ix_list (pe_ix ix_list (pv 0) pe_int (fun _ _ => rfl)) (pe_op op_mod (pe_callTy call_int1 (by rfl) zint (by decide +kernel) (pa_cons (pv 3) pa_nil)) (pe_callB call_len (by rfl) zlen (by decide +kernel) (pa_cons (pe_ix ix_list (pv 0) pe_int (fun _ _ => rfl)) pa_nil))) (fun _ _ => rfl)))) pss_nil)
    (pss_mid (ps_if (PW.pt (pw_and (pt_cmpR op_lt (pv 3) (pe_callB call_len (by rfl) zlen (by decide +kernel) (pa_cons (pe_ix ix_list (pv 0) pe_int (fun _ _ => rfl)) pa_nil)) (nomark _)) (pw_and1 (pt_cmpR op_ge (pe_callB call_abs (by rfl) zabs (by decide +kernel) (pa_cons (pv 4) pa_nil)) (pe_op op_pow pe_int pe_int) (nomark _))))) (pss_cons (ps_set (i := 5) sc_draw.nd rfl (Or.inl rfl) (pe_op op_add (pe_op op_mul pe_int (pe_callB call_abs (by rfl) zabs (by decide +kernel) (pa_cons (pv 4) pa_nil))) (pe_callTy call_int1 (by rfl) zint (by decide +kernel) (pa_cons (pe_cmpR op_lt (pv 4) pe_int (nomark _)) pa_nil))))
    (pss_cons (ps_asg (pe_op op_fdiv (pe_callTy call_int1 (by rfl) zint (by decide +kernel) (pa_cons (pv 5) pa_nil)) (pv 1)) (pg_sub (pv 0) pe_int set_list))
    (pss_one (ps_ret (pe_op op_mod (pe_callTy call_int1 (by rfl) zint (by decide +kernel) (pa_cons (pv 5) pa_nil)) (pv 1)))))) pss_nil)
    (pss_mid (ps_set (i := 6) sc_draw.nd rfl (Or.inl rfl) (pe_op op_mod (pe_callTy call_int1 (by rfl) zint (by decide +kernel) (pa_cons (pe_op op_pow (pe_op op_add (pe_op op_add (pe_op op_mod (pe_callTy call_int1 (by rfl) zint (by decide +kernel) (pa_cons (pv 4) pa_nil)) pe_int) (pe_op op_mul pe_int (pv 3))) pe_int) pe_int) pa_nil)) pe_int))
    (pss_mid (ps_set (i := 6) sc_draw.nd rfl (Or.inl rfl) (pe_op op_mod (pe_callTy call_int1 (by rfl) zint (by decide +kernel) (pa_cons (pe_op op_pow (pe_op op_add (pe_op op_add (pe_op op_mul (pv 6) (pe_op op_add (pv 3) pe_int)) (pe_op op_mul (pe_op op_mul pe_int (pv 3)) (pv 3))) pe_int) pe_int) pa_nil)) pe_int))
    (pss_one (ps_ret (pe_op op_mod (pe_callTy call_int1 (by rfl) zint (by decide +kernel) (pa_cons (pe_op op_fdiv (pv 6) pe_int) pa_nil)) (pv 1)))))))))))), ?_⟩
    refine ⟨_, rfl, p, _, 2, .int g, rfl, rfl, hsp, rfl, _, _, rfl, rfl, _, rfl, ?_⟩
    refine ite2 (fun hgt => ?_) (fun hle => ?_)
    · refine ⟨_, rfl, p, _, 2, .int g, rfl, rfl, hsp, rfl, .inl ⟨g, rfl, _, rfl, g, m, rfl, rfl, hm0, ?_⟩⟩
      refine ⟨_, rfl, p, _, 2, .int g, rfl, rfl, hsp, rfl, .inl ⟨g, rfl, _, rfl, g, m, rfl, rfl, ⟨hm0, hm1⟩, ?_⟩⟩
      refine ⟨_, rfl, p, _, 2, 2, rfl, rfl, hp, rfl, _, rfl, ?_⟩
      refine k (g % m) _ (Int.emod_nonneg _ (by omega)) (Int.emod_lt_of_pos _ hm0) ⟨ns, i, g / m, upd_same, by rw [upd_ne hlp]; exact hl, hlp, hn, hi0, by omega, Int.ediv_nonneg hg0 (by omega)⟩ But.upd
    · refine ⟨_, rfl, p, _, 1, .int i, rfl, rfl, hsp, rfl, ?_⟩
      refine ⟨_, rfl, i, 1, rfl, rfl, _, rfl, p, _, 1, 1, rfl, rfl, hp, rfl, ?_⟩
      refine ⟨_, rfl, _, i, rfl, rfl, .inl ⟨by decide, by decide⟩, _, _, rfl, rfl, ?_⟩
      have hp1 : (upd H p (.lst ([V.ref l, .int i, .int g].set 1 (.int (i + 1))))) p = some (.lst [.ref l, .int (i + 1), .int g]) := upd_same
      have hl1 : (upd H p (.lst ([V.ref l, .int i, .int g].set 1 (.int (i + 1))))) l = some (.lst (ns.map V.int)) := by rw [upd_ne hlp]; exact hl
      have b1 : But p H (upd H p (.lst ([V.ref l, .int i, .int g].set 1 (.int (i + 1))))) := But.upd
      generalize upd H p (.lst ([V.ref l, .int i, .int g].set 1 (.int (i + 1)))) = H1 at hp1 hl1 b1 ⊢
      refine ⟨fun σ' H' => ∃ z : Int, σ' = [some (.ref p), some (.int m), none, some (.int i), some (.int z), none, none] ∧ H' p = some (.lst [.ref l, .int (i + 1), .int g]) ∧ H' l = some (.lst (ns.map V.int)) ∧ But p H H', ?_, ?_⟩
      · refine ⟨_, rfl, p, _, 0, .ref l, rfl, rfl, SqL.of hp1, rfl, (by show 0 ≤ sizeLine; decide), fun q hq => ?_⟩
        have hq1 : p ≠ q := ne_of_none hp1 hq
        have hq2 : l ≠ q := ne_of_none hl1 hq
        have hp2 : (upd H1 q (.lst [])) p = some (.lst [.ref l, .int (i + 1), .int g]) := by rw [upd_ne hq1]; exact hp1
        have hl2 : (upd H1 q (.lst [])) l = some (.lst (ns.map V.int)) := by rw [upd_ne hq2]; exact hl1
        have hq3 : (upd H1 q (.lst [])) q = some (.lst []) := upd_same
        have b2 : But p H (upd H1 q (.lst [])) := b1.trans (But.of (same_new hq))
        generalize upd H1 q (.lst []) = H2 at hp2 hl2 hq3 b2 ⊢
        refine ⟨_, _, .lst (SqL.of hl2) (dp_ints ns), .lst (SqL.of hq3) .nil, shaped_ints ns, shaped_ints [], _, rfl, ?_⟩
        refine ite2 (fun hne => ?_) (fun _ => ⟨_, rfl, hp2, hl2, b2⟩)
        have hns : 0 < ns.length := by
          cases ns with
          | nil => exact absurd hne (by decide)
          | cons n r => exact Nat.succ_pos _
        have hz : (0 : Int) < ((ns.map V.int).length : Int) := by rw [List.length_map]; omega
        have j0 := Int.emod_nonneg i (Int.ne_of_gt hz)
        have j1 := Int.emod_lt_of_pos i hz
        obtain ⟨z, ez⟩ : ∃ z, (ns.map V.int)[(i % ((ns.map V.int).length : Int)).toNat]? = some (V.int z) := by
          rw [List.length_map] at j0 j1 ⊢
          have hlt : (i % (ns.length : Int)).toNat < ns.length := by omega
          exact ⟨ns[(i % (ns.length : Int)).toNat], by rw [List.getElem?_map, List.getElem?_eq_getElem hlt]; rfl⟩
        exact ⟨_, rfl, p, _, 0, .ref l, rfl, rfl, SqL.of hp2, rfl, _, rfl, .inl ⟨i, rfl, _, rfl, p, _, 0, .ref l, rfl, rfl, SqL.of hp2, rfl, _, _, rfl, .inl ⟨_, SqL.of hl2, rfl⟩, _, _, rfl, rfl, hz, l, _, _, .int z, rfl, rfl, SqL.of hl2, atI_of j0 ez, _, rfl, hp2, hl2, b2⟩⟩
      · rintro σ2 H2 ⟨z, rfl, hp2, hl2, b2⟩
        refine ⟨fun σ' H' => σ' = [some (.ref p), some (.int m), none, some (.int i), some (.int z), none, none] ∧ H' = H2, ?_, ?_⟩
        · refine ⟨_, rfl, _, rfl, p, _, 0, .ref l, rfl, rfl, SqL.of hp2, rfl, _, _, rfl, .inl ⟨_, SqL.of hl2, rfl⟩, _, _, rfl, rfl, _, rfl, ?_⟩
          refine ite2 (fun _ => ?_) (fun _ => ⟨rfl, rfl⟩)
          refine ⟨_, rfl, _, rfl, _, _, rfl, rfl, ⟨by decide, by decide, by decide⟩, _, _, rfl, rfl, _, rfl, ?_⟩
          refine ite2 (fun hgr => ?_) (fun _ => ⟨rfl, rfl⟩)
          have hgr' := of_decide_eq_true hgr
          refine ⟨_, rfl, _, rfl, _, _, rfl, rfl, .inl ⟨by decide, by decide⟩, _, rfl, _, _, rfl, rfl, .inr ⟨_, rfl, _, _, rfl, rfl, ?_⟩⟩
          refine ⟨_, rfl, .inl ⟨_, rfl, _, rfl, _, _, rfl, rfl, ⟨hm0, hm1⟩, _, rfl, p, _, 2, 2, rfl, rfl, hp2, rfl, ?_⟩⟩
          refine ⟨_, rfl, .inl ⟨_, rfl, _, rfl, _, _, rfl, rfl, hm0, ?_⟩⟩
          have hpos : (0 : Int) ≤ 2 * (if z < 0 then -z else z) + (if decide (z < 0) = true then 1 else 0) := by
            have h2 : (0 : Int) ≤ (if decide (z < 0) = true then 1 else 0) := by split <;> decide
            split <;> omega
          exact k _ _ (Int.emod_nonneg _ (Int.ne_of_gt hm0)) (Int.emod_lt_of_pos _ hm0) ⟨ns, i + 1, _, upd_same, by rw [upd_ne hlp]; exact hl2, hlp, hn, by omega, by omega, Int.ediv_nonneg hpos (Int.le_of_lt hm0)⟩ (b2.trans But.upd)
        · rintro σ3 H3 ⟨rfl, rfl⟩
          refine ⟨fun σ' H' => ∃ x : Int, σ' = [some (.ref p), some (.int m), none, some (.int i), some (.int z), none, some (.int x)] ∧ H' = H3 ∧ 0 ≤ x ∧ x < 2147483648, ?_, ?_⟩
          · refine ⟨_, rfl, .inl ⟨_, rfl, _, _, rfl, rfl, (by show (0 : Int) < _; decide), _, rfl, _, _, rfl, rfl, .inl ⟨by decide, by decide⟩, _, _, rfl, rfl, _, _, rfl, rfl, _, _, rfl, rfl, ⟨by decide, by decide, ?_⟩, .inl ⟨_, rfl, _, _, rfl, rfl, (by show (0 : Int) < _; decide), _, rfl, rfl, Int.emod_nonneg _ (by decide), Int.lt_trans (Int.emod_lt_of_pos _ (by decide)) (by decide)⟩⟩⟩
            apply pow_ok <;> omega
          rintro σ4 H4 ⟨x, rfl, rfl, x0, x1⟩
          have hi6 : i ≤ 1000000 := by omega
          have q1 := mul_le' x0 (Int.le_of_lt x1) hi0 hi6
          have q2 := mul_le' hi0 hi6 hi0 hi6
          refine ⟨fun σ' H' => ∃ y : Int, σ' = [some (.ref p), some (.int m), none, some (.int i), some (.int z), none, some (.int y)] ∧ H' = H4, ?_, ?_⟩
          · refine ⟨_, rfl, _, rfl, _, _, rfl, rfl, _, _, rfl, rfl, .inl ⟨by omega, by omega⟩, _, rfl, _, _, rfl, rfl, .inl ⟨by decide, by decide⟩, _, rfl, _, _, rfl, rfl, .inl ⟨by omega, by omega⟩, _, _, rfl, rfl, _, _, rfl, rfl, _, _, rfl, rfl, ⟨by decide, by decide, ?_⟩, .inl ⟨_, rfl, _, _, rfl, rfl, (by show (0 : Int) < _; decide), _, rfl, rfl⟩⟩
            rw [Int.mul_add, Int.mul_assoc _ i i]
            apply pow_ok <;> omega
          rintro σ5 H5 ⟨y, rfl, rfl⟩
          refine ⟨_, rfl, _, _, rfl, rfl, ⟨by decide, by decide⟩, .inl ⟨_, rfl, _, rfl, _, _, rfl, rfl, hm0, ?_⟩⟩
          exact k _ _ (Int.emod_nonneg _ (Int.ne_of_gt hm0)) (Int.emod_lt_of_pos _ hm0) ⟨ns, i + 1, g, hp2, hl2, hlp, hn, by omega, by omega, hg0⟩ b2
theorem G_pen (D : DefsAt fn K fd) (T : Txt K mg) : FnOk P w K mg base CX0 1 (at_pen K) (fd_pen fd) ["_law_script"] (spPenL K) := by
  have zlist : mg "list" = none := T.bl (by decide +kernel)
  refine (F_pen D).ok sc_pen (fun vs H Q E h => ?_) (fun cdv A outer s H vs Q E hr h => ?_)
  · obtain ⟨a, ns, rfl, _⟩ := h
    rfl
  · obtain ⟨a, ns, rfl, hS, hn, k⟩ := h
    obtain ⟨ms, em, hm⟩ := cut_ints ns none (some 63)
    refine ⟨_, PSs.nox (pss_one (ps_ret (pe_lst (pa_cons (pe_callTy call_list_of (by rfl) zlist (by decide +kernel) (pa_cons (pe_slice sl_list (pv 0) po_none (po_some pe_int)) pa_nil)) (pa_cons pe_int (pa_cons pe_int pa_nil)))))), ?_⟩
    refine ⟨_, rfl, _, rfl, a, _, rfl, hS, fun q hq => ⟨q, _, rfl, .inl (SqL.of upd_same), fun l hl => ⟨sz1000 (by show 3 ≤ 1000; decide), fun p hp => ?_⟩⟩⟩
    rw [em] at hl hp ⊢
    have s1 := same_new (o := .lst (ms.map V.int)) hq
    have s2 := same_new (o := .lst (ms.map V.int)) hl
    have s3 := same_new (o := .lst [.ref l, .int 0, .int 0]) hp
    have hl' : (upd (upd H q (.lst (ms.map V.int))) l (.lst (ms.map V.int))) l = some (.lst (ms.map V.int)) := upd_same
    exact k p l _ ((s1.trans s2).free hp) ⟨ms, 0, 0, upd_same, s3 _ _ hl', ne_of_none hl' hp, by omega, by decide, by decide, by decide⟩ ((s1.trans s2).trans s3)
theorem G_pick (D : DefsAt fn K fd) (T : Txt K mg) : FnOk P w K mg base CX0 2 (at_pick K) (fd_pick fd) ["_law_pen_here", "_law_some"] (spPickL K) := by
  have zlen : mg "len" = none := T.bl (by decide +kernel)
  have gD := T.fn (x := "_law_draw") (by decide +kernel)
  refine (F_pick D).ok sc_pick (fun vs H Q E h => ?_) (fun cdv A outer s H vs Q E hr h => ?_)
  · obtain ⟨p, l, q, xs, c, rfl, _⟩ := h
    rfl
  · obtain ⟨p, l, q, xs, c, rfl, hS, hqp, hx0, hx1, hP, hc, k⟩ := h
    refine ⟨_, PSs.nox (pss_one (ps_ret (pe_ix ix_list (pv 1) (pe_call (G_draw D T) (hr.mono (by decide)) rfl gD (k_draw D) (b_draw D) .nil pass0 (pa_cons (pv 0) (pa_cons (pe_callB call_len (by rfl) zlen (by decide +kernel) (pa_cons (pv 1) pa_nil)) pa_nil))) (fun _ _ => rfl)))), ?_⟩
    refine ⟨_, rfl, _, rfl, _, rfl, _, _, rfl, .inl ⟨xs, hS, rfl⟩, p, l, (xs.length : Int), c, rfl, by omega, by omega, hP, hc, fun r H' h0 h1 hP' hB => ?_⟩
    have hlt : r.toNat < xs.length := by omega
    exact ⟨q, xs, r, _, rfl, rfl, hB.seq hqp hS, atI_of h0 (List.getElem?_eq_getElem hlt), k _ H' (List.getElem_mem hlt) hP' hB⟩
end
end K40
namespace K40
open PySem PySem.Spec PyProof.Rows L2 He Tw
def kindOf (z : Str) : Str := (Txt.partition z " ").1
def sideOf (z : Str) : Str := (Txt.partition z " ").2.2
def exW (z : Str) : Str := if z = "left" then "right" else "left"
def turnW (z : Str) : Str := if sideOf z ∈ sidesL then kindOf z ++ " " ++ exW (sideOf z) else z
def endsB (z x y : Str) : Bool := if kindOf z ∈ (["keeps", "uses"] : List Str) then decide ((if sideOf z = "left" then x else y) = "-") else true
/-- a claim with its word -/
def Clm (K : Fg) (H : Hp) (a : Addr) (z : Str) : Prop := ∃ dx, H a = some (.ins (ga K "Claim") dx [("word", .str z), ("kind", .str (kindOf z)), ("side", .str (sideOf z))])
theorem Clm.same {K : Fg} {H H' : Hp} {a : Addr} {z : Str} (e : Same H H') (h : Clm K H a z) : Clm K H' a z := by
  obtain ⟨dx, h⟩ := h
  exact ⟨dx, e _ _ h⟩
theorem words_len : ∀ z ∈ words, z.length ≤ 12 := by decide +kernel
theorem words_small : ∀ z ∈ words, smallB 12 z = true := by decide +kernel
theorem turn_in : ∀ z ∈ words, turnW z ∈ words ∧ turnW (turnW z) = z := by decide +kernel
theorem part_small : ∀ z ∈ words, smallB 12 (kindOf z) = true ∧ smallB 12 (sideOf z) = true ∧ (sideOf z ∈ sidesL → (kindOf z ++ " " ++ exW (sideOf z)).length ≤ 40) := by decide +kernel
def spClaim (K : Fg) : Sp := fun vs H Q E => ∃ (a dx : Addr) (x : V) (t : String), vs = [.ref a, x] ∧ H a = some (.ins (ga K "Claim") dx []) ∧ Bv H x t ∧ (∀ z, x = .str z → z.length ≤ 1000) ∧
  (∀ z, x = .str z → z ∈ words → ∀ H', But a H H' → Clm K H' a z → Q .non H') ∧
  ((∀ z, x = .str z → z ∉ words) → ∀ (d : Addr) (H' : Hp), Same H H' → H' d = some (.xd [("name", x)]) → E (.ref (ga K "BadName")) (some d) H')
def spExch : Sp := fun vs H Q _ => ∃ z, vs = [.str z] ∧ z ∈ sidesL ∧ Q (.str (exW z)) H
def spLast (K : Fg) : Sp := fun vs H Q _ => ∃ (t : Addr) (u0 u1 u2 : V) (x y z : Str), vs = [.ref t, .str z] ∧ SqT K H t [u0, u1, u2, .str x, .str y] ∧ Q (.str (if z = "left" then x else y)) H
def spCStr (K : Fg) : Sp := fun vs H Q _ => ∃ (a : Addr) (z : Str), vs = [.ref a] ∧ Clm K H a z ∧ Q (.str z) H
/-- what a claim is asked to equal: another claim, a text -/
inductive Oth (K : Fg) (H : Hp) : V → Option Str → Prop where
  | cl {b : Addr} {z : Str} (h : Clm K H b z) : Oth K H (.ref b) (some z)
  | tx (z : Str) : Oth K H (.str z) none
def eqTo (z : Str) : Option Str → Bool
  | some y => decide (z = y)
  | none => false
def spCEq (K : Fg) : Sp := fun vs H Q _ => ∃ (a : Addr) (z : Str) (y : V) (o : Option Str), vs = [.ref a, y] ∧ Clm K H a z ∧ Oth K H y o ∧ Q (.bl (eqTo z o)) H
def spTurn (K : Fg) : Sp := fun vs H Q _ => ∃ (a : Addr) (z : Str), vs = [.ref a] ∧ Clm K H a z ∧ z ∈ words ∧ ∀ b H', Same H H' → Clm K H' b (turnW z) → Q (.ref b) H'
def spEnds (K : Fg) : Sp := fun vs H Q _ => ∃ (a t : Addr) (z : Str) (u0 u1 u2 : V) (x y : Str), vs = [.ref a, .ref t] ∧ Clm K H a z ∧ SqT K H t [u0, u1, u2, .str x, .str y] ∧ ∀ H', Same H H' → Q (.bl (endsB z x y)) H'
theorem Clm.ty {K : Fg} {mg : Str → Option Value} (T : Txt K mg) {H : Hp} {a : Addr} {z : Str} (h : Clm K H a z) : TyX K H (.ref a) (.ref (ga K "Claim")) := by
  obtain ⟨dx, h⟩ := h
  exact .base (.ins h T.cls T.ca T.xo.hn T.xo.ht T.mro)
theorem Oth.tyA {K : Fg} {mg : Str → Option Value} (T : Txt K mg) {H : Hp} {x : V} {o : Option Str} (h : Oth K H x o) : ∃ t, TyA K H x t ∧ PySem.W.notFirst K (ga K "Claim") t = true ∧ PySem.W.kitOne K t (.ref (ga K "Claim")) = some o.isSome := by
  cases h with
  | cl h => exact ⟨_, .inl (h.ty T), T.nfC, T.kitCC⟩
  | tx z => exact ⟨_, .inl (Bv.str z (H := H)).ty, T.nfS, T.kitSC⟩
section
variable {P : Program} {w : World} {K : Fg} {mg : Str → Option Value} {base : Heap} {fd : Nat → FuncData}
theorem G_bad (D : DefsAt fn K fd) (T : Txt K mg) : FnOk P w K mg base CX0 1 (at_BadName_init K) (fd_BadName_init fd) ["self", "name"] (spIni (ga K "BadName") "name") := by
  refine (F_BadName_init D).ok sc_BadName_init (fun vs H Q E h => ?_) (fun cdv A outer s H vs Q E hr h => ?_)
  · obtain ⟨a, v, rfl, _⟩ := h
    rfl
  · obtain ⟨a, v, rfl, ha, k⟩ := h
    refine ⟨_, PSs.nox (pss_one (ps_ost (pv 0) (pv 1))), ?_⟩
    refine ⟨_, rfl, _, rfl, a, _, rfl, T.xc.ox, T.no, .inl ⟨ha, fun d hd hda => k d _ hd hda upd_same (by rw [upd_ne hda]; exact upd_same) fun b o hb hba => ?_⟩⟩
    rw [upd_ne hba, upd_ne (ne_of_none hb hd)]
    exact hb
theorem G_exch {es : Array DictEntry} {n : Nat} (D : DefsAt fn K fd) (KD : KDict K w (ga K "EXCHANGED") es n) (T : Txt K mg) : FnOk P w K mg base CX0 1 (at_exchanged K) (fd_exchanged fd) ["word"] spExch := by
  refine (F_exchanged D).ok sc_exchanged (fun vs H Q E h => ?_) (fun cdv A outer s H vs Q E hr h => ?_)
  · obtain ⟨z, rfl, _⟩ := h
    rfl
  · obtain ⟨z, rfl, hz, k⟩ := h
    refine ⟨_, PSs.nox (pss_one (ps_ret (pe_kget2 KD (pe_glob (v := .ref (ga K "EXCHANGED")) rfl T.gExch rfl) (pv 0) (pv 0) ⟨rfl, rfl, rfl, rfl⟩))), ?_⟩
    refine ⟨rfl, _, rfl, z, rfl, _, rfl, ?_⟩
    have hz2 : z = "left" ∨ z = "right" := by simpa [sidesL] using hz
    rcases hz2 with rfl | rfl
    · obtain ⟨u, e, r⟩ := T.exch (q := ("left", .str "right")) (.head _)
      exact ⟨_, _, e, fun _ _ => r, k⟩
    · obtain ⟨u, e, r⟩ := T.exch (q := ("right", .str "left")) (.tail _ (.head _))
      exact ⟨_, _, e, fun _ _ => r, k⟩
theorem G_last (D : DefsAt fn K fd) (T : Txt K mg) : FnOk P w K mg base CX0 1 (at_last_in K) (fd_last_in fd) ["stand", "side"] (spLast K) := by
  refine (F_last_in D).ok sc_last_in (fun vs H Q E h => ?_) (fun cdv A outer s H vs Q E hr h => ?_)
  · obtain ⟨t, u0, u1, u2, x, y, z, rfl, _⟩ := h
    rfl
  · obtain ⟨t, u0, u1, u2, x, y, z, rfl, hT, k⟩ := h
    refine ⟨_, PSs.nox (pss_cons (ps_if (pt_cmpR op_eq (pv 1) pe_str (nomark _)) (pss_one (ps_ret (pe_ix ix_tup (pv 0) pe_int (fun _ _ => rfl)))) pss_nil)
    (pss_one (ps_ret (pe_ix ix_tup (pv 0) pe_int (fun _ _ => rfl))))), ?_⟩
    refine ⟨_, rfl, rfl, _, rfl, ?_⟩
    rw [dec_s]
    refine ite2 (fun h => ?_) (fun h => ?_)
    · rw [if_pos (of_decide_eq_true h)] at k
      exact ⟨_, rfl, t, _, 3, _, rfl, rfl, hT, rfl, k⟩
    · rw [if_neg (fun e => h (decide_eq_true e))] at k
      exact ⟨_, rfl, t, _, 4, _, rfl, rfl, hT, rfl, k⟩
theorem G_claim (D : DefsAt fn K fd) (T : Txt K mg) : FnOk P w K mg base (L2.CX P w) 3 (at_Claim_init K) (fd_Claim_init fd) ["self", "word"] (spClaim K) := by
  have zisi : mg "isinstance" = none := T.bl (by decide +kernel)
  have zstr : mg "str" = none := T.bl (by decide +kernel)
  have gB : mg "BadName" = some (.ref (ga K "BadName")) := T.cl (by decide +kernel)
  obtain ⟨iB, tB⟩ := T.ini
  obtain ⟨uW, cW⟩ := T.con
  refine (F_Claim_init D).ok sc_Claim_init (fun vs H Q E h => ?_) (fun cdv A outer s H vs Q E hr h => ?_)
  · obtain ⟨a, dx, x, t, rfl, _⟩ := h
    rfl
  · obtain ⟨a, dx, x, t, rfl, ha, bx, hl, kn, kx⟩ := h
    refine ⟨_, (pss_cons (ps_if (PW.pt (pw_or (pt_not (pt_val (pe_callB call_isA (by rfl) zisi (by decide +kernel) (pa_cons (pv 1) (pa_cons (pe_bltn (v := .ty "str") (by rfl) zstr (by decide +kernel) rfl) pa_nil))))) (pw_or1 (pt_cmpR op_notIn_seq (pv 1) (pe_con (pv 0) rfl) rfl)))) (pss_one (ps_raise rfl (takes_of rfl rfl rfl rfl) (pmk_oex T.xc.ox iB tB (G_bad D T) (hr.mono (by decide)) (b_BadName_init D) .nil pass0 rfl gB (pa_cons (pv 1) pa_nil)))) pss_nil)
    (pss_cons (ps_asg (pe_partition (pv 1) pe_str) (pg_tup (by rfl) (pgs_cons (pg_name (i := 2) sc_Claim_init.nd rfl (Or.inl rfl)) (pgs_cons (pg_name (i := 3) sc_Claim_init.nd rfl (Or.inl rfl)) (pgs_cons (pg_name (i := 4) sc_Claim_init.nd rfl (Or.inl rfl)) pgs_nil)))))
    (pss_cons (ps_fld (pv 0) (pv 1) rfl)
    (pss_cons (ps_fld (pv 0) (pv 2) rfl)
    (pss_one (ps_fld (pv 0) (pv 4) rfl)))))), ?_⟩
    obtain ⟨k1, k2, k3⟩ := bx.kits (K := K)
    refine ⟨_, rfl, x, .ty "str", _, _, _, rfl, .ty "str", .inl bx.ty, k1, _, rfl, ?_⟩
    cases x with
    | str z =>
      refine ⟨_, rfl, _, rfl, a, _, dx, _, _, _, rfl, ha, T.cls, cW, rfl, _, _, rfl, .inr (T.words H), rfl, flatStrs words, _, rfl, ?_⟩
      rw [inStrs]
      by_cases hz : z ∈ words
      · rw [decide_eq_true hz]
        refine ⟨_, rfl, ⟨_, rfl⟩, z, " ", rfl, rfl, by decide, Nat.le_trans (hl z rfl) (by decide), fun p hp => ?_⟩
        refine ⟨p, _, rfl, .inl (.inl upd_same), rfl, _, _, rfl, _, _, rfl, _, _, rfl, rfl, ?_⟩
        have hap : a ≠ p := ne_of_none ha hp
        have s1 := same_new (o := .tup [.str (Txt.partition z " ").1, .str (Txt.partition z " ").2.1, .str (Txt.partition z " ").2.2]) hp
        have ha1 := s1 _ _ ha
        generalize upd H p (.tup [.str (Txt.partition z " ").1, .str (Txt.partition z " ").2.1, .str (Txt.partition z " ").2.2]) = H1 at s1 ha1 ⊢
        refine ⟨_, rfl, _, rfl, a, _, dx, _, rfl, ha1, T.cls, T.na (by decide +kernel), (by show 0 < 1000; decide), ?_⟩
        refine ⟨_, rfl, _, rfl, a, _, dx, _, rfl, upd_same, T.cls, T.na (by decide +kernel), (by show 1 < 1000; decide), ?_⟩
        refine ⟨_, rfl, _, rfl, a, _, dx, _, rfl, upd_same, T.cls, T.na (by decide +kernel), (by show 2 < 1000; decide), ?_⟩
        exact kn z rfl hz _ ((((But.of s1).trans But.upd).trans But.upd).trans But.upd) ⟨dx, upd_same⟩
      · rw [decide_eq_false hz]
        exact ⟨_, rfl, bad_out (kx fun y e => by cases e; exact hz)⟩
    | _ => exact ⟨_, rfl, bad_out (kx fun y e => nomatch e)⟩
theorem G_cstr (D : DefsAt fn K fd) (T : Txt K mg) : FnOk P w K mg base CX0 1 (at_Claim_str K) (fd_Claim_str fd) ["self"] (spCStr K) := by
  have zstr : mg "str" = none := T.bl (by decide +kernel)
  refine (F_Claim_str D).ok sc_Claim_str (fun vs H Q E h => ?_) (fun cdv A outer s H vs Q E hr h => ?_)
  · obtain ⟨a, z, rfl, _⟩ := h
    rfl
  · obtain ⟨a, z, rfl, ⟨dx, ha⟩, k⟩ := h
    refine ⟨_, PSs.nox (pss_one (ps_ret (pe_callTy SkE.call_str_str (by rfl) zstr (by decide +kernel) (pa_cons (pe_fld (pv 0) rfl) pa_nil)))), ?_⟩
    exact ⟨_, rfl, a, _, dx, _, _, rfl, ha, T.cls, T.na (by decide +kernel), rfl, z, rfl, k⟩
theorem G_ceq (D : DefsAt fn K fd) (T : Txt K mg) : FnOk P w K mg base CX0 1 (at_Claim_eq K) (fd_Claim_eq fd) ["self", "other"] (spCEq K) := by
  have zisi : mg "isinstance" = none := T.bl (by decide +kernel)
  have gC : mg "Claim" = some (.ref (ga K "Claim")) := T.cl (by decide +kernel)
  refine (F_Claim_eq D).ok sc_Claim_eq (fun vs H Q E h => ?_) (fun cdv A outer s H vs Q E hr h => ?_)
  · obtain ⟨a, z, y, o, rfl, _⟩ := h
    rfl
  · obtain ⟨a, z, y, o, rfl, ha, hy, k⟩ := h
    refine ⟨_, PSs.nox (pss_one (ps_ret (pe_and (pe_callB call_isA (by rfl) zisi (by decide +kernel) (pa_cons (pv 1) (pa_cons (pe_glob (v := .ref (ga K "Claim")) rfl gC rfl) pa_nil))) (pe_one (pe_cmpR op_eq (pe_fld (pv 0) rfl) (pe_fld (pv 1) rfl) (nomark _)))))), ?_⟩
    obtain ⟨t, ty, nf, kt⟩ := hy.tyA T
    refine ⟨_, rfl, y, .ref (ga K "Claim"), t, _, _, rfl, .own _, ty, kt, _, rfl, ?_⟩
    cases hy with
    | cl hb =>
      obtain ⟨dx, ha⟩ := ha
      obtain ⟨db, hb⟩ := hb
      refine ⟨_, rfl, a, _, dx, _, _, rfl, ha, T.cls, T.na (by decide +kernel), rfl, _, rfl, _, _, db, _, _, rfl, hb, T.cls, T.na (by decide +kernel), rfl, rfl, ?_⟩
      rw [dec_s]
      exact k
    | tx z => exact k
theorem G_turn {es : Array DictEntry} {n : Nat} (D : DefsAt fn K fd) (KD : KDict K w (ga K "EXCHANGED") es n) (T : Txt K mg) : FnOk P w K mg base CX0 5 (at_Claim_turned K) (fd_Claim_turned fd) ["self"] (spTurn K) := by
  have gC : mg "Claim" = some (.ref (ga K "Claim")) := T.cl (by decide +kernel)
  have gE := T.fn (x := "exchanged") (by decide +kernel)
  refine (F_Claim_turned D).ok sc_Claim_turned (fun vs H Q E h => ?_) (fun cdv A outer s H vs Q E hr h => ?_)
  · obtain ⟨a, z, rfl, _⟩ := h
    rfl
  · obtain ⟨a, z, rfl, hA, hz, k⟩ := h
    refine ⟨_, PSs.nox (pss_cons (ps_if (pt_cmpR op_notIn_seq (pe_fld (pv 0) rfl) (pe_glob (v := .ref (ga K "SIDES")) rfl T.gSides rfl) rfl) (pss_one (ps_ret (pv 0))) pss_nil)
    (pss_one (ps_ret (pe_make (E := E0) T.mk (G_claim D T) (hr.mono (by decide)) rfl gC (b_Claim_init D) .nil passL (pa_cons (pe_joined (.cons (pe_fmt (pe_fld (pv 0) rfl)) (.cons pe_str (.cons (pe_fmt (pe_call (G_exch D KD T) (hr.mono (by decide)) rfl gE (k_exchanged D) (b_exchanged D) .nil pass0 (pa_cons (pe_fld (pv 0) rfl) pa_nil))) .nil)))) pa_nil))))), ?_⟩
    obtain ⟨dx, ha⟩ := id hA
    refine ⟨_, rfl, a, _, dx, _, _, rfl, ha, T.cls, T.na (by decide +kernel), rfl, _, _, rfl, .inr (T.sides H), rfl, flatStrs sidesL, _, rfl, ?_⟩
    rw [inStrs]
    obtain ⟨p1, p2, p3⟩ := part_small z hz
    obtain ⟨t1, t2⟩ := turn_in z hz
    by_cases hs : sideOf z ∈ sidesL
    · rw [decide_eq_true hs]
      refine iteF ?_
      have et : turnW z = kindOf z ++ " " ++ exW (sideOf z) := if_pos hs
      have l1 := (smallB_ok p1).1
      refine ⟨_, rfl, a, _, dx, _, _, rfl, ha, T.cls, T.na (by decide +kernel), rfl, .inl ⟨kindOf z, rfl, Nat.le_trans l1 (by decide), _, rfl, ?_, ?_⟩⟩
      · rw [Str.empty_append]
        exact Nat.le_trans l1 (by decide)
      rw [Str.empty_append]
      refine ⟨_, rfl, ?_, _, rfl, a, _, dx, _, _, rfl, ha, T.cls, T.na (by decide +kernel), rfl, sideOf z, rfl, hs, .inl ⟨_, rfl, ?_, _, rfl, ?_, ?_⟩⟩
      · rw [Str.length_append]
        exact Nat.le_trans (Nat.add_le_add l1 (Nat.le_refl _)) (by decide)
      · unfold exW
        split <;> decide
      · exact Nat.le_trans (p3 hs) (by decide)
      rw [← et]
      refine fun x dx2 hx hd hne => ⟨x, dx2, _, _, rfl, upd_same, .str _, fun y e => by cases e; exact Nat.le_trans (words_len _ t1) (by decide), fun y e _ H' b c => ⟨rfl, ?_⟩, fun h => absurd t1 (h _ rfl)⟩
      cases e
      exact k x H' (same_but (same_made hd hx hne) b hx) c
    · rw [decide_eq_false hs]
      refine iteT ?_
      have et : turnW z = z := if_neg hs
      rw [et] at k
      exact ⟨_, rfl, k a H (fun _ _ e => e) hA⟩
theorem G_ends (D : DefsAt fn K fd) (T : Txt K mg) : FnOk P w K mg base CX0 2 (at_Claim_ends K) (fd_Claim_ends fd) ["self", "stand"] (spEnds K) := by
  have gL := T.fn (x := "last_in") (by decide +kernel)
  refine (F_Claim_ends D).ok sc_Claim_ends (fun vs H Q E h => ?_) (fun cdv A outer s H vs Q E hr h => ?_)
  · obtain ⟨a, t, z, u0, u1, u2, x, y, rfl, _⟩ := h
    rfl
  · obtain ⟨a, t, z, u0, u1, u2, x, y, rfl, ⟨dx, ha⟩, hT, k⟩ := h
    refine ⟨_, PSs.nox (pss_cons (ps_if (pt_cmpR op_in_seq (pe_fld (pv 0) rfl) (pe_tupN (pa_cons pe_str (pa_cons pe_str pa_nil))) rfl) (pss_one (ps_ret (pe_cmpR op_eq (pe_call (G_last D T) (hr.mono (by decide)) rfl gL (k_last_in D) (b_last_in D) .nil pass0 (pa_cons (pv 1) (pa_cons (pe_fld (pv 0) rfl) pa_nil))) pe_str (nomark _)))) pss_nil)
    (pss_one (ps_ret pe_bl))), ?_⟩
    refine ⟨_, rfl, a, _, dx, _, _, rfl, ha, T.cls, T.na (by decide +kernel), rfl, sz1000 (by show 2 ≤ 1000; decide), fun q H1 f1 s1 g1 => ?_⟩
    refine ⟨q, [.str "keeps", .str "uses"], rfl, .inr (.inl (.inl g1)), rfl, rfl, _, rfl, ?_⟩
    rw [show ([.str "keeps", .str "uses"] : List V) = (["keeps", "uses"] : List Str).map V.str from rfl, inStrs]
    have kk := k H1 s1
    unfold endsB at kk
    refine ite2 (fun h => ?_) (fun h => ?_)
    · rw [if_pos (of_decide_eq_true h)] at kk
      refine ⟨_, rfl, _, rfl, a, _, dx, _, _, rfl, s1 _ _ ha, T.cls, T.na (by decide +kernel), rfl, t, u0, u1, u2, x, y, sideOf z, rfl, sqT_same s1 hT, rfl, ?_⟩
      rw [dec_s]
      exact kk
    · rw [if_neg (fun e => h (decide_eq_true e))] at kk
      exact kk
end
end K40
namespace K40
open PySem PySem.Spec PyProof.Rows L2 He Tw
def spWords : Sp := fun vs H Q _ => vs = [] ∧ ∀ (p : Addr) (H' : Hp), H p = none → p ≠ sysModules → Same H H' → H' p = some (.lst (words.map V.str)) → Q (.ref p) H'
/-- a value near a claim's word, beside the pen -/
structure Near (K : Fg) (H : Hp) (p : Addr) (x : V) : Prop where
  bv : ∃ t, Bv H x t
  ne : ∀ a, x = .ref a → a ≠ p
  no : ∀ z, x = .str z → z ∉ words ∧ z.length ≤ 1000
  dx : ∃ d, Dx K H x d ∧ mild d = true ∧ d.depth ≤ 64 ∧ cap d ≤ 16777216
def spNear (K : Fg) : Sp := fun vs H Q _ => ∃ (p l : Addr) (c : Nat), vs = [.ref p] ∧ PenL H p l c ∧ c ≤ 900000 ∧ ∀ (x : V) (H' : Hp), Near K H' p x → PenL H' p l (c + 4) → But p H H' → Q x H'
theorem words_step : ∀ i : Nat, i < 3 → ∀ x : Str, (["keeps", "uses", "spares"] : List Str)[i]? = some x → x.length ≤ 10 ∧ (words.take (6 + 2 * i)) ++ ([x ++ " left", x ++ " right"] : List Str) = words.take (6 + 2 * (i + 1)) := by
  intro i hi x hx
  have c3 : i = 0 ∨ i = 1 ∨ i = 2 := by omega
  rcases c3 with rfl | rfl | rfl
  · cases hx
    decide +kernel
  · cases hx
    decide +kernel
  · cases hx
    decide +kernel
theorem upper_small : ∀ z ∈ words, smallB 12 (Txt.upper z) = true := by decide +kernel
theorem words_pos : ∀ z ∈ words, 0 < z.length := by decide +kernel
def signs : Str := "abcdefghijklmnopqrstuvwxyz -L"
theorem signs_lt : ∀ c ∈ signs.cps.toList, c < 128 := by decide +kernel
section
variable {P : Program} {w : World} {K : Fg} {mg : Str → Option Value} {base : Heap} {fd : Nat → FuncData}
theorem G_words (D : DefsAt fn K fd) (T : Txt K mg) : FnOk P w K mg base CX0 1 (at_claim_words K) (fd_claim_words fd) [] spWords := by
  refine (F_claim_words D).ok sc_claim_words (fun vs H Q E h => ?_) (fun cdv A outer s H vs Q E hr h => ?_)
  · obtain ⟨rfl, _⟩ := h
    rfl
  · obtain ⟨rfl, k⟩ := h
    refine ⟨_, PSs.nox (pss_cons (ps_set (i := 0) sc_claim_words.nd rfl (Or.inl rfl) (pe_lstN (pa_cons pe_str (pa_cons pe_str (pa_cons pe_str (pa_cons pe_str (pa_cons pe_str (pa_cons pe_str pa_nil))))))))
    (pss_cons (ps_for PassesOwn.never rfl (pi_tup (pe_tupN (pa_cons pe_str (pa_cons pe_str (pa_cons pe_str pa_nil))))) (pg_name (i := 1) sc_claim_words.nd rfl (Or.inl rfl))
    (pss_one (ps_set (i := 0) sc_claim_words.nd rfl (Or.inl rfl) (pe_op op_catN (pv 0) (pe_lstN (pa_cons (pe_op op_add_str (pv 1) pe_str) (pa_cons (pe_op op_add_str (pv 1) pe_str) pa_nil)))))))
    (pss_one (ps_ret (pv 0))))), ?_⟩
    refine ⟨sz1000 (by show 6 ≤ 1000; decide), fun q H1 f1 m1 s1 g1 => ?_⟩
    refine ⟨sz1000 (by show 3 ≤ 1000; decide), fun t H2 f2 s2 g2 => ⟨t, rfl, ⟨_, .inl (.inl g2)⟩, for_tup (K := K) (a := t) (xs := (["keeps", "uses", "spares"] : List Str).map V.str) (fun i σ H' => ∃ (v : Option V) (q : Addr), σ = [some (.ref q), v] ∧ Same H2 H' ∧ H q = none ∧ q ≠ sysModules ∧ H' q = some (.lst ((words.take (6 + 2 * i)).map V.str)))
      ⟨none, q, rfl, (fun _ _ e => e), f1, m1, s2 _ _ g1⟩ (fun i σ H' _ ⟨_, _, _, b, _⟩ => .inl (.inl (b _ _ g2))) ?_ ?_⟩⟩
    · rintro i x σ H3 hx ⟨v, q, rfl, s3, hq, mq, gq⟩
      rw [List.getElem?_map] at hx
      obtain ⟨y, hy, rfl⟩ := Option.map_eq_some_iff.mp hx
      have hi : i < 3 := (List.getElem?_eq_some_iff.mp hy).1
      obtain ⟨ly, ey⟩ := words_step i hi y hy
      refine ⟨_, rfl, _, rfl, _, _, rfl, rfl, ?_, _, rfl, _, _, rfl, rfl, ?_, sz1000 (by show 2 ≤ 1000; decide), fun r H4 f4 m4 s4 g4 => ?_⟩
      · exact Nat.le_trans (Nat.add_le_add ly (Nat.le_refl _)) (by decide)
      · exact Nat.le_trans (Nat.add_le_add ly (Nat.le_refl _)) (by decide)
      refine ⟨q, r, _, _, rfl, rfl, s4 _ _ gq, g4, ?_, fun r2 H5 f5 m5 s5 g5 => ⟨_, r2, rfl, (s3.trans s4).trans s5, ?_, m5, ?_⟩⟩
      · rw [List.length_map, List.length_take]
        exact sz1000 (by show _ + 2 ≤ 1000; omega)
      · exact (((s1.trans s2).trans s3).trans s4).free f5
      · rw [g5, ← ey, List.map_append]
        rfl
    · rintro σ H3 ⟨v, q, rfl, s3, hq, mq, gq⟩
      exact ⟨_, rfl, k q H3 hq mq ((s1.trans s2).trans s3) gq⟩
theorem near_txt {H : Hp} {p : Addr} {z : Str} (s : Small 100 z) (h : z ∉ words) : Near K H p (.str z) := by
  refine ⟨⟨_, .str z⟩, (fun a e => nomatch e), fun y e => ?_, ⟨_, .str z, s.mild, ?_, ?_⟩⟩
  · cases e
    exact ⟨h, Nat.le_trans s.1 (by decide)⟩
  · simp only [PyData.depth]
    decide
  · have := s.1
    simp only [cap]
    omega
theorem G_near (D : DefsAt fn K fd) (T : Txt K mg) : FnOk P w K mg base CX0 3 (at_near K) (fd_near fd) ["_law_pen_here"] (spNear K) := by
  have zlen : mg "len" = none := T.bl (by decide +kernel)
  have zisi : mg "isinstance" = none := T.bl (by decide +kernel)
  have zstr : mg "str" = none := T.bl (by decide +kernel)
  have gP := T.fn (x := "_law_pick") (by decide +kernel)
  have gD := T.fn (x := "_law_draw") (by decide +kernel)
  have gW := T.fn (x := "_law_claim_words") (by decide +kernel)
  refine (F_near D).ok sc_near (fun vs H Q E h => ?_) (fun cdv A outer s H vs Q E hr h => ?_)
  · obtain ⟨p, l, c, rfl, _⟩ := h
    rfl
  · obtain ⟨p, l, c, rfl, hP, hc, k⟩ := h
    refine ⟨_, PSs.nox (pss_cons (ps_set (i := 1) sc_near.nd rfl (Or.inl rfl) (pe_call (G_pick D T) (hr.mono (by decide)) rfl gP (k_pick D) (b_pick D) .nil pass0 (pa_cons (pv 0) (pa_cons (pe_call0 (G_words D T) (hr.mono (by decide)) rfl gW (k_claim_words D) (b_claim_words D) .nil pass0) pa_nil))))
    (pss_cons (ps_set (i := 2) sc_near.nd rfl (Or.inl rfl) (pe_call (G_draw D T) (hr.mono (by decide)) rfl gD (k_draw D) (b_draw D) .nil pass0 (pa_cons (pv 0) (pa_cons (pe_callB call_len (by rfl) zlen (by decide +kernel) (pa_cons (pv 1) pa_nil)) pa_nil))))
    (pss_cons (ps_set (i := 3) sc_near.nd rfl (Or.inl rfl) (pe_ix ix_str pe_str (pe_call (G_draw D T) (hr.mono (by decide)) rfl gD (k_draw D) (b_draw D) .nil pass0 (pa_cons (pv 0) (pa_cons pe_int pa_nil))) (fun _ _ => rfl)))
    (pss_cons (ps_set (i := 4) sc_near.nd rfl (Or.inl rfl) (pe_lstN (pa_cons (pe_op op_add_str (pe_slice sl_str (pv 1) po_none (po_some (pv 2))) (pe_slice sl_str (pv 1) (po_some (pe_op op_add (pv 2) pe_int)) po_none)) (pa_cons (pe_op op_add_str (pe_op op_add_str (pe_slice sl_str (pv 1) po_none (po_some (pv 2))) (pv 3)) (pe_slice sl_str (pv 1) (po_some (pe_op op_add (pv 2) pe_int)) po_none)) (pa_cons (pe_op op_add_str (pv 1) pe_str) (pa_cons (pe_op op_add_str pe_str (pv 1)) (pa_cons (pe_op op_add_str (pv 1) pe_str) (pa_cons pe_str pa_nil))))))))
    (pss_cons (ps_set (i := 4) sc_near.nd rfl (Or.inl rfl) (pe_op op_catN (pv 4) (pe_lstN (pa_cons pe_str (pa_cons pe_str (pa_cons pe_non (pa_cons pe_int (pa_cons pe_bl (pa_cons (pe_tupN (pa_cons (pv 1) pa_nil)) (pa_cons (pe_lstN (pa_cons (pv 1) pa_nil)) (pa_cons pe_dnewN (pa_cons (pe_upper (pv 1)) (pa_cons pe_str (pa_cons (pe_op op_pow pe_int pe_int) pa_nil))))))))))))))
    (pss_cons (ps_set (i := 5) sc_near.nd rfl (Or.inl rfl) (pe_call (G_pick D T) (hr.mono (by decide)) rfl gP (k_pick D) (b_pick D) .nil pass0 (pa_cons (pv 0) (pa_cons (pv 4) pa_nil))))
    (pss_one (ps_ret (pe_ifExp (PW.pt (pw_and (pt_val (pe_callB call_isA (by rfl) zisi (by decide +kernel) (pa_cons (pv 5) (pa_cons (pe_bltn (v := .ty "str") (by rfl) zstr (by decide +kernel) rfl) pa_nil)))) (pw_and1 (pt_cmpR op_in_seq (pv 5) (pe_call0 (G_words D T) (hr.mono (by decide)) rfl gW (k_claim_words D) (b_claim_words D) .nil pass0) rfl)))) pe_non (pv 5)))))))))), ?_⟩
    refine ⟨_, rfl, rfl, fun q1 H1 f1 m1 s1 g1 => ?_⟩
    refine ⟨p, l, q1, _, c, rfl, SqL.of g1, (hP.new f1).1, (by decide), (by decide), hP.same s1, by omega, fun v H2 hv P2 B2 => ?_⟩
    obtain ⟨z, hz, rfl⟩ := List.mem_map.mp hv
    have lz := words_len z hz
    have sz := smallB_ok (words_small z hz)
    have f1' := f1
    refine ⟨_, rfl, _, rfl, _, z.length, rfl, ⟨Nat.le_trans lz (by decide), rfl⟩, p, l, (z.length : Int), c + 1, rfl, ?_, ?_, P2, by omega, fun at_ H3 a3 b3 P3 B3 => ?_⟩
    · have : 0 < z.length := words_pos z hz
      omega
    · omega
    refine ⟨_, rfl, p, l, 29, c + 2, rfl, by decide, by decide, P3, by omega, fun r H4 a4 b4 P4 B4 => ?_⟩
    have hlt : r.toNat < signs.cps.toList.length := by
      have e : signs.cps.toList.length = 29 := by decide +kernel
      omega
    refine ⟨signs, r, _, rfl, rfl, by decide, atI_gen a4 (List.getElem?_eq_getElem hlt), ?_⟩
    obtain ⟨sg, hsg, esg⟩ : ∃ sg : Str, Small 1 sg ∧ (⟨#[signs.cps.toList[r.toNat]]⟩ : Str) = sg := ⟨(⟨#[signs.cps.toList[r.toNat]]⟩ : Str), ⟨Nat.le_refl _, fun c hc => by
      have e : c = signs.cps.toList[r.toNat] := by simpa using hc
      rw [e]
      exact signs_lt _ (List.getElem_mem hlt)⟩, rfl⟩
    rw [esg]
    have B4' : But p H H4 := (((But.of s1).trans B2).trans B3).trans B4
    have lc : ∀ lo hi, (cutS z lo hi).length ≤ 12 := fun lo hi => Nat.le_trans (cutS_length z lo hi) lz
    have zz : z.length ≤ sizeLine := Nat.le_trans lz (by decide)
    have la : ∀ {m n : Nat} {x y : Str}, x.length ≤ m → y.length ≤ n → m + n ≤ 1000 → x.length + y.length ≤ sizeLine := fun h1 h2 h3 => Nat.le_trans (Nat.add_le_add h1 h2) (Nat.le_trans h3 (by decide))
    -- the six texts
    have t1 : Small 100 (cutS z none (some at_) ++ cutS z (some (at_ + 1)) none) := ((sz.cut _ _).app (sz.cut _ _)).mono (by decide)
    have t2 : Small 100 (cutS z none (some at_) ++ sg ++ cutS z (some (at_ + 1)) none) := (((sz.cut _ _).app hsg).app (sz.cut _ _)).mono (by decide)
    have t3 : Small 100 (z ++ " ") := (sz.app (smallB_ok (n := 1) (by decide))).mono (by decide)
    have t4 : Small 100 (" " ++ z) := ((smallB_ok (n := 1) (by decide)).app sz).mono (by decide)
    have t5 : Small 100 (z ++ " left") := (sz.app (smallB_ok (n := 5) (by decide))).mono (by decide)
    have t6 : Small 100 (Txt.upper z) := (smallB_ok (n := 12) (upper_small z hz)).mono (by decide)
    have ls : sg.length ≤ 1 := hsg.1
    refine ⟨_, rfl, _, rfl, _, rfl, z, rfl, zz, _, rfl, _, rfl, _, _, rfl, rfl, _, rfl, z, rfl, zz, _, _, rfl, rfl, la (lc _ _) (lc _ _) (by decide), ?_⟩
    refine ⟨_, rfl, _, rfl, _, rfl, z, rfl, zz, _, rfl, _, _, rfl, rfl, la (lc _ _) ls (by decide), _, rfl, _, rfl, _, _, rfl, rfl, _, rfl, z, rfl, zz, _, _, rfl, rfl, la (by rw [Str.length_append]; exact Nat.add_le_add (lc _ _) ls) (lc _ _) (by decide), ?_⟩
    refine ⟨_, rfl, _, _, rfl, rfl, la lz (Nat.le_refl 1) (by decide), _, rfl, _, _, rfl, rfl, la (Nat.le_refl 1) lz (by decide), _, rfl, _, _, rfl, rfl, la lz (Nat.le_refl 5) (by decide), ?_⟩
    refine ⟨sz1000 (by show 6 ≤ 1000; decide), fun q5 H5 f5 m5 s5 g5 => ?_⟩
    refine ⟨_, rfl, _, rfl, sz1000 (by show 1 ≤ 1000; decide), fun q6 H6 f6 s6 g6 => ?_⟩
    refine ⟨_, rfl, sz1000 (by show 1 ≤ 1000; decide), fun q7 H7 f7 m7 s7 g7 q8 H8 f8 m8 s8 g8 => ?_⟩
    refine ⟨_, rfl, ⟨_, rfl⟩, z, rfl, rfl, Nat.le_trans lz (by decide), _, _, rfl, rfl, ⟨by decide, by decide, by decide⟩, sz1000 (by show 11 ≤ 1000; decide), fun q9 H9 f9 m9 s9 g9 => ?_⟩
    have s69 := ((s6.trans s7).trans s8).trans s9
    refine ⟨q5, q9, _, _, rfl, rfl, s69 _ _ g5, g9, sz1000 (by show 6 + 11 ≤ 1000; decide), fun q10 H10 f10 m10 s10 g10 => ?_⟩
    have S := (s5.trans s69).trans s10
    have P5 := P4.same s5
    have P6 := P5.same s6
    have P7 := P6.same s7
    have P8 := P7.same s8
    have P9 := P8.same s9
    have P10 := P4.same S
    have n6 := (P5.new f6).1
    have n7 := (P6.new f7).1
    have n8 := (P7.new f8).1
    have n10 := (P9.new f10).1
    refine ⟨_, rfl, _, rfl, p, l, q10, _, c + 3, rfl, SqL.of g10, n10, (by show 0 < 17; decide), (by show 17 < 1000; decide), P10, by omega, fun v H11 hv P11 B11 => ?_⟩
    have B : But p H H11 := (B4'.trans (But.of S)).trans B11
    have g6' := B11 _ _ (s10 _ _ (s9 _ _ (s8 _ _ (s7 _ _ g6)))) n6
    have g7' := B11 _ _ (s10 _ _ (s9 _ _ (s8 _ _ g7))) n7
    have g8' := B11 _ _ (s10 _ _ (s9 _ _ g8)) n8
    have mz : mild (.str z) = true := sz.mild
    have C : (∃ y, v = .str y ∧ Small 100 y) ∨ (isS v = false ∧ Near K H11 p v) := by
      have tx : ∀ {y : Str}, Small 100 y → (∃ u, V.str y = .str u ∧ Small 100 u) ∨ (isS (.str y) = false ∧ Near K H11 p (.str y)) := fun h => .inl ⟨_, rfl, h⟩
      simp only [List.cons_append, List.nil_append, List.mem_cons, List.not_mem_nil, or_false] at hv
      rcases hv with rfl | rfl | rfl | rfl | rfl | rfl | rfl | rfl | rfl | rfl | rfl | rfl | rfl | rfl | rfl | rfl | rfl
      · exact tx t1
      · exact tx t2
      · exact tx t3
      · exact tx t4
      · exact tx t5
      · exact tx (smallB_ok (by decide))
      · exact tx (smallB_ok (by decide))
      · exact tx (smallB_ok (by decide))
      · exact .inr ⟨rfl, ⟨_, .non⟩, (fun _ e => nomatch e), (fun _ e => nomatch e), _, .non, rfl, by simp only [PyData.depth]; decide, by simp only [cap]; decide⟩
      · exact .inr ⟨rfl, ⟨_, .int _⟩, (fun _ e => nomatch e), (fun _ e => nomatch e), _, .int _, by decide, by simp only [PyData.depth]; decide, by simp only [cap]; decide⟩
      · exact .inr ⟨rfl, ⟨_, .bl _⟩, (fun _ e => nomatch e), (fun _ e => nomatch e), _, .bl _, rfl, by simp only [PyData.depth]; decide, by simp only [cap]; decide⟩
      · exact .inr ⟨rfl, ⟨_, .tup g6'⟩, (fun _ e => by cases e; exact n6), (fun _ e => nomatch e), .tuple [.str z], .tup (.inl (.inl g6')) (.cons (.str z) .nil), by show (mild (.str z) && true) = true; rw [mz]; rfl, by simp only [PyData.depth, PyData.depthAll]; decide, by simp only [cap, capAll]; omega⟩
      · exact .inr ⟨rfl, ⟨_, .lst g7'⟩, (fun _ e => by cases e; exact n7), (fun _ e => nomatch e), .list [.str z], .lst (SqL.of g7') m7 (.cons (.str z) .nil), by show (mild (.str z) && true) = true; rw [mz]; rfl, by simp only [PyData.depth, PyData.depthAll]; decide, by simp only [cap, capAll]; omega⟩
      · exact .inr ⟨rfl, ⟨_, .dK g8'⟩, (fun _ e => by cases e; exact n8), (fun _ e => nomatch e), .dict [], .dic g8' .nil, rfl, by simp only [PyData.depth]; decide, by simp only [cap, capKv]; decide⟩
      · exact tx t6
      · exact tx (smallB_ok (by decide))
      · exact .inr ⟨rfl, ⟨_, .int _⟩, (fun _ e => nomatch e), (fun _ e => nomatch e), _, .int _, by decide +kernel, by simp only [PyData.depth]; decide, by simp only [cap]; decide⟩
    rcases C with ⟨y, rfl, sy⟩ | ⟨hn, nv⟩
    · refine ⟨_, rfl, .str y, .ty "str", _, _, _, rfl, .ty "str", .inl (Bv.str y (H := H11)).ty, ((Bv.str y (H := H11)).kits (K := K)).1, _, rfl, ?_⟩
      refine ⟨_, rfl, rfl, fun q12 H12 f12 m12 s12 g12 => ⟨q12, _, rfl, .inl (SqL.of g12), rfl, flatStrs words, _, rfl, ?_⟩⟩
      rw [inStrs]
      by_cases hy : y ∈ words
      · rw [decide_eq_true hy]
        exact k .non H12 ⟨⟨_, .non⟩, (fun _ e => nomatch e), (fun _ e => nomatch e), _, .non, rfl, by simp only [PyData.depth]; decide, by simp only [cap]; decide⟩ (P11.same s12) (B.trans (But.of s12))
      · rw [decide_eq_false hy]
        exact ⟨_, rfl, k _ H12 (near_txt sy hy) (P11.same s12) (B.trans (But.of s12))⟩
    · obtain ⟨t, bt⟩ := nv.bv
      refine ⟨_, rfl, v, .ty "str", _, _, _, rfl, .ty "str", .inl bt.ty, (bt.kits (K := K)).1, _, rfl, ?_⟩
      rw [hn]
      exact ⟨_, rfl, k v H11 nv P11 B⟩
end
end K40
namespace K40
open PySem PySem.Spec PyProof.Rows L2 He Tw
def spRef (K : Fg) : Sp := fun vs H Q _ => ∃ (x : V) (p : Addr), vs = [x] ∧ Near K H p x ∧ ∀ H', Same H H' → Q (.bl true) H'
def spRight : Sp := fun vs H Q _ => ∃ z, vs = [.str z] ∧ z ∈ words ∧ ∀ H', Same H H' → Q (.bl true) H'
def lawTurn (z : Str) : Str := if cutS z (some ((z.length : Int) - 4)) none = "left" then cutS z none (some ((z.length : Int) - 4)) ++ "right" else if cutS z (some ((z.length : Int) - 5)) none = "right" then cutS z none (some ((z.length : Int) - 5)) ++ "left" else z
def es (z : Str) : List Bool := [endsB z "below" "-", endsB z "-" "equal", endsB z "-" "-"]
def due1 (z : Str) : List Bool := if z ∈ (["keeps left", "uses left"] : List Str) then [false, true, true] else [true, true, true]
def due2 (z : Str) : List Bool := if z ∈ (["keeps right", "uses right"] : List Str) then [true, false, true] else due1 z
theorem turn_law : ∀ z ∈ words, lawTurn z = turnW z ∧ smallB 12 (turnW z) = true := by decide +kernel
theorem due_law : ∀ z ∈ words, due2 z = es z := by decide +kernel
theorem Dx.same' {K : Fg} {H H' : Hp} {v : V} {d : PyData} (e : Same H H') (h : Dx K H v d) : Dx K H' v d := Dx.same e h
theorem claim_to {K : Fg} {H : Hp} {z : Str} {R : VK} {E : XK} {x dx : Addr} (hx : H x = none) (hd : H dx = none) (hne : dx ≠ x) (hz : z ∈ words) (k : ∀ H' : Hp, Clm K H' x z → Same H H' → R .non H') :
    spClaim K [.ref x, .str z] (upd (upd H dx (.own x)) x (.ins (ga K "Claim") dx [])) R E := by
  refine ⟨x, dx, _, _, rfl, upd_same, .str _, fun y e => by cases e; exact Nat.le_trans (words_len _ hz) (by decide), fun y e _ H' b c => ?_, fun h => absurd hz (h _ rfl)⟩
  cases e
  exact k H' c (same_but (same_made hd hx hne) b hx)
theorem eqTo_refl (z : Str) : eqTo z (some z) = true := decide_eq_true rfl
theorem flat2 (x y : Str) : ([.str x, .str y] : List V).all flatV = true := rfl
section
variable {P : Program} {w : World} {K : Fg} {mg : Str → Option Value} {base : Heap} {fd : Nat → FuncData}
theorem G_refused (D : DefsAt fn K fd) (T : Txt K mg) : FnG P w K mg base CX0 5 (at_refused K) (fd_refused fd) ["_law_value"] (spRef K) := by
  have zisi : mg "isinstance" = none := T.bl (by decide +kernel)
  have zrepr : mg "repr" = none := T.bl (by decide +kernel)
  have gC : mg "Claim" = some (.ref (ga K "Claim")) := T.cl (by decide +kernel)
  have gH : mg "HeadsError" = some (.ref (ga K "HeadsError")) := T.cl (by decide +kernel)
  have gN : mg "BadName" = some (.ref (ga K "BadName")) := T.cl (by decide +kernel)
  have gI : mg "BadInput" = some (.ref (ga K "BadInput")) := T.cl (by decide +kernel)
  have gP : mg "BadPlace" = some (.ref (ga K "BadPlace")) := T.cl (by decide +kernel)
  have gX : mg "BadText" = some (.ref (ga K "BadText")) := T.cl (by decide +kernel)
  have gW : mg "BadWalk" = some (.ref (ga K "BadWalk")) := T.cl (by decide +kernel)
  refine (F_refused D).okG sc_refused (fun vs H Q E h => ?_) (fun cdv A outer s H vs Q E hr hg h => ?_)
  · obtain ⟨x, p, rfl, _⟩ := h
    rfl
  · obtain ⟨x, p, rfl, N, k⟩ := h
    have hu := room70 hr
    refine ⟨_, PSs.nox (pss_cons (ps_set (i := 1) sc_refused.nd rfl (Or.inl rfl) pe_non)
    (pss_cons (ps_tryK (i := 2) (n := "error") (c := .ref (ga K "HeadsError")) rfl rfl rfl sc_refused.nd rfl rfl ⟨rfl, by decide, .inl gH⟩ takes0 (fun W pn xe tk _ => pss_one (ps_expr (pe_makeS T.mk (G_claim D T) (hr.mono (by decide)) rfl gC (b_Claim_init D) (fun σ => passAt tk σ) (pa_cons (pv 0) pa_nil)))) (fun a oe cls d pn hz hf => pss_one (ps_set (i := 1) sc_refused.nd rfl (Or.inl rfl) (pv 2))))
    (pss_cons (ps_set (i := 3) sc_refused.nd rfl (Or.inl rfl) (pe_and (pe_callB call_isA (by rfl) zisi (by decide +kernel) (pa_cons (pv 1) (pa_cons (pe_glob (v := .ref (ga K "BadName")) rfl gN rfl) pa_nil))) (pe_one (pe_callB call_isA (by rfl) zisi (by decide +kernel) (pa_cons (pv 1) (pa_cons (pe_glob (v := .ref (ga K "BadInput")) rfl gI rfl) pa_nil))))))
    (pss_cons (ps_if (PW.pt (pw_or (pt_not (pt_val (pv 3))) (pw_or1 (pt_val (pe_callB call_isAT (by rfl) zisi (by decide +kernel) (pa_cons (pv 1) (pa_cons (pe_tupN (pa_cons (pe_glob (v := .ref (ga K "BadPlace")) rfl gP rfl) (pa_cons (pe_glob (v := .ref (ga K "BadText")) rfl gX rfl) (pa_cons (pe_glob (v := .ref (ga K "BadWalk")) rfl gW rfl) pa_nil)))) pa_nil))))))) (pss_one (ps_ret pe_bl)) pss_nil)
    (pss_one (ps_ret (pe_cmpR op_eq (pe_callB (call_reprV hg hu) (by rfl) zrepr Tw.boot_repr (pa_cons (pe_xfld (pv 1)) pa_nil)) (pe_callB (call_reprV hg hu) (by rfl) zrepr Tw.boot_repr (pa_cons (pv 0) pa_nil)) (nomark _)))))))), ?_⟩
    obtain ⟨⟨t, bt⟩, _, no, dd, hdx, hm, hdp, hcp⟩ := N
    refine ⟨_, rfl, fun a dx ha hd hda => ⟨a, dx, x, t, rfl, upd_same, bt.same (same_made hd ha hda), fun z e => (no z e).2, fun z e h => absurd h (no z e).1, ?_⟩⟩
    intro _ d H1 s1 hd1
    refine ⟨ga K "BadName", true, rfl, T.exm, fun _ e he => ?_, fun z => nomatch z⟩
    have S : Same H (upd H1 e (exT e (ga K "BadName") (some d))) := ((same_made hd ha hda).trans s1).trans (same_new he)
    have hd2 : (upd H1 e (exT e (ga K "BadName") (some d))) d = some (.xd [("name", x)]) := same_new he _ _ hd1
    have he2 : (upd H1 e (exT e (ga K "BadName") (some d))) e = some (exT e (ga K "BadName") (some d)) := upd_same
    refine ⟨_, rfl, _, rfl, .ref e, .ref (ga K "BadName"), .ref (ga K "BadName"), _, _, rfl, .own _, .inr ⟨e, _, d, _, rfl, rfl, .inr he2, .inr hd2, T.xc, T.xo⟩, T.kitNN, _, rfl, ?_⟩
    refine ⟨_, rfl, .ref e, .ref (ga K "BadInput"), .ref (ga K "BadName"), _, _, rfl, .own _, .inr ⟨e, _, d, _, rfl, rfl, .inr he2, .inr hd2, T.xc, T.xo⟩, T.kitNI, _, rfl, _, rfl, ?_⟩
    refine ⟨_, rfl, sz1000 (by show 3 ≤ 1000; decide), fun tp H2 f2 s2 g2 => ?_⟩
    refine ⟨.ref e, tp, _, .ref (ga K "BadName"), _, false, rfl, g2, .cons (.own _) (.cons (.own _) (.cons (.own _) .nil)), .inr ⟨e, _, d, _, rfl, rfl, .inr (s2 _ _ he2), .inr (s2 _ _ hd2), T.xc, T.xo⟩, T.kitN3, _, rfl, ?_⟩
    have S2 := S.trans s2
    have dx2 := Dx.same S2 hdx
    refine ⟨_, rfl, e, _, d, _, _, rfl, .inr (s2 _ _ he2), T.xc, T.no, .inr (s2 _ _ hd2), rfl, x, dd, rfl, dx2, hm, hdp, hcp, ?_⟩
    refine ⟨_, rfl, x, dd, rfl, dx2, hm, hdp, hcp, rfl, ?_⟩
    rw [decide_eq_true rfl]
    exact k H2 S2
theorem G_right {en : Array DictEntry} {n : Nat} (D : DefsAt fn K fd) (KD : KDict K w (ga K "EXCHANGED") en n) (T : Txt K mg) : FnG P w K mg base CX0 7 (at_right K) (fd_right fd) ["_law_word"] spRight := by
  have zlen : mg "len" = none := T.bl (by decide +kernel)
  have zstr : mg "str" = none := T.bl (by decide +kernel)
  have zrepr : mg "repr" = none := T.bl (by decide +kernel)
  have gC : mg "Claim" = some (.ref (ga K "Claim")) := T.cl (by decide +kernel)
  have mS := T.mt (m := "__str__") (by decide +kernel)
  have mQ := T.mt (m := "__eq__") (by decide +kernel)
  have mT := T.mt (m := "turned") (by decide +kernel)
  have mE := T.mt (m := "ends") (by decide +kernel)
  refine (F_right D).okG sc_right (fun vs H Q E h => ?_) (fun cdv A outer s H vs Q E hr hg h => ?_)
  · obtain ⟨z, rfl, _⟩ := h
    rfl
  · obtain ⟨z, rfl, hz, k⟩ := h
    have hu := room70 hr
    refine ⟨_, PSs.nox (pss_cons (ps_set (i := 1) sc_right.nd rfl (Or.inl rfl) (pe_make (E := E0) T.mk (G_claim D T) (hr.mono (by decide)) rfl gC (b_Claim_init D) .nil passL (pa_cons (pv 0) pa_nil)))
    (pss_cons (ps_set (i := 2) sc_right.nd rfl (Or.inl rfl) (pv 0))
    (pss_mid (ps_if (pt_cmpR op_eq (pe_slice sl_str (pv 0) (po_some (pe_op op_sub (pe_callB call_len (by rfl) zlen (by decide +kernel) (pa_cons (pv 0) pa_nil)) pe_int)) po_none) pe_str (nomark _)) (pss_one (ps_set (i := 2) sc_right.nd rfl (Or.inl rfl) (pe_op op_add_str (pe_slice sl_str (pv 0) po_none (po_some (pe_op op_sub (pe_callB call_len (by rfl) zlen (by decide +kernel) (pa_cons (pv 0) pa_nil)) pe_int))) pe_str))) (pss_one (ps_if (pt_cmpR op_eq (pe_slice sl_str (pv 0) (po_some (pe_op op_sub (pe_callB call_len (by rfl) zlen (by decide +kernel) (pa_cons (pv 0) pa_nil)) pe_int)) po_none) pe_str (nomark _)) (pss_one (ps_set (i := 2) sc_right.nd rfl (Or.inl rfl) (pe_op op_add_str (pe_slice sl_str (pv 0) po_none (po_some (pe_op op_sub (pe_callB call_len (by rfl) zlen (by decide +kernel) (pa_cons (pv 0) pa_nil)) pe_int))) pe_str))) pss_nil)))
    (pss_cons (ps_set (i := 3) sc_right.nd rfl (Or.inl rfl) (pe_lstN (pa_cons (pe_fld (pv 1) rfl) (pa_cons (pe_callTy (call_strOwn (E := E0) mS.at_ mS.fn (G_cstr D T) (hr.mono (by decide)) (b_Claim_str D) pass0) (by rfl) zstr (by decide +kernel) (pa_cons (pv 1) pa_nil)) (pa_cons (pe_fld (pe_meth0 (E := E0) (pv 1) T.cls mT (G_turn D KD T) (hr.mono (by decide)) (b_Claim_turned D) .nil pass0) rfl) (pa_cons (pe_fld (pe_meth0 (E := E0) (pe_meth0 (E := E0) (pv 1) T.cls mT (G_turn D KD T) (hr.mono (by decide)) (b_Claim_turned D) .nil pass0) T.cls mT (G_turn D KD T) (hr.mono (by decide)) (b_Claim_turned D) .nil pass0) rfl) pa_nil))))))
    (pss_cons (ps_if (pt_cmpR op_ne (pe_callB (call_reprV hg hu) (by rfl) zrepr Tw.boot_repr (pa_cons (pv 3) pa_nil)) (pe_callB (call_reprV hg hu) (by rfl) zrepr Tw.boot_repr (pa_cons (pe_lstN (pa_cons (pv 0) (pa_cons (pv 0) (pa_cons (pv 2) (pa_cons (pv 0) pa_nil))))) pa_nil)) (nomark _)) (pss_one (ps_ret pe_bl)) pss_nil)
    (pss_cons (ps_set (i := 4) sc_right.nd rfl (Or.inl rfl) (pe_lstN pa_nil))
    (pss_cons (ps_for PassesOwn.never rfl (pi_tup (pe_tupN (pa_cons (pe_tupN (pa_cons pe_int (pa_cons (pe_tupN pa_nil) (pa_cons pe_str (pa_cons pe_str (pa_cons pe_str pa_nil)))))) (pa_cons (pe_tupN (pa_cons pe_int (pa_cons (pe_tupN (pa_cons pe_str pa_nil)) (pa_cons pe_str (pa_cons pe_str (pa_cons pe_str pa_nil)))))) (pa_cons (pe_tupN (pa_cons pe_int (pa_cons (pe_tupN pa_nil) (pa_cons pe_str (pa_cons pe_str (pa_cons pe_str pa_nil)))))) pa_nil))))) (pg_name (i := 5) sc_right.nd rfl (Or.inl rfl))
    (pss_one (ps_expr (pe_bm PySem.F.plainAttrs_list PySem.F.slot_list_append PySem.F.type_list_append mt_append (pv 4) (pa_cons (pe_meth (E := E0) (pv 1) T.cls mE (G_ends D T) (hr.mono (by decide)) (b_Claim_ends D) .nil pass0 (pa_cons (pv 5) pa_nil)) pa_nil)))))
    (pss_cons (ps_set (i := 6) sc_right.nd rfl (Or.inl rfl) (pe_lstN (pa_cons pe_bl (pa_cons pe_bl (pa_cons pe_bl pa_nil)))))
    (pss_mid (ps_if (pt_cmpR op_in_seq (pv 0) (pe_tupN (pa_cons pe_str (pa_cons pe_str pa_nil))) rfl) (pss_one (ps_set (i := 6) sc_right.nd rfl (Or.inl rfl) (pe_lstN (pa_cons pe_bl (pa_cons pe_bl (pa_cons pe_bl pa_nil)))))) pss_nil)
    (pss_mid (ps_if (pt_cmpR op_in_seq (pv 0) (pe_tupN (pa_cons pe_str (pa_cons pe_str pa_nil))) rfl) (pss_one (ps_set (i := 6) sc_right.nd rfl (Or.inl rfl) (pe_lstN (pa_cons pe_bl (pa_cons pe_bl (pa_cons pe_bl pa_nil)))))) pss_nil)
    (pss_one (ps_ret (pe_and (pe_cmpR op_eq (pe_callB (call_reprV hg hu) (by rfl) zrepr Tw.boot_repr (pa_cons (pv 4) pa_nil)) (pe_callB (call_reprV hg hu) (by rfl) zrepr Tw.boot_repr (pa_cons (pv 6) pa_nil)) (nomark _)) (pe_and (pe_not (pe_cmpR (op_eqOwn (E := E0) mQ.at_ mQ.fn (G_ceq D T) (hr.mono (by decide)) (b_Claim_eq D) pass0) (pv 1) (pv 0) (nomark _))) (pe_and (pe_cmpR (op_eqOwn (E := E0) mQ.at_ mQ.fn (G_ceq D T) (hr.mono (by decide)) (b_Claim_eq D) pass0) (pv 1) (pe_make (E := E0) T.mk (G_claim D T) (hr.mono (by decide)) rfl gC (b_Claim_init D) .nil passL (pa_cons (pv 0) pa_nil)) (nomark _)) (pe_one (pe_not (pe_cmpR (op_neOwn (E := E0) T.ne mQ.at_ mQ.fn T.mro (G_ceq D T) (hr.mono (by decide)) (b_Claim_eq D) pass0) (pv 1) (pe_make (E := E0) T.mk (G_claim D T) (hr.mono (by decide)) rfl gC (b_Claim_init D) .nil passL (pa_cons (pv 0) pa_nil)) (nomark _))))))))))))))))))), ?_⟩
    have lz := words_len z hz
    have sz := smallB_ok (words_small z hz)
    obtain ⟨tl, ts⟩ := turn_law z hz
    obtain ⟨tin, ttt⟩ := turn_in z hz
    have zz : z.length ≤ sizeLine := Nat.le_trans lz (by decide)
    have lc : ∀ lo hi, (cutS z lo hi).length + 5 ≤ sizeLine := fun lo hi => Nat.le_trans (Nat.add_le_add (Nat.le_trans (cutS_length z lo hi) lz) (Nat.le_refl 5)) (by decide)
    refine ⟨_, rfl, fun a dx ha hd hne => claim_to ha hd hne hz fun H1 hA s1 => ⟨rfl, ?_⟩⟩
    refine ⟨_, rfl, fun σ' H' => σ' = [some (.str z), some (.ref a), some (.str (turnW z)), none, none, none, none] ∧ H' = H1, ?_, ?_⟩
    · refine ⟨_, rfl, _, rfl, _, _, rfl, ⟨zz, rfl⟩, _, _, rfl, rfl, _, rfl, z, rfl, zz, rfl, _, rfl, ?_⟩
      rw [dec_s]
      unfold lawTurn at tl
      refine ite2 (fun h1 => ?_) (fun h1 => ?_)
      · rw [if_pos (of_decide_eq_true h1)] at tl
        rw [← tl]
        exact ⟨_, rfl, _, rfl, _, _, rfl, ⟨zz, rfl⟩, _, _, rfl, rfl, _, rfl, z, rfl, zz, _, _, rfl, rfl, lc _ _, rfl, rfl⟩
      · rw [if_neg (fun e => h1 (decide_eq_true e))] at tl
        refine ⟨_, rfl, _, rfl, _, _, rfl, ⟨zz, rfl⟩, _, _, rfl, rfl, _, rfl, z, rfl, zz, rfl, _, rfl, ?_⟩
        rw [dec_s]
        refine ite2 (fun h2 => ?_) (fun h2 => ?_)
        · rw [if_pos (of_decide_eq_true h2)] at tl
          rw [← tl]
          exact ⟨_, rfl, _, rfl, _, _, rfl, ⟨zz, rfl⟩, _, _, rfl, rfl, _, rfl, z, rfl, zz, _, _, rfl, rfl, Nat.le_trans (Nat.add_le_add_left (by decide : 4 ≤ 5) _) (lc _ _), rfl, rfl⟩
        · rw [if_neg (fun e => h2 (decide_eq_true e))] at tl
          rw [← tl]
          exact ⟨rfl, rfl⟩
    rintro σ2 H2 ⟨rfl, rfl⟩
    -- the four words
    obtain ⟨dxa, ga⟩ := id hA
    refine ⟨_, rfl, a, _, dxa, _, _, rfl, ga, T.cls, T.na (by decide +kernel), rfl, ?_⟩
    refine ⟨_, rfl, a, dxa, _, rfl, ga, a, z, rfl, hA, _, rfl, ?_⟩
    refine ⟨_, rfl, a, dxa, _, rfl, ga, rfl, a, z, rfl, hA, hz, fun b H3 s3 hB => ?_⟩
    obtain ⟨dxb, gb⟩ := id hB
    refine ⟨b, _, dxb, _, _, rfl, gb, T.cls, T.na (by decide +kernel), rfl, ?_⟩
    have hA3 := hA.same s3
    obtain ⟨dxa3, ga3⟩ := id hA3
    refine ⟨_, rfl, a, dxa3, _, rfl, ga3, rfl, a, z, rfl, hA3, hz, fun b4 H4 s4 hB4 => ?_⟩
    obtain ⟨dxb4, gb4⟩ := id hB4
    refine ⟨b4, dxb4, _, rfl, gb4, rfl, b4, turnW z, rfl, hB4, tin, fun b5 H5 s5 hB5 => ?_⟩
    obtain ⟨dxb5, gb5⟩ := id hB5
    refine ⟨b5, _, dxb5, _, _, rfl, gb5, T.cls, T.na (by decide +kernel), rfl, ?_⟩
    rw [ttt]
    refine ⟨sz1000 (by show 4 ≤ 1000; decide), fun q6 H6 f6 m6 s6 g6 => ?_⟩
    obtain ⟨r1, r2, r3⟩ := reprStrs (n := 12) [z, z, turnW z, z] (fun y hy => by
      simp only [List.mem_cons, List.not_mem_nil, or_false] at hy
      rcases hy with rfl | rfl | rfl | rfl
      · exact sz
      · exact sz
      · exact smallB_ok ts
      · exact sz) (by decide) (by show 4 ≤ 1000; decide)
    refine ⟨_, rfl, .ref q6, .list ([z, z, turnW z, z].map .str), rfl, .lst (SqL.of g6) m6 (dxStrs [z, z, turnW z, z]), r1, r2, r3, ?_⟩
    refine ⟨_, rfl, _, rfl, _, rfl, _, rfl, sz1000 (by show 4 ≤ 1000; decide), fun q7 H7 f7 m7 s7 g7 => ?_⟩
    refine ⟨.ref q7, .list ([z, z, turnW z, z].map .str), rfl, .lst (SqL.of g7) m7 (dxStrs [z, z, turnW z, z]), r1, r2, r3, rfl, _, rfl, ?_⟩
    refine iteNS rfl ?_
    have hA7 := (((((hA.same s3).same s4).same s5).same s6).same s7)
    have S7 := ((((s1.trans s3).trans s4).trans s5).trans s6).trans s7
    refine ⟨sz1000 (Nat.zero_le _), fun q8 H8 f8 m8 s8 g8 => ?_⟩
    refine ⟨sz1000 (Nat.zero_le _), fun e1 H9 _ s9 _ => ⟨sz1000 (by show 5 ≤ 1000; decide), fun t1 H10 f10 s10 g10 => ⟨sz1000 (by show 1 ≤ 1000; decide), fun e2 H11 _ s11 _ => ⟨sz1000 (by show 5 ≤ 1000; decide), fun t2 H12 f12 s12 g12 => ⟨sz1000 (Nat.zero_le _), fun e3 H13 _ s13 _ => ⟨sz1000 (by show 5 ≤ 1000; decide), fun t3 H14 f14 s14 g14 => ⟨sz1000 (by show 3 ≤ 1000; decide), fun tt H15 f15 s15 g15 => ?_⟩⟩⟩⟩⟩⟩⟩
    have s815 : Same H8 H15 := (((((s9.trans s10).trans s11).trans s12).trans s13).trans s14).trans s15
    have g8' := s815 _ _ g8
    have gt1 := ((((s11.trans s12).trans s13).trans s14).trans s15) _ _ g10
    have gt2 := ((s13.trans s14).trans s15) _ _ g12
    have gt3 := s15 _ _ g14
    have nT : ∀ {t : Addr} {vs : List V}, H15 t = some (.tup vs) → t ≠ q8 := fun h e => by
      rw [e, g8'] at h
      cases h
    have hA15 := (hA7.same s8).same s815
    have item : ∀ (i : Nat) (x : V), ([.ref t1, .ref t2, .ref t3] : List V)[i]? = some x → ∃ (t : Addr) (u0 u1 u2 : V) (x' y' : Str), x = .ref t ∧ H15 t = some (.tup [u0, u1, u2, .str x', .str y']) ∧ (es z)[i]? = some (endsB z x' y') := fun i x hx => by
      have hi : i < 3 := (List.getElem?_eq_some_iff.mp hx).1
      have c3 : i = 0 ∨ i = 1 ∨ i = 2 := by omega
      rcases c3 with rfl | rfl | rfl
      · cases hx
        exact ⟨t1, _, _, _, _, _, rfl, gt1, rfl⟩
      · cases hx
        exact ⟨t2, _, _, _, _, _, rfl, gt2, rfl⟩
      · cases hx
        exact ⟨t3, _, _, _, _, _, rfl, gt3, rfl⟩
    refine ⟨tt, rfl, ⟨_, .inl (.inl g15)⟩, for_tup (K := K) (a := tt) (xs := [.ref t1, .ref t2, .ref t3]) (fun i σ H' => ∃ v, σ = [some (.str z), some (.ref a), some (.str (turnW z)), some (.ref q6), some (.ref q8), v, none] ∧ But q8 H15 H' ∧ H' q8 = some (.lst (((es z).take i).map V.bl)))
      ⟨none, rfl, But.refl _, g8'⟩ (fun i σ H' _ ⟨_, _, b, _⟩ => .inl (.inl (b _ _ g15 (nT g15)))) ?_ ?_⟩
    · rintro i x σ H' hx ⟨v, rfl, b, gq⟩
      obtain ⟨t, u0, u1, u2, x', y', rfl, gt, ee⟩ := item i x hx
      have hA' : Clm K H' a z := by
        obtain ⟨dd, gg⟩ := hA15
        exact ⟨dd, b _ _ gg (fun e => by
          rw [e, g8'] at gg
          cases gg)⟩
      obtain ⟨dd, gg⟩ := id hA'
      refine ⟨_, rfl, .inl ⟨rfl, _, SqL.of gq⟩, _, rfl, a, dd, _, rfl, gg, rfl, _, rfl, a, t, z, u0, u1, u2, x', y', rfl, hA', .inl (.inl (b _ _ gt (nT gt))), fun H'' s'' => ?_⟩
      refine ⟨q8, _, _, rfl, rfl, s'' _ _ gq, ?_, _, rfl, (b.trans (But.of s'')).trans But.upd, ?_⟩
      · rw [List.length_map]
        exact Nat.lt_of_le_of_lt (List.length_take_le' _ _) (show 3 < sizeLine by decide)
      · rw [upd_same, List.take_add_one, ee, List.map_append]
        rfl
    · rintro σ H' ⟨v, rfl, b, gq⟩
      have gq3 : H' q8 = some (.lst ((es z).map V.bl)) := gq
      have hA' : Clm K H' a z := by
        obtain ⟨dd, gg⟩ := hA15
        exact ⟨dd, b _ _ gg (fun e => by
          rw [e, g8'] at gg
          cases gg)⟩
      have SH : Same H H' := fun o u e => b o u ((((S7.trans s8).trans s815)) o u e) (ne_of_none (S7 o u e) f8)
      refine ⟨sz1000 (by show 3 ≤ 1000; decide), fun q17 H17 f17 m17 s17 g17 => ?_⟩
      refine ⟨fun σ2 H2 => ∃ q, σ2 = [some (.str z), some (.ref a), some (.str (turnW z)), some (.ref q6), some (.ref q8), v, some (.ref q)] ∧ Same H' H2 ∧ q ≠ sysModules ∧ H2 q = some (.lst ((due1 z).map V.bl)), ?_, ?_⟩
      · refine ⟨_, rfl, sz1000 (by show 2 ≤ 1000; decide), fun t18 H18 f18 s18 g18 => ⟨t18, _, rfl, .inr (.inl (.inl g18)), rfl, flat2 _ _, _, rfl, ?_⟩⟩
        rw [show ([.str "keeps left", .str "uses left"] : List V) = (["keeps left", "uses left"] : List Str).map V.str from rfl, inStrs]
        unfold due1
        refine ite2 (fun h => ?_) (fun h => ?_)
        · rw [if_pos (of_decide_eq_true h)]
          exact ⟨sz1000 (by show 3 ≤ 1000; decide), fun q19 H19 f19 m19 s19 g19 => ⟨q19, rfl, (s17.trans s18).trans s19, m19, g19⟩⟩
        · rw [if_neg (fun e => h (decide_eq_true e))]
          exact ⟨q17, rfl, s17.trans s18, m17, s18 _ _ g17⟩
      rintro σ2 H2 ⟨q, rfl, s2, mq, gq2⟩
      refine ⟨fun σ3 H3 => ∃ q, σ3 = [some (.str z), some (.ref a), some (.str (turnW z)), some (.ref q6), some (.ref q8), v, some (.ref q)] ∧ Same H' H3 ∧ q ≠ sysModules ∧ H3 q = some (.lst ((due2 z).map V.bl)), ?_, ?_⟩
      · refine ⟨_, rfl, sz1000 (by show 2 ≤ 1000; decide), fun t18 H18 f18 s18 g18 => ⟨t18, _, rfl, .inr (.inl (.inl g18)), rfl, flat2 _ _, _, rfl, ?_⟩⟩
        rw [show ([.str "keeps right", .str "uses right"] : List V) = (["keeps right", "uses right"] : List Str).map V.str from rfl, inStrs]
        unfold due2
        refine ite2 (fun h => ?_) (fun h => ?_)
        · rw [if_pos (of_decide_eq_true h)]
          exact ⟨sz1000 (by show 3 ≤ 1000; decide), fun q19 H19 f19 m19 s19 g19 => ⟨q19, rfl, (s2.trans s18).trans s19, m19, g19⟩⟩
        · rw [if_neg (fun e => h (decide_eq_true e))]
          exact ⟨q, rfl, s2.trans s18, mq, s18 _ _ gq2⟩
      rintro σ3 H3 ⟨r, rfl, s3, mr, gr⟩
      rw [due_law z hz] at gr
      have m8' := m8
      have hm : mild (.list ((es z).map .bool)) = true := (mildBools (es z)).1
      have hc : cap (.list ((es z).map .bool)) ≤ 16777216 := by
        have h2 := (mildBools (es z)).2
        have h3 : (es z).length = 3 := rfl
        simp only [cap]
        omega
      have hdp : (PyData.list ((es z).map .bool)).depth ≤ 64 := by
        simp only [PyData.depth, (layBools (es z)).2]
        decide
      have ga3 := hA'.same s3
      obtain ⟨dx3, gg3⟩ := id ga3
      obtain ⟨tS, tyS, nfS, _⟩ := (Oth.tx (K := K) (H := H3) z).tyA T
      refine ⟨_, rfl, .ref q8, .list ((es z).map .bool), rfl, .lst (SqL.of (s3 _ _ gq3)) m8 (dxBools (es z)), hm, hdp, hc, _, rfl, .ref r, .list ((es z).map .bool), rfl, .lst (SqL.of gr) mr (dxBools (es z)), hm, hdp, hc, rfl, _, rfl, ?_⟩
      rw [decide_eq_true rfl]
      refine iteT ?_
      refine ⟨_, rfl, _, rfl, a, dx3, _, tS, rfl, gg3, tyS, nfS, ⟨a, z, .str z, none, rfl, ga3, .tx z, ?_⟩⟩
      refine ⟨_, rfl, _, rfl, ?_⟩
      refine ⟨_, rfl, _, rfl, fun b db hb hdb hnb => claim_to hb hdb hnb hz fun H4 hB s4 => ⟨rfl, ?_⟩⟩
      have ga4 := ga3.same s4
      obtain ⟨dx4, gg4⟩ := id ga4
      obtain ⟨tC, tyC, nfC, _⟩ := (Oth.cl (K := K) (H := H4) hB).tyA T
      refine ⟨a, dx4, _, tC, rfl, gg4, tyC, nfC, ⟨a, z, .ref b, some z, rfl, ga4, .cl hB, ?_⟩⟩
      rw [eqTo_refl]
      refine ⟨_, rfl, ?_⟩
      refine ⟨_, rfl, _, rfl, fun b5 db5 hb5 hdb5 hnb5 => claim_to hb5 hdb5 hnb5 hz fun H5 hB5 s5' => ⟨rfl, ?_⟩⟩
      have ga5 := ga4.same s5'
      obtain ⟨dx5, gg5⟩ := id ga5
      obtain ⟨tC5, tyC5, nfC5, _⟩ := (Oth.cl (K := K) (H := H5) hB5).tyA T
      refine ⟨a, dx5, _, tC5, rfl, gg5, tyC5, nfC5, ⟨a, z, .ref b5, some z, rfl, ga5, .cl hB5, _, rfl, ?_⟩⟩
      rw [eqTo_refl]
      exact ⟨_, rfl, k H5 (((SH.trans s3).trans s4).trans s5')⟩
end
end K40
namespace K40
open PySem PySem.Spec PyProof.Rows L2 He Tw
def spLaw (K : Fg) : Sp := fun vs H Q _ => ∃ (a : Addr) (ns : List Int), vs = [.ref a] ∧ SqL K H a (ns.map V.int) ∧ ns.length ≤ 63 ∧ ∀ H', Q (.bl true) H'
theorem alike_one : ∀ z ∈ words, words.filter (fun o => decide (z = o)) = [z] := by decide +kernel
theorem wordsT : mild (.tuple (words.map .str)) = true ∧ (PyData.tuple (words.map .str)).depth ≤ 64 ∧ cap (.tuple (words.map .str)) ≤ 16777216 := by decide +kernel
theorem shaped_one : ∀ z ∈ words, SeqAt.shaped (.list [.str z]) = true := by decide +kernel
theorem eqv_one : ∀ z ∈ words, PyData.eqv (.list [.str z]) (.list [.str z]) = true := by decide +kernel
section
variable {P : Program} {w : World} {K : Fg} {mg : Str → Option Value} {base : Heap} {fd : Nat → FuncData}
theorem G_law {en : Array DictEntry} {n : Nat} (D : DefsAt fn K fd) (KD : KDict K w (ga K "EXCHANGED") en n) (T : Txt K mg) : FnG P w K mg base CX0 9 (at_law K) (fd_law fd) ["_law_script"] (spLaw K) := by
  have ztup : mg "tuple" = none := T.bl (by decide +kernel)
  have zall : mg "all" = none := T.bl (by decide +kernel)
  have zr : mg "range" = none := T.bl (by decide +kernel)
  have zrepr : mg "repr" = none := T.bl (by decide +kernel)
  have gC : mg "Claim" = some (.ref (ga K "Claim")) := T.cl (by decide +kernel)
  have gP := T.fn (x := "_law_pen") (by decide +kernel)
  have gW := T.fn (x := "_law_claim_words") (by decide +kernel)
  have gR := T.fn (x := "_law_right") (by decide +kernel)
  have gF := T.fn (x := "_law_refused") (by decide +kernel)
  have gN := T.fn (x := "_law_near") (by decide +kernel)
  have mQ := T.mt (m := "__eq__") (by decide +kernel)
  obtain ⟨uW, cW⟩ := T.cval
  refine (F_law D).okG sc_law (fun vs H Q E h => ?_) (fun cdv A outer s H vs Q E hr hg h => ?_)
  · obtain ⟨a, ns, rfl, _⟩ := h
    rfl
  · obtain ⟨a, ns, rfl, hS, hn, k⟩ := h
    have hu := room70 hr
    refine ⟨_, PSs.nox (pss_cons (ps_set (i := 1) sc_law.nd rfl (Or.inr rfl) (pe_call (G_pen D T) (hr.mono (by decide)) rfl gP (k_pen D) (b_pen D) .nil pass0 (pa_cons (pv 0) pa_nil)))
    (pss_cons (ps_set (i := 2) sc_law.nd rfl (Or.inl rfl) (pe_call0 (G_words D T) (hr.mono (by decide)) rfl gW (k_claim_words D) (b_claim_words D) .nil pass0))
    (pss_cons (ps_if (pt_cmpR op_ne (pe_callB (call_reprV hg hu) (by rfl) zrepr Tw.boot_repr (pa_cons (ClX.pe_cval (pe_glob (v := .ref (ga K "Claim")) rfl gC rfl)) pa_nil)) (pe_callB (call_reprV hg hu) (by rfl) zrepr Tw.boot_repr (pa_cons (pe_callTy call_tuple_of (by rfl) ztup (by decide +kernel) (pa_cons (pv 2) pa_nil)) pa_nil)) (nomark _)) (pss_one (ps_ret pe_bl)) pss_nil)
    (pss_cons (ps_for PassesOwn.never rfl (pi_list (pv 2)) (pg_name (i := 3) sc_law.nd rfl (Or.inr rfl))
    (pss_cons (ps_setLc (i := 4) (own := [("_law_other", 5)]) (g := gName 5) (by rfl) sc_law.nd rfl rfl (sw_true rfl rfl rfl (by decide +kernel)) (pi_list (pv 2)) (blkOk_by (own := [("_law_other", 5)]) (N := N_law) (sc := defScope s_law) (by decide +kernel)) (fun _ _ _ _ _ => (pg_name (i := 5) sc_law.nd rfl (Or.inl rfl))) (fun _ _ _ _ _ => pts_one (pt_cmpR (eqOwnK (E := E0) P w K mg base mQ.at_ mQ.fn (G_ceq D T) (hr.mono (by decide)) (b_Claim_eq D) pass0) (pe_make (E := E0) T.mk (G_claim D T) (hr.mono (by decide)) rfl gC (b_Claim_init D) .nil passL (pa_cons (pv 3) pa_nil)) (pe_make (E := E0) T.mk (G_claim D T) (hr.mono (by decide)) rfl gC (b_Claim_init D) .nil passL (pa_cons (pv 5) pa_nil)) (nomark _))) (fun _ _ _ _ _ => (pv 5)))
    (pss_one (ps_if (PW.pt (pw_or (pt_not (pt_val (pe_callG (G_right D KD T) (hr.mono (by decide)) hg rfl gR (k_right D) (b_right D) .nil pass0 (pa_cons (pv 3) pa_nil)))) (pw_or1 (pt_cmpR (op_neD hr.units) (pv 4) (pe_lstN (pa_cons (pv 3) pa_nil)) (nomark _))))) (pss_one (ps_ret pe_bl)) pss_nil))))
    (pss_one (ps_ret (pe_callB (cr_all rfl) (by rfl) zall (by decide +kernel) (pa_cons (pe_lc (own := [("_law_turn", 6)]) (g := gName 6) (tt := tYes) (by rfl) sc_law.nd (pi_range1 rfl zr (pa_cons pe_int pa_nil)) (blkOk_by (own := [("_law_turn", 6)]) (N := N_law) (sc := defScope s_law) (by decide +kernel)) (fun _ _ _ _ _ => (pg_name (i := 6) sc_law.nd rfl (Or.inl rfl))) (fun _ _ _ _ _ => pts_nil) (fun _ _ _ _ _ => (pe_callG (G_refused D T) (hr.mono (by decide)) hg rfl gF (k_refused D) (b_refused D) .nil pass0 (pa_cons (pe_call (G_near D T) (hr.mono (by decide)) rfl gN (k_near D) (b_near D) .nil pass0 (pa_cons (pv 1) pa_nil)) pa_nil)))) pa_nil)))))))), ?_⟩
    obtain ⟨w1, w2, w3⟩ := wordsT
    refine ⟨_, rfl, a, ns, rfl, hS, hn, fun p l H1 f1 P1 s1 => ?_⟩
    refine ⟨rfl, fun q H2 f2 m2 s2 g2 => ?_⟩
    refine ⟨_, _, _, _, rfl, T.crd, cW, .ref (wordsAt K), .tuple (words.map .str), rfl, .tup (T.words H2) (dxStrs words), w1, w2, w3, ?_⟩
    refine ⟨_, rfl, q, _, rfl, .inl ⟨SqL.of g2, fun t ht => ⟨.ref t, .tuple (words.map .str), rfl, .tup (.inl (.inl upd_same)) (dxStrs words), w1, w2, w3, rfl, _, rfl, iteNS rfl ?_⟩⟩⟩
    have s3 := same_new (o := .tup (words.map V.str)) ht
    generalize upd H2 t (.tup (words.map V.str)) = H3 at s3 ⊢
    have g3 := s3 _ _ g2
    have P3 := (P1.same s2).same s3
    refine ⟨_, rfl, q, rfl, ⟨_, SqL.of g3⟩, for_list (K := K) (a := q) (xs := words.map V.str) (fun i σ H' => ∃ v3 v4 : Option V, σ = [some (.ref a), some (.ref p), some (.ref q), v3, v4, none, none] ∧ Same H3 H') ⟨none, none, rfl, fun _ _ e => e⟩ (fun i σ H' _ ⟨_, _, _, s⟩ => SqL.of (s _ _ g3)) ?_ ?_⟩
    · rintro i x σ H4 hx ⟨v3, v4, rfl, s4⟩
      rw [List.getElem?_map] at hx
      obtain ⟨z, hz', rfl⟩ := Option.map_eq_some_iff.mp hx
      have hz : z ∈ words := List.mem_of_getElem? hz'
      have g4 := s4 _ _ g3
      refine ⟨_, rfl, q, rfl, ⟨_, SqL.of g4⟩, fun L hL => lc_list (K := K) (a := q) (xs := words.map V.str) (fun j H' => Same H4 H' ∧ H' L = some (.lst (((words.take j).filter fun o => decide (z = o)).map V.str))) ⟨same_new hL, upd_same⟩ (fun j H' _ ⟨s, _⟩ => SqL.of (s _ _ g4)) ?_ ?_⟩
      · rintro j y H5 hy ⟨s5, g5⟩
        rw [List.getElem?_map] at hy
        obtain ⟨o, ho', rfl⟩ := Option.map_eq_some_iff.mp hy
        have ho : o ∈ words := List.mem_of_getElem? ho'
        have hj : j < 12 := (List.getElem?_eq_some_iff.mp ho').1
        refine ⟨rfl, _, rfl, fun b db hb hdb hnb => claim_to hb hdb hnb hz fun H6 hB s6 => ⟨rfl, _, rfl, fun c dc hc hdc hnc => claim_to hc hdc hnc ho fun H7 hC s7 => ⟨rfl, ?_⟩⟩⟩
        have hB7 := hB.same s7
        obtain ⟨dx7, gg7⟩ := id hB7
        obtain ⟨tC, tyC, nfC, _⟩ := (Oth.cl (K := K) (H := H7) hC).tyA T
        have g7 := s7 _ _ (s6 _ _ g5)
        have s57 := (s5.trans s6).trans s7
        have tk : (words.take (j + 1)).filter (fun o => decide (z = o)) = (words.take j).filter (fun o => decide (z = o)) ++ (if decide (z = o) = true then [o] else []) := by
          rw [List.take_add_one, ho', List.filter_append]
          congr 1
          by_cases e : z = o
          · simp [e]
          · simp [e]
        refine ⟨b, dx7, _, tC, rfl, gg7, tyC, nfC, ⟨b, z, .ref c, some o, rfl, hB7, .cl hC, _, rfl, ?_⟩⟩
        show if decide (z = o) = true then _ else _
        refine ite2 (fun h => ?_) (fun h => ?_)
        · refine ⟨_, rfl, _, g7, ?_, ?_, ?_⟩
          · rw [List.length_map]
            exact Nat.lt_of_le_of_lt (Nat.le_trans (List.length_filter_le _ _) (List.length_take_le' _ _)) (show words.length < sizeLine by decide)
          · exact fun b' o' hb' => by
              rw [upd_ne (ne_of_none hb' hL)]
              exact s57 b' o' hb'
          · rw [upd_same, tk, if_pos h, List.map_append]
            rfl
        · refine ⟨s57, ?_⟩
          rw [tk, if_neg h, List.append_nil]
          exact g7
      · rintro H5 ⟨s5, g5⟩
        have e12 : (words.take (words.map V.str).length) = words := by decide +kernel
        rw [e12, alike_one z hz] at g5
        refine ⟨_, rfl, z, rfl, hz, fun H6 s6 => ⟨_, rfl, ?_⟩⟩
        refine ⟨_, rfl, _, rfl, sz1000 (by show 1 ≤ 1000; decide), fun q7 H7 f7 m7 s7 g7 => ⟨.list [.str z], .list [.str z], .lst (SqL.of (s7 _ _ (s6 _ _ g5))) (dpStrs [z]), .lst (SqL.of g7) (dpStrs [z]), shaped_one z hz, shaped_one z hz, _, rfl, ifSame (eqv_one z hz) ?_⟩⟩
        exact ⟨_, _, rfl, ((s4.trans s5).trans s6).trans s7⟩
    · rintro σ H4 ⟨v3, v4, rfl, s4⟩
      have P4 := P3.same s4
      refine ⟨12, rfl, by decide, by decide, fun L hL => lc_range (lo := 0) (n := 12) (fun j H' => PenL H' p l (4 * j) ∧ H' L = some (.lst ((List.replicate j true).map V.bl))) ⟨P4.same (same_new hL), upd_same⟩ ?_ ?_⟩
      · rintro j H5 hj ⟨P5, g5⟩
        obtain ⟨nLp, nLl⟩ := P4.new hL
        refine ⟨rfl, _, rfl, p, l, 4 * j, rfl, P5, by omega, fun x H6 N6 P6 B6 => ⟨x, p, rfl, N6, fun H7 s7 => ⟨_, s7 _ _ (B6 _ _ g5 nLp), ?_, ?_, ?_⟩⟩⟩
        · rw [List.length_map, List.length_replicate]
          exact Nat.lt_of_lt_of_le (show j < 1000 by omega) (by decide)
        · exact (P6.same s7).upd nLp nLl
        · rw [upd_same, List.replicate_succ', List.map_append]
          rfl
      · rintro H5 ⟨P5, g5⟩
        exact ⟨L, List.replicate 12 true, rfl, SqL.of g5, k _⟩
end
end K40
namespace K40
open PySem PySem.Spec PyProof.Rows L2 He Tw
abbrev R : PySem.W.OpenRow := PySem.W.OpenLaw.row PySem.Challenge.rw_twoheads_k40_claims_and_their_words
abbrev hk : PySem.W.Hook := hookYT 5 fs fn ts
def ob (s : PySem.W.SharedT) : AlYT := obsYTG 5 fs fn ts (HandSHeadRun.getT s)
theorem ob_eq (s : PySem.W.SharedT) : ob s = hk.obs s.abs := obsYTG_eq (HandSHeadRun.getT_eq s)
def others : List Str := clss ++ fnames.dropLast ++ (["SIDES", "EXCHANGED", "_wall"] : List Str)
theorem run_f (w : World) : HandSHeadRun.RunEq R (PySem.W.view R.prog [24]) hk ob 9000 others (w.withFollow "special-get-raises" false) := by
  intro os
  kernel_rfl
theorem run_t (w : World) : HandSHeadRun.RunEq R (PySem.W.view R.prog [24]) hk ob 9000 others (w.withFollow "special-get-raises" true) := by
  intro os
  kernel_rfl
theorem run (w : World) : HandSHeadRun.RunEq R (PySem.W.view R.prog [24]) hk ob 9000 others w := PySem.W.byRow2 "special-get-raises" run_f run_t w
theorem facts {P : Program} {w : World} {K : Fg} {h : Heap} {mg : Str → Option Value} (X : K.In h) (G : h.Ns mainGlobals mg) (c : SaysYT fs fn ts w K) :
    ∃ u : FuncData, (∀ (s : Shared) (v : Value), BindsTo s u ⟨[v], []⟩ [("_law_script", v)]) ∧ ∀ base : Heap, K.In base → base.Ns mainGlobals mg → FnG P w K mg base CX0 9 (ga K "law") u ["_law_script"] (spLaw K) := by
  obtain ⟨fd, D⟩ := c.y.defs (d0 := fn.headD (dF "law" 24)) rfl
  have T : Txt K mg := ⟨c.y, fun x hx => He.glo_ok X G hx, fun x hx => He.free_ok X G hx, fun x i hx => He.int_ok X G hx, fun x z hx => He.str_ok X G hx⟩
  obtain ⟨e0, n0, KD0⟩ := c.tab 0
  have b : ∀ (s : Shared) (us : List Value), us.length = (["_law_script"] : List Str).length → BindsTo s (fd_law fd) ⟨us, []⟩ ((["_law_script"] : List Str).zip us) := FunD.bindsA (ps := ["_law_script"]) (F_law D) fun _ _ _ _ _ _ us hl => match us, hl with | [_], _ => rfl
  exact ⟨fd_law fd, fun s v => b s [v] rfl, fun base _ _ => G_law D KD0 T⟩
end K40
open PySem PySem.W PySem.Calls PyProof.Rows
set_option maxHeartbeats 0 in
theorem PySem.Challenge.cw_twoheads_k40_claims_and_their_words_holds : PySem.Challenge.rw_twoheads_k40_claims_and_their_words.Holds := by
  w_on; o_law
  refine HandSHeadRun.head_any (r := OpenLaw.row PySem.Challenge.rw_twoheads_k40_claims_and_their_words) (q := view (OpenLaw.row PySem.Challenge.rw_twoheads_k40_claims_and_their_words).prog [24]) (H := K40.hk) (ob := K40.ob) (M := 9000) (loose := K40.others) (d := HandSHeadRun.topDef (OpenLaw.row PySem.Challenge.rw_twoheads_k40_claims_and_their_words).prog 24) (kwd := []) K40.ob_eq
    (by kernel_rfl) (fun s => by kernel_rfl) K40.run (by kernel_rfl) (by kernel_rfl) (by kernel_rfl) (by rfl) (by first | assumption | decide +kernel) (by decide +kernel) ⟨rfl, rfl, rfl, rfl, rfl, by decide +kernel⟩ ?hw ?hc
  case hw => w_witness2
  case hc =>
    refine Tw.walk_ofEG (l := PySem.Challenge.rw_twoheads_k40_claims_and_their_words) (n := 63) (k := 9) (x := "_law_script") (CX := L2.CX0) rfl (by decide) (by kernel_rfl) ⟨rfl, by decide, by decide⟩ ?F (fun _ _ _ _ z => z)
    intro w mg fa h Y G hmg0
    obtain ⟨K, KX, c⟩ := Y
    have hmg : mg ("law" : PySem.Str) = some (.ref fa) := by
      have e : (HandSHeadRun.topDef (OpenLaw.row PySem.Challenge.rw_twoheads_k40_claims_and_their_words).prog 24).name = ("law" : PySem.Str) := by kernel_rfl
      rw [← e]
      exact hmg0
    obtain ⟨fd, hb, hF⟩ := K40.facts (P := (PySem.Challenge.rw_twoheads_k40_claims_and_their_words).prog) (w := w) KX G c
    have T0 : mg ("law" : PySem.Str) = some (.ref (He.ga K "law")) := He.glo_ok KX G (Tw.of_all (f := fun x => (He.Fa.glo x).ok K) (c.y.fact 1) (by decide +kernel))
    have ef : fa = He.ga K "law" := by
      rw [hmg] at T0
      exact Value.ref.inj (Option.some.inj T0)
    subst ef
    exact ⟨K, fd, K40.spLaw K, KX, hb, fun H a ns hl _ hS => ⟨a, ns, rfl, hS, hl, fun _ => rfl⟩, hF⟩
#print axioms PySem.Challenge.cw_twoheads_k40_claims_and_their_words_holds
