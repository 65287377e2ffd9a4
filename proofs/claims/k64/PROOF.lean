import PyProof.Rows.All
import Wide.All
import OpenK.AllK
import Wide.FinOn
import PyProof.StrLawsRepr
import PyProof.EqAt
import PyProof.EqKinds
import PyProof.TupleCall
import PyProof.ReprRoads
import KE.KExcIs
import HandS.ForMost
import HandS.Exc
import HandS.ExcInit
import HandS.ExcValue
import HandS.IsInst
import HandS.WordsExc
import HandS.SlotsOwn
import HandS.MakeKw
import HandS.MakeKwOnly
import KE.KCallOwn
import KE.KFmtOwn
import PyProof.Rows.StrMul
import HandS.Defaults
import HandS.Head0
import HandS.Head1
import HandS.Head2
import HandS.HeadEnd
import HandS.HeadHook1
import HandS.HeadHook2
import HandS.RaiseMore
import HandS.More
import HandS.HeadHook3
import HandS.FStr
import HandS.ClsMeth
import HandS.Codes
import Wide.Once
import KE.KOpsOwn
import HandS.Star
import HandS.Property
import PyProof.ListMulRoad
import HandS.HeadNt
import KE.KDictWalk
import HandS.Style
import HandS.ExcOwn
import PySem.Challenge.RW_twoheads_k64_tallies
set_option Elab.async false
set_option linter.all false
set_option maxRecDepth 100000
set_option maxHeartbeats 8000000
/-! Tw, part 1: calls where no repr runs around; errors as values; errors kept behind their except suite. -/
namespace Tw
open PySem PySem.Spec PyProof.Rows L2

/-! ### no repr is running around -/
abbrev NoG (A : Around) : Prop := A.guards = some []
structure FnG (P : Program) (w : World) (K : PySem.W.Frag) (mg : Str → Option Value) (base : Heap) (CX : CXT) (k : Nat) (f : Addr) (fd : FuncData) (ps : List Str) (sp : Sp) : Prop where
  len : ∀ vs H Q E, sp vs H Q E → vs.length = ps.length
  run : ∀ (A : Around) (outer : List Env) (s : Shared) (H : Hp) (args : Args) (us : List Value) (vs : List V) (Q : VK) (E : XK), Room k A → NoG A → Env0 P w K mg base A outer s H →
    BindsTo s fd args (ps.zip us) → Vals vs us → sp vs H Q E → codeAny (model P w) A (.call (.ref f) args) (CR CX outer P w H s Q E) s
section
variable {P : Program} {w : World} {K : PySem.W.Frag} {mg : Str → Option Value} {base : Heap} {CX : CXT}
theorem FnG.of {k : Nat} {f : Addr} {fd : FuncData} {ps : List Str} {sp : Sp} (F : FnOk P w K mg base CX k f fd ps sp) : FnG P w K mg base CX k f fd ps sp :=
  ⟨F.len, fun A outer s H args us vs Q E hr _ => F.run A outer s H args us vs Q E hr⟩
theorem FnG.mono {j k : Nat} {f : Addr} {fd : FuncData} {ps : List Str} {sp : Sp} (F : FnG P w K mg base CX j f fd ps sp) (h : j ≤ k) : FnG P w K mg base CX k f fd ps sp :=
  ⟨F.len, fun A outer s H args us vs Q E hr => F.run A outer s H args us vs Q E (hr.mono h)⟩
/-- a def by its body, where no repr runs around -/
theorem fng {k : Nat} {f : Addr} {name qual : Str} {params : Arguments} {body : List Stmt} {scope : Scope} {dV kV doc pm cdv ct oc : Value} {an od : Option Addr} {osl : Array (Option Value)} {N ps : List Str} {sp : Sp}
    (lk : K.lookup f = some ⟨oc, od, .func (PySem.W.fnOf name qual params body scope dV kV doc pm an cdv ct), osl⟩) (hcd : PySem.W.codeIn K cdv qual = true) (S : FnScope N ps scope) (len : ∀ vs H Q E, sp vs H Q E → vs.length = ps.length)
    (hbody : ∀ (A : Around) (outer : List Env) (s : Shared) (H : Hp) (vs : List V) (Q : VK) (E : XK), Room k (A.deeper (envOfC qual scope s.heap.objs.size f cdv)) → NoG (A.deeper (envOfC qual scope s.heap.objs.size f cdv)) → sp vs H Q E →
      ∃ t, PSs (cxOf CX P w K mg base N qual scope f cdv A outer s H E) body t ∧ t { nx := fun _ H' => Q .non H', rt := Q } (start N vs) H) :
    FnG P w K mg base CX (k + 1) f (PySem.W.fnOf name qual params body scope dV kV doc pm an cdv ct) ps sp := by
  refine ⟨len, fun A outer s H args us vs Q E hr hg e0 hb r hsp => ?_⟩
  have at0 : ∀ b o, base.get? b = some o → s.heap.get? b = some o := fun b o e => (e0.bs b o e).1
  have hkind : ∀ y ∈ ps.zip us, scope.names.lookup y.1 = some .local ∨ (scope.names.lookup y.1 = some .cell ∧ ((cellsFrom (s.heap.objs.size + 1) scope.names []).lookup y.1).isSome = true) := by
    rintro ⟨n, v⟩ hy
    rcases S.par n (List.of_mem_zip hy).1 with q | q
    · exact .inl q
    · exact .inr ⟨q, PySem.W.cellsFrom_some _ _ _ (.inl q)⟩
  refine codeAny_call_function hr.depth ((e0.mod.kin.keeps at0) _ _ lk) rfl S.co S.gen rfl (PySem.W.codeRec_of (e0.mod.kin.keeps at0) hcd) (hb _ _ _ _ ?_)
  refine wpAny_newFunctionEnv_cells S.kind hkind fun env he s1 x => ?_
  subst he
  refine ⟨(e0.mod.nolimit.keeps at0).keeps x.toInCall.keep, codeAny_func ?_⟩
  obtain ⟨t, ht, hq⟩ := hbody A outer s H vs Q E (hr.deeper _) hg hsp
  refine wpAny_mono (ht.run [] s1 (start N vs) H _ (inv_start S hr.hd e0 (len _ _ _ _ hsp) r x) hq) (fun fl s' hs => ?_) fun e s' hs => hs
  cases fl with
  | ret u =>
    obtain ⟨v, σ', H', J, rv, q⟩ := hs
    exact ⟨v, H', J.os, J.bare, J.base, J.hok, rv, q⟩
  | next =>
    obtain ⟨σ', H', J, q⟩ := hs
    exact ⟨.non, H', J.os, J.bare, J.base, J.hok, rfl, q⟩
  | brk => exact hs.elim fun _ z => z.elim fun _ z => z.2.elim
  | cont => exact hs.elim fun _ z => z.elim fun _ z => z.2.elim
/-- the same for a def as the text has it -/
theorem _root_.L2.Fun.okG {x qual : Str} {st : Stmt} {f : Addr} {fd : FuncData} {N ps : List Str} {k : Nat} {sp : Sp} (F : Fun K x qual st f fd) (S : FnScope N ps (defScope st)) (len : ∀ vs H Q E, sp vs H Q E → vs.length = ps.length)
    (hbody : ∀ (cdv : Value) (A : Around) (outer : List Env) (s : Shared) (H : Hp) (vs : List V) (Q : VK) (E : XK), Room k (A.deeper (envOfC qual (defScope st) s.heap.objs.size f cdv)) → NoG (A.deeper (envOfC qual (defScope st) s.heap.objs.size f cdv)) → sp vs H Q E →
      ∃ t, PSs (cxOf CX0 P w K mg base N qual (defScope st) f cdv A outer s H E).nox (defBody st) t ∧ t { nx := fun _ H' => Q .non H', rt := Q } (start N vs) H) : FnG P w K mg base CX0 (k + 1) f fd ps sp := by
  obtain ⟨oc, od, kV, doc, pm, an, cdv, ct, osl, rfl, lk, hcd⟩ := F.ex
  refine fng lk hcd S len fun A outer s H vs Q E hr hg hsp => ?_
  obtain ⟨t, h, q⟩ := hbody cdv A outer s H vs Q E hr hg hsp
  exact ⟨t, h.nox, q⟩
end
section
variable {X : Cx} {CX : CXT} {k : Nat} {f : Addr} {fd : FuncData} {ps : List Str} {sp : Sp} {dvs : List V} {ds : List Value} {E : XK} {x : Str} {p pos : Pos} {e : Expr} {es : List Expr} {t : TA}
theorem run_fnG {pins : List (Addr × Obj)} {σ : L2.St} {H : Hp} {s : Shared} {Q : VK} {us : List Value} {vs : List V} (F : FnG X.prog X.w X.K X.mg X.base CX k f fd ps sp) (hr : Room k X.A) (hG : NoG X.A) (hb : Binds X.K fd ps ds) (hd : Vals dvs ds) (hx : Passes CX X E)
    (I : Inv X pins σ H s) (r : Vals vs us) (h : sp (vs ++ dvs) H Q E) : wpAny (model X.prog X.w) X.A (call (.ref f) us) (EP X pins σ Q) X.xe s := by
  have r2 : Vals (vs ++ dvs) (us ++ ds) := r.append hd
  have hl : (us ++ ds).length = ps.length := r2.length.symm.trans (F.len _ _ _ _ h)
  refine wpAny_call (codeAny_mono (F.run X.A X.stack s H ⟨us, []⟩ (us ++ ds) (vs ++ dvs) Q E hr hG I.env0 (hb s us I.kIn hl) r2 h) fun r s' hq => ?_)
  match r, hq with
  | .error e, hq => exact hx pins σ H s e s' I hq
  | .ok (.ret u), hq => exact I.after hq
/-- f(e, ..) -/
theorem pe_callG (F : FnG X.prog X.w X.K X.mg X.base CX k f fd ps sp) (hr : Room k X.A) (hG : NoG X.A) (hg : Gl X x) (hm : X.mg x = some (.ref f)) (hk : PySem.W.keepIn X.K (.ref f) = true) (hb : Binds X.K fd ps ds) (hd : Vals dvs ds) (hx : Passes CX X E)
    (ha : PA X (e :: es) t) (hdb : (x == ("__debug__" : Str)) = false := by decide) (he : starEach (e :: es) X.env = (false, eval e X.env) :: starEach es X.env := by rfl) (hpl : (backTo pos (starEach es X.env)).any (·.1) = false := by rfl) :
    PE X (.Call (.Name x p) (e :: es) [] pos) (tCall sp dvs E t) :=
  ⟨fun pins s σ H Q I h => wpAny_Call_Name_kw (ld_glob I hg hm (PySem.W.callWith_K (h₀ := X.base) I.ok.mod.kin hk (thn (ha.run pos pins s σ H _ I h) fun us s1 ⟨vs, H1, I1, r, q⟩ => ⟨I1.kIn, run_fnG F hr hG hb hd hx I1 r q⟩) he hpl) hdb)⟩
end
end Tw

/-! ### the law's end -/
namespace Tw
open PySem PySem.Spec PyProof.Rows L2
theorem law_endG {P : Program} {w : World} {K : PySem.W.Frag} {mg mb : Str → Option Value} {CX : CXT} {k : Nat} {fa a : Addr} {fd : FuncData} {x : Str} {sp : Sp} {s : Shared} {vs : List Value} {ns : List Int}
    (KX : K.In s.heap) (hns : s.heap.Ns mainGlobals mg) (hb : s.heap.Ns builtinsNs mb) (hbb : ∀ x : Str, x ≠ "__name__" → mb x = bootBuiltins x) (hlim : s.heap.NoLimit) (hg : s.gens = #[])
    (ha : s.heap.get? a = some { cls := .type "list", data := .seq vs.toArray }) (hi : IntsAre vs ns) (hl : ns.length ≤ sizeLine) (hr : Room k callerA)
    (F : ∀ base : Heap, K.In base → base.Ns mainGlobals mg → FnG P w K mg base CX k fa fd [x] sp) (hbind : ∀ (s : Shared) (u : Value), BindsTo s fd ⟨[u], []⟩ [(x, u)])
    (hsp : ∀ H : Hp, Only H → SqL K H a (ns.map V.int) → sp [.ref a] H (fun v _ => v = .bl true) fun _ _ _ => False)
    (hCX : ∀ H e s', CX [] H s (fun _ _ _ => False) e s' → False) :
    codeAny (model P w) callerA (.call (.ref fa) ⟨[.ref a], []⟩) (fun r s' => r = .ok (.ret (.bool true)) ∧ OldK s.heap s'.heap ∧ s'.os = s.os ∧ AllBare s'.gens) s := by
  have rv := vals_ints hi
  have lv := hi.length
  have go : ∀ H : Hp, Only H → SqL K H a (ns.map V.int) → HOk P w H s.heap → (∀ b, H b ≠ none → b = a) → (H a ≠ none → K.lookup a = none) →
      codeAny (model P w) callerA (.call (.ref fa) ⟨[.ref a], []⟩) (fun r s' => r = .ok (.ret (.bool true)) ∧ OldK s.heap s'.heap ∧ s'.os = s.os ∧ AllBare s'.gens) s := by
    intro H hO hS hok hA hK
    have none_of : ∀ {b : Addr}, b ≠ a → H b = none := fun {b} hb => by
      cases q : H b with
      | none => rfl
      | some u => exact absurd (hA b (by rw [q]; exact Option.some_ne_none u)) hb
    have noD : ∀ {b : Addr} {o : Obj} {es : Array DictEntry} {ep : Nat}, s.heap.get? b = some o → o.data = .dict es ep → H b = none := fun {b o es ep} e d => none_of fun z => by
      rw [z, ha] at e
      have e2 := Option.some.inj e
      rw [← e2] at d
      cases d
    have nsK : ∀ {b : Addr} {m : Str → Option Value}, s.heap.Ns b m → (hidT s.heap H).Ns b m := fun {b m} ⟨o, es, ep, e, d, r⟩ => ⟨o, es, ep, hidT_get e (noD e d), d, r⟩
    have hKb : K.In (hidT s.heap H) := fun b o e => hidT_get (KX b o e) (by
      by_cases hb : b = a
      · cases q : H b with
        | none => rfl
        | some u =>
          subst hb
          have z := hK (by rw [q]; exact Option.some_ne_none u)
          rw [z] at e
          cases e
      · exact none_of hb)
    have hM : Mod K mg (hidT s.heap H) := ⟨hKb, nsK hns, ⟨mb, nsK hb, hbb⟩, hlim.elim fun mc z => ⟨mc, nsK z.1, z.2⟩⟩
    have e0 : Env0 P w K mg (hidT s.heap H) callerA [] s H := ⟨rfl, hM, fun b o e => of_hidT e, Nat.le_of_eq (hidT_size _ _), trivial, (fun b hb => nomatch hb), hok, .of_eq hg⟩
    refine codeAny_mono ((F _ hKb (nsK hns)).run callerA [] s H ⟨[.ref a], []⟩ [.ref a] [.ref a] _ _ hr rfl e0 (hbind s (.ref a)) (.cons rfl .nil) (hsp H hO hS)) fun r s' h => ?_
    match r, h with
    | .error e, h => exact (hCX H e s' h).elim
    | .ok (.ret u), h =>
      obtain ⟨v, H', os, bare, un, hok', rv', q⟩ := h
      have q' : v = .bl true := q
      subst q'
      obtain rfl : u = Value.bool true := rv'
      refine ⟨rfl, OldK.of_keep fun b o e => ?_, os, bare⟩
      cases q : H b with
      | none => exact un.keep b o e q (fun z => nomatch z) (fun z => nomatch z)
      | some u =>
        rcases hO b with z | ⟨ob, xs, z⟩
        · rw [q] at z
          cases z
        · obtain ⟨e1, _⟩ := hok b _ z
          obtain ⟨e2, _⟩ := hok' b _ (un.frzs b ob _ z)
          rw [e] at e1
          cases e1
          exact e2
  cases hk : K.lookup a with
  | some o =>
    have e := KX a o hk
    rw [ha] at e
    cases e
    exact go (fun _ => none) (fun _ => .inl rfl) (.inr ⟨_, vs.toArray, _, hk, rfl, rfl, rfl, by rw [List.size_toArray, lv]; exact hl, by simpa using rv⟩) (fun b u z => nomatch z) (fun b z => absurd rfl z) fun z => absurd rfl z
  | none =>
    have at1 : (fun b => if b = a then some (HO.frz { cls := .type "list", data := .seq vs.toArray } (.lst (ns.map V.int))) else none : Hp) a = some (HO.frz { cls := .type "list", data := .seq vs.toArray } (.lst (ns.map V.int))) := if_pos rfl
    refine go (fun b => if b = a then some (.frz { cls := .type "list", data := .seq vs.toArray } (.lst (ns.map V.int))) else none) (fun b => ?_) (.inl (.inr ⟨_, at1⟩)) (fun b u z => ?_) (fun b z => ?_) fun _ => hk
    · by_cases hb : b = a
      · exact .inr ⟨_, _, if_pos hb⟩
      · exact .inl (if_neg hb)
    · by_cases hb : b = a
      · subst hb
        rw [at1] at z
        cases z
        exact ⟨ha, by rw [List.length_map]; exact hl, vs, _, rv, ha⟩
      · have z' := (if_neg hb).symm.trans z
        cases z'
    · by_cases hb : b = a
      · exact hb
      · exact absurd (if_neg hb) z
theorem walk_ofG {l : PySem.W.OpenLaw} {n k : Nat} {q : Program} {loose : List Str} {XP : (Str → Option Value) → Heap → Prop} {YP : World → Heap → Prop} {d : DefRec} {K : Params → PySem.W.Frag} {CX : World → CXT} {sp : World → Sp} {x : Str}
    (hn : l.most = some n) (hn2 : n ≤ sizeLine) (hdf : d.params.defaults = []) (hr : Room k callerA) (hY : ∀ (w : World) (h : Heap), YP w h → (K w.params).In h)
    (F : ∀ (w : World) (mg : Str → Option Value) (fa : Addr) (h : Heap), (K w.params).In h → h.Ns mainGlobals mg → mg d.name = some (.ref fa) →
      ∃ fd : FuncData, (∀ (s : Shared) (u : Value), BindsTo s fd ⟨[u], []⟩ [(x, u)]) ∧ ∀ base : Heap, (K w.params).In base → base.Ns mainGlobals mg → FnG l.prog w (K w.params) mg base (CX w) k fa fd [x] (sp w))
    (hsp : ∀ (w : World) (H : Hp) (a : Addr) (ns : List Int), ns.length ≤ n → Only H → SqL (K w.params) H a (ns.map V.int) → sp w [.ref a] H (fun v _ => v = .bl true) fun _ _ _ => False)
    (hCX : ∀ (w : World) (H : Hp) (s : Shared) (e : Value) (s' : Shared), CX w [] H s (fun _ _ _ => False) e s' → False) :
    PySem.W.WalkO q loose XP YP l.row.toRowW d [] (fun f vs => PySem.call f vs) := by
  refine Att.attach_call hn hdf fun w s₀ s₁ mg mb fa o pm cd doc a vs ns G Y ho hd hcd hmg hobj hints hlen hg => ?_
  obtain ⟨fd, hb, hF⟩ := F w mg fa _ (hY w _ Y) G.T.g hmg
  exact law_endG (hY w _ Y) G.T.g G.T.b G.T.builtins G.T.nolimit hg hobj hints (Nat.le_trans hlen hn2) hr hF hb (fun H hO hS => hsp w H a ns hlen hO hS) fun H e s' => hCX w H s₁ e s'
end Tw
/-! Tw, part 2: repr of data. -/
namespace Tw
open PySem PySem.Spec PyProof.Rows L2

/-! ### how long a repr may be -/
mutual
def cap : PyData → Nat
  | .none => 4
  | .bool _ => 5
  | .int _ => 1921
  | .str x => 10 * x.length + 2
  | .list xs => 2 + capAll xs
  | .tuple xs => 3 + capAll xs
  | .dict kvs => 2 + capKv kvs
def capAll : List PyData → Nat
  | [] => 0
  | x :: xs => cap x + 2 + capAll xs
def capKv : List (PyData × PyData) → Nat
  | [] => 0
  | (k, v) :: r => cap k + 4 + cap v + capKv r
end
mutual
/-- ints of moderate size, texts of plain signs -/
def mild : PyData → Bool
  | .none | .bool _ => true
  | .int i => decide (i.natAbs.log2 < 1920)
  | .str x => x.cps.toList.all fun c => decide (c < 16 ^ 8)
  | .list xs | .tuple xs => mildAll xs
  | .dict kvs => mildKv kvs
def mildAll : List PyData → Bool
  | [] => true
  | x :: xs => mild x && mildAll xs
def mildKv : List (PyData × PyData) → Bool
  | [] => true
  | (k, v) :: r => mild k && (mild v && mildKv r)
end
mutual
theorem mild_show : ∀ d : PyData, mild d = true → d.showable = true
  | .none, _ => rfl
  | .bool _, _ => rfl
  | .str _, _ => rfl
  | .int i, h => by simpa [mild, PyData.showable] using h
  | .list xs, h => by
    simp only [PyData.showable]
    exact mild_showAll xs (by simpa [mild] using h)
  | .tuple xs, h => by
    simp only [PyData.showable]
    exact mild_showAll xs (by simpa [mild] using h)
  | .dict kvs, h => by
    simp only [PyData.showable]
    exact mild_showKv kvs (by simpa [mild] using h)
theorem mild_showAll : ∀ xs : List PyData, mildAll xs = true → PyData.showableAll xs = true
  | [], _ => rfl
  | x :: xs, h => by
    have h2 := Bool.and_eq_true_iff.mp (show (mild x && mildAll xs) = true by simpa [mildAll] using h)
    simp only [PyData.showableAll, mild_show x h2.1, mild_showAll xs h2.2, Bool.and_self]
theorem mild_showKv : ∀ kvs : List (PyData × PyData), mildKv kvs = true → PyData.showableKv kvs = true
  | [], _ => rfl
  | (k, v) :: r, h => by
    have h2 := Bool.and_eq_true_iff.mp (show (mild k && (mild v && mildKv r)) = true by simpa [mildKv] using h)
    have h3 := Bool.and_eq_true_iff.mp h2.2
    simp only [PyData.showableKv, mild_show k h2.1, mild_show v h3.1, mild_showKv r h3.2, Bool.and_self]
end
theorem textFrom_le : ∀ (ts : List Str) (k : Nat) (acc : Str), (textFrom k acc ts).length ≤ acc.length + piled ts
  | [], k, acc => by
    show acc.length ≤ acc.length + _
    omega
  | t :: r, k, acc => by
    have ih := textFrom_le r (k + 1) (acc ++ (if k > 0 then ", " else "" : String) ++ t)
    rw [piled_cons]
    show (textFrom (k + 1) (acc ++ (if k > 0 then ", " else "" : String) ++ t) r).length ≤ _
    rw [strLen_append, strLen_append] at ih
    have e : (Str.ofString (if k > 0 then ", " else "" : String)).length ≤ 2 := by
      by_cases hk : k > 0
      · rw [if_pos hk]; decide
      · rw [if_neg hk]; decide
    have e' : ((if k > 0 then ", " else "" : String) : Str).length ≤ 2 := e
    omega
theorem join_le (ts : List Str) : (Str.join ", " ts).length ≤ piled ts := by
  by_cases h : ts = []
  · subst h
    decide
  · have := join_length_add ts h
    omega
theorem piled_le : ∀ (xs : List PyData) (ts : List Str), ts.length = xs.length → (∀ (i : Nat) (x : PyData) (t : Str), xs[i]? = some x → ts[i]? = some t → t.length ≤ cap x) → piled ts ≤ capAll xs
  | [], [], _, _ => Nat.le_refl _
  | x :: xs, t :: ts, hl, h => by
    have h1 := h 0 x t rfl rfl
    have h2 := piled_le xs ts (by simpa using hl) fun i y u e1 e2 => h (i + 1) y u (by simpa using e1) (by simpa using e2)
    rw [piled_cons]
    simp only [capAll]
    omega
  | [], _ :: _, hl, _ => by simp at hl
  | _ :: _, [], hl, _ => by simp at hl
mutual
theorem shown_le : ∀ d : PyData, mild d = true → d.shown.length ≤ cap d
  | .none, _ => by simp only [PyData.shown, cap]; decide
  | .bool b, _ => by
    simp only [PyData.shown, cap]
    cases b <;> decide
  | .int i, h => by
    have h2 : i.natAbs.log2 < 1920 := by simpa [mild] using h
    have e := int_text_length_le (a := i) (k := 1920) (by decide) h2
    simp only [PyData.shown, cap]
    show (Str.ofString (toString i)).length ≤ 1921
    rw [PySem.ofString_length]
    exact e
  | .str x, h => by
    simp only [PyData.shown, cap]
    exact PySem.StrLaws.reprText_len x fun c hc => of_decide_eq_true (List.all_eq_true.mp (show (x.cps.toList.all fun c => decide (c < 16 ^ 8)) = true by simpa [mild] using h) c hc)
  | .list xs, h => by
    have h2 := shownAll_le xs (by simpa [mild] using h)
    simp only [PyData.shown, cap]
    have e := textFrom_le (PyData.shownAll xs) 0 "["
    unfold listText
    rw [strLen_append]
    have e1 : ("[" : Str).length = 1 := by decide
    have e2 : ("]" : Str).length = 1 := by decide
    omega
  | .tuple xs, h => by
    have h2 := shownAll_le xs (by simpa [mild] using h)
    simp only [PyData.shown, cap]
    have e := join_le (PyData.shownAll xs)
    unfold tupleText
    rw [strLen_append, strLen_append]
    have e1 : ("(" : Str).length = 1 := by decide
    have e2 : ((if (PyData.shownAll xs).length == 1 then ",)" else ")" : String) : Str).length ≤ 2 := by
      cases (PyData.shownAll xs).length == 1 <;> decide
    omega
  | .dict kvs, h => by
    have h2 := shownKv_le kvs (by simpa [mild] using h)
    simp only [PyData.shown, cap]
    have e := join_le (PyData.shownKv kvs)
    unfold dictText
    rw [strLen_append, strLen_append]
    have e1 : ("{" : Str).length = 1 := by decide
    have e2 : ("}" : Str).length = 1 := by decide
    omega
theorem shownAll_le : ∀ xs : List PyData, mildAll xs = true → piled (PyData.shownAll xs) ≤ capAll xs
  | [], _ => by simp only [PyData.shownAll, capAll]; decide
  | x :: xs, h => by
    have h2 := Bool.and_eq_true_iff.mp (show (mild x && mildAll xs) = true by simpa [mildAll] using h)
    have a := shown_le x h2.1
    have b := shownAll_le xs h2.2
    simp only [PyData.shownAll, capAll, piled_cons]
    omega
theorem shownKv_le : ∀ kvs : List (PyData × PyData), mildKv kvs = true → piled (PyData.shownKv kvs) ≤ capKv kvs
  | [], _ => by simp only [PyData.shownKv, capKv]; decide
  | (k, v) :: r, h => by
    have h2 := Bool.and_eq_true_iff.mp (show (mild k && (mild v && mildKv r)) = true by simpa [mildKv] using h)
    have h3 := Bool.and_eq_true_iff.mp h2.2
    have a := shown_le k h2.1
    have b := shown_le v h3.1
    have c := shownKv_le r h3.2
    simp only [PyData.shownKv, capKv, piled_cons]
    rw [strLen_append, strLen_append]
    have e1 : (": " : Str).length = 2 := by decide
    omega
end

/-! ### data in the abstract heap, with flat dicts -/
def keyD : Key → PyData
  | .inl i => .int i
  | .inr x => .str x
mutual
inductive Dx (K : PySem.W.Frag) (H : Hp) : V → PyData → Prop
  | non : Dx K H .non .none
  | bl (b : Bool) : Dx K H (.bl b) (.bool b)
  | int (i : Int) : Dx K H (.int i) (.int i)
  | str (x : Str) : Dx K H (.str x) (.str x)
  | lst {a : Addr} {xs : List V} {ds : List PyData} : SqL K H a xs → a ≠ sysModules → DxAll K H xs ds → Dx K H (.ref a) (.list ds)
  | tup {a : Addr} {xs : List V} {ds : List PyData} : SqT K H a xs → DxAll K H xs ds → Dx K H (.ref a) (.tuple ds)
  | dic {a : Addr} {kvs : List (Key × V)} {ds : List PyData} : H a = some (.dK kvs) → DxAll K H (kvs.map (·.2)) ds → Dx K H (.ref a) (.dict ((kvs.map fun p => keyD p.1).zip ds))
inductive DxAll (K : PySem.W.Frag) (H : Hp) : List V → List PyData → Prop
  | nil : DxAll K H [] []
  | cons {v : V} {vs : List V} {d : PyData} {ds : List PyData} : Dx K H v d → DxAll K H vs ds → DxAll K H (v :: vs) (d :: ds)
end
section
variable {X : Cx} {pins : List (Addr × Obj)} {σ : L2.St} {H : Hp} {s : Shared}
theorem DxAll.len : ∀ {vs : List V} {ds : List PyData}, DxAll X.K H vs ds → vs.length = ds.length
  | [], _, .nil => rfl
  | _ :: _, _, .cons _ t => by
    have := DxAll.len t
    simp [this]
theorem readsAll_keys {h : Heap} : ∀ {kvs : List (Key × V)} {ws : List (Key × Value)} {es : List DictEntry}, KV kvs ws → Pairs (mixKind X.prog X.w) es ws → ReadsAll h (es.map (·.key)) (kvs.map fun p => keyD p.1) []
  | [], _, _, .nil, .nil => .nil
  | (k, v) :: kvs, (k', u) :: ws, e :: es, .cons r t, .cons a b q => by
    obtain ⟨r1, r2⟩ := r
    have ih := readsAll_keys (h := h) t q
    have hk : keyIs k' e.key = true := a
    have r1' : k = k' := r1
    subst r1'
    rcases keyIs_shape hk with ⟨i, tk, e1, e2⟩ | ⟨x, tk, e1, e2⟩
    · subst e1
      show ReadsAll h (e.key :: es.map (·.key)) (PyData.int i :: _) ([] ++ [])
      rw [e2]
      exact .cons (.int i tk) ih
    · subst e1
      show ReadsAll h (e.key :: es.map (·.key)) (PyData.str x :: _) ([] ++ [])
      rw [e2]
      exact .cons (.str x tk) ih
theorem vals_of_pairs : ∀ {kvs : List (Key × V)} {ws : List (Key × Value)} {es : List DictEntry}, KV kvs ws → Pairs (mixKind X.prog X.w) es ws → Vals (kvs.map (·.2)) (es.map (·.val))
  | [], _, _, .nil, .nil => .nil
  | (k, v) :: kvs, (k', u) :: ws, e :: es, .cons r t, .cons a b q => by
    obtain ⟨r1, r2⟩ := r
    refine .cons ?_ (vals_of_pairs t q)
    have b' : e.val = u := b
    show RelV v e.val
    rw [b']
    exact r2
theorem map_fst_zip' {α β : Type} : ∀ {l : List α} {m : List β}, l.length = m.length → (l.zip m).map (·.1) = l
  | [], [], _ => rfl
  | _ :: l, _ :: m, h => by
    have := map_fst_zip' (l := l) (m := m) (by simpa using h)
    simp [this]
  | [], _ :: _, h => by simp at h
  | _ :: _, [], h => by simp at h
theorem map_snd_zip' {α β : Type} : ∀ {l : List α} {m : List β}, l.length = m.length → (l.zip m).map (·.2) = m
  | [], [], _ => rfl
  | _ :: l, _ :: m, h => by
    have := map_snd_zip' (l := l) (m := m) (by simpa using h)
    simp [this]
  | [], _ :: _, h => by simp at h
  | _ :: _, [], h => by simp at h
mutual
theorem Dx.reads (I : Inv X pins σ H s) : ∀ {v : V} {d : PyData} {u : Value}, Dx X.K H v d → RelV v u → ∃ as, Reads s.heap u d as ∧ sysModules ∉ as
  | _, _, _, .non, r => by
    cases r
    exact ⟨_, Reads.none, fun z => nomatch z⟩
  | _, _, _, .bl b, r => by
    cases r
    exact ⟨_, Reads.bool b, fun z => nomatch z⟩
  | _, _, _, .int i, r => by
    obtain ⟨t, rfl⟩ := r
    exact ⟨_, Reads.int i t, fun z => nomatch z⟩
  | _, _, _, .str x, r => by
    obtain ⟨t, rfl⟩ := r
    exact ⟨_, Reads.str x t, fun z => nomatch z⟩
  | _, _, _, .lst (a := a) hs hne ha, r => by
    cases r
    obtain ⟨its, rv, ⟨o, n, ho, hc, _, hd⟩, _⟩ := I.list hs
    obtain ⟨as, hr, hn⟩ := DxAll.reads I ha rv
    refine ⟨_, Reads.list ho hc hd hr, fun z => ?_⟩
    rcases List.mem_cons.mp z with z | z
    · exact hne z.symm
    · exact hn z
  | _, _, _, .tup hs ha, r => by
    cases r
    obtain ⟨its, rv, ⟨o, ho, hc, n, hd⟩, _⟩ := I.tuple hs
    obtain ⟨as, hr, hn⟩ := DxAll.reads I ha rv
    exact ⟨_, Reads.tuple ho hc hd hr, hn⟩
  | _, _, _, .dic (kvs := kvs) hs ha, r => by
    cases r
    obtain ⟨_, hsys, ws, hkv, o, es, ep, ho, hx, hd, _, hp, _⟩ := I.hok _ _ hs
    have hl := DxAll.len (X := X) ha
    have rv := vals_of_pairs (X := X) hkv hp
    obtain ⟨as, hr, hn⟩ := DxAll.reads I ha rv
    have hk := readsAll_keys (h := s.heap) hkv hp
    refine ⟨_, Reads.dict ho hx.1 hd (as := []) (bs := as) (by rw [map_fst_zip' (by rw [List.length_map, ← hl, List.length_map])]; exact hk) (by rw [map_snd_zip' (by rw [List.length_map, ← hl, List.length_map])]; exact hr), fun z => ?_⟩
    rcases List.mem_cons.mp (by simpa using z) with z | z
    · rw [← z] at hsys
      simp at hsys
    · exact hn z
theorem DxAll.reads (I : Inv X pins σ H s) : ∀ {vs : List V} {ds : List PyData} {us : List Value}, DxAll X.K H vs ds → Vals vs us → ∃ as, ReadsAll s.heap us ds as ∧ sysModules ∉ as
  | _, _, _, .nil, .nil => ⟨_, .nil, fun z => nomatch z⟩
  | _, _, _, .cons h t, .cons r q => by
    obtain ⟨as, h1, n1⟩ := Dx.reads I h r
    obtain ⟨bs, h2, n2⟩ := DxAll.reads I t q
    exact ⟨_, .cons h1 h2, fun z => (List.mem_append.mp z).elim n1 n2⟩
end
end
end Tw

/-! ### the rules -/
namespace Tw
open PySem PySem.Spec PyProof.Rows L2
theorem boot_repr : bootBuiltins "repr" = some (.builtin "repr") := by decide +kernel
section
variable {X : Cx}
/-- repr(x), x a list or a tuple of data -/
def rRepr (K : PySem.W.Frag) : List V → Hp → VK → Prop := fun xs H Q => ∃ (a : Addr) (d : PyData), xs = [.ref a] ∧ Dx K H (.ref a) d ∧ mild d = true ∧ d.depth ≤ 64 ∧ cap d ≤ 16777216 ∧ Q (.str d.shown) H
theorem call_repr (hG : NoG X.A) (hu : X.A.units + 70 < cLine) : CallR X (.builtin "repr") (rRepr X.K) := by
  intro pins s σ H xs us Q I r h
  obtain ⟨a, d, rfl, hd, hm, hdp, hc, q⟩ := h
  obtain ⟨u, rfl, ru⟩ := vals1 r
  obtain ⟨as, hr, hn⟩ := Dx.reads I hd ru
  cases (show u = Value.ref a from ru)
  exact repr_of_reads' hr (mild_show d hm) (fun _ => hn) hG (by omega) (fun _ _ e => e) (fun h' u tk hk => ⟨.str d.shown, H, I.kept (t' := tk) hk, ⟨_, rfl⟩, q⟩) (Nat.le_trans (shown_le d hm) (by rw [sizeLine_eq]; exact hc))
mutual
theorem dp_reads {pins : List (Addr × Obj)} {σ : L2.St} {H : Hp} {s : Shared} (I : Inv X pins σ H s) : ∀ {v : V} {d : PyData}, Dp X.K H v d → d.hasDict = false
  | _, _, .non => by simp only [PyData.hasDict]
  | _, _, .bl _ => by simp only [PyData.hasDict]
  | _, _, .int _ => by simp only [PyData.hasDict]
  | _, _, .str _ => by simp only [PyData.hasDict]
  | _, _, .lst _ ha => by
    simp only [PyData.hasDict]
    exact dpAll_reads I ha
  | _, _, .tup _ ha => by
    simp only [PyData.hasDict]
    exact dpAll_reads I ha
theorem dpAll_reads {pins : List (Addr × Obj)} {σ : L2.St} {H : Hp} {s : Shared} (I : Inv X pins σ H s) : ∀ {vs : List V} {ds : List PyData}, DpAll X.K H vs ds → PyData.hasDictAll ds = false
  | _, _, .nil => by simp only [PyData.hasDictAll]
  | _, _, .cons h t => by simp only [PyData.hasDictAll, dp_reads I h, dpAll_reads I t, Bool.or_self]
end
def rReprD (K : PySem.W.Frag) : List V → Hp → VK → Prop := fun xs H Q => ∃ (a : Addr) (d : PyData), xs = [.ref a] ∧ Dp K H (.ref a) d ∧ mild d = true ∧ d.depth ≤ 64 ∧ cap d ≤ 16777216 ∧ Q (.str d.shown) H
theorem call_reprD (hG : NoG X.A) (hu : X.A.units + 70 < cLine) : CallR X (.builtin "repr") (rReprD X.K) := by
  intro pins s σ H xs us Q I r h
  obtain ⟨a, d, rfl, hd, hm, hdp, hc, q⟩ := h
  obtain ⟨u, rfl, ru⟩ := vals1 r
  obtain ⟨as, hr⟩ := Dp.reads I d _ u hd ru
  cases (show u = Value.ref a from ru)
  exact repr_of_reads' hr (mild_show d hm) (PyData.noDict_hsm (dp_reads I hd)) hG (by omega) (fun _ _ e => e) (fun h' u tk hk => ⟨.str d.shown, H, I.kept (t' := tk) hk, ⟨_, rfl⟩, q⟩) (Nat.le_trans (shown_le d hm) (by rw [sizeLine_eq]; exact hc))
/-! ### lists that are known to stand elsewhere than the table of modules -/
variable {es : List Expr} {t : TA} {pos : Pos}
def tLstB (t : TA) : TE := fun σ H Q => t σ H fun xs H1 => xs.length ≤ sizeLine ∧ ∀ p, H1 p = none → p ≠ sysModules → Q (.ref p) (upd H1 p (.lst xs))
theorem pe_lstB (h : PA X es t) : PE X (.List es pos) (tLstB t) := by
  refine ⟨fun pins s σ H Q I hq => wpAny_List_spliced (thn (h.run pos pins s σ H _ I hq) fun us s1 ⟨xs, H1, I1, r, z, q⟩ => ⟨by rw [← r.length]; exact z, ?_⟩)⟩
  exact ⟨.ref s1.heap.objs.size, upd H1 s1.heap.objs.size (.lst xs), I1.laid (t' := s1.toks) (fun b u e => Heap.get?_push_of_some _ e) (Nat.le_refl _) ⟨z, us, 0, r, Heap.get?_push_size _ rfl⟩, rfl, q _ (I1.hok.fresh (Nat.le_refl _)) (Nat.ne_of_gt I1.big)⟩
def rCatB : R2 := fun x y H Q => ∃ l b xs zs, x = .ref l ∧ y = .ref b ∧ H l = some (.lst xs) ∧ H b = some (.lst zs) ∧ xs.length + zs.length ≤ sizeLine ∧ ∀ p, H p = none → p ≠ sysModules → Q (.ref p) (upd H p (.lst (xs ++ zs)))
theorem op_catB : OpR X (binaryOp .Add) rCatB := by
  intro pins s σ H x y v u Q I rx ry h
  obtain ⟨l, b, xs, zs, rfl, rfl, hH, hB, hz, q⟩ := h
  cases rx
  cases ry
  obtain ⟨z, its, n, r, hl, e⟩ := I.lstM hH
  obtain ⟨z2, its2, n2, r2, hl2, e2⟩ := I.lstM hB
  refine PySem.P.add_list e e2 ?_ (by rw [List.size_toArray, List.size_toArray]; omega)
  rw [show its.toArray ++ its2.toArray = (its ++ its2).toArray by simp]
  exact ⟨.ref _, _, I.lnew (t' := s.toks) (r.append r2) (by rw [List.length_append]; omega), rfl, q _ I.fresh (Nat.ne_of_gt I.big)⟩
end
end Tw
/-! Tw, part 3: errors of own classes as values. -/
namespace Tw
open PySem PySem.Spec PyProof.Rows L2

/-- at a: an error of the class at C (made or caught), its own dict at d -/
def exT (a C : Addr) (d : Option Addr) : HO := .ext fun h => ∃ (oe : Obj) (vs : Array Value), h.get? a = some oe ∧ Zc (.ref C) d oe ∧ oe.data = .fields vs
theorem exT_ok {P : Program} {w : World} {H : Hp} {h : Heap} {a C : Addr} {d : Option Addr} {oe : Obj} {vs : Array Value} (e : h.get? a = some oe) (z : Zc (.ref C) d oe) (hd : oe.data = .fields vs) : ObjOk P w H h a (exT a C d) :=
  ⟨⟨oe, vs, e, z, hd⟩, ⟨oe, e⟩, fun _ _ ⟨o, v, q, r⟩ k => ⟨o, v, k o q, r⟩⟩
def IsX (H : Hp) (a C : Addr) (d : Option Addr) : Prop := H a = some (exo a C d) ∨ H a = some (exT a C d)
def IsXd (H : Hp) (d : Addr) (fs : List (Str × V)) : Prop := H d = some (exd d fs) ∨ H d = some (.xd fs)
theorem IsX.get {P : Program} {w : World} {H : Hp} {h : Heap} {a C : Addr} {d : Option Addr} (hok : HOk P w H h) (x : IsX H a C d) : ∃ (oe : Obj) (vs : Array Value), h.get? a = some oe ∧ Zc (.ref C) d oe ∧ oe.data = .fields vs := by
  rcases x with e | e
  · obtain ⟨t1, q⟩ := exo_at hok e
    exact ⟨_, _, q, ⟨rfl, rfl⟩, rfl⟩
  · have x : ObjOk P w H h a (.ext fun h => ∃ (oe : Obj) (vs : Array Value), h.get? a = some oe ∧ Zc (.ref C) d oe ∧ oe.data = .fields vs) := hok a _ e
    exact x.1
theorem IsXd.get {P : Program} {w : World} {H : Hp} {h : Heap} {d : Addr} {fs : List (Str × V)} (hok : HOk P w H h) (x : IsXd H d fs) : ∃ mA, h.Ns1 d mA ∧ ∀ f, RelO (fs.lookup f) (mA f) := by
  rcases x with e | e
  · exact exd_at hok e
  · exact (show ObjOk P w H h d (.xd fs) from hok d _ e)
theorem IsX.same {H H' : Hp} {a C : Addr} {d : Option Addr} (e : Same H H') (x : IsX H a C d) : IsX H' a C d := x.imp (e _ _) (e _ _)
theorem IsXd.same {H H' : Hp} {d : Addr} {fs : List (Str × V)} (e : Same H H') (x : IsXd H d fs) : IsXd H' d fs := x.imp (e _ _) (e _ _)

/-- what the written part says of an error class -/
structure XC (K : PySem.W.Frag) (C : Addr) : Prop where
  ox : OexC K C
  ga : PySem.W.findIn K (.ref C) "__getattribute__" = some (some (.builtin "BaseException.__getattribute__"))
  gg : PySem.W.findIn K (.ref C) "__getattr__" = some none
  hd : PySem.W.hasDictIn K C = true
  ca : PySem.W.findIn K (.ref C) "__class__" = some (some (.builtin "object.__class__"))
  cm : PySem.W.mroIn K C (.type "object") = some true
/-- what it says of object.__class__ -/
structure XO (K : PySem.W.Frag) : Prop where
  hn : PySem.W.specialIn K (.builtin "object.__class__") "__get__" = some (some (.builtin "getset_descriptor.__get__"))
  ht : PySem.W.takesIn K (.builtin "object.__class__") = some true
theorem oexC_cl {K : PySem.W.Frag} {C : Addr} (T : OexC K C) : (PySem.W.clsIn K C).isSome = true := by
  obtain ⟨nm, q, N, bs, bm, sn, sub, ab, col, dd, k0, k1, k2, k3, k5, hC, _⟩ := T.cls
  unfold PySem.W.clsIn
  rw [hC]
  rfl
section
variable {X : Cx} {CX : CXT} {k : Nat} {fI C : Addr} {fd : FuncData} {ps : List Str} {sp : Sp} {dvs : List V} {ds : List Value} {E : XK} {x f : Str} {p pos : Pos} {e : Expr} {es : List Expr} {ta : TA} {te : TE}
/-- C(e, ..) as a value, C an error class whose __init__ keeps sp -/
def tMkX (C : Addr) (sp : Sp) (dvs : List V) (ta : TA) : TE := fun σ H Q => ta σ H fun vs H1 => vs.length ≤ 1000 ∧ ∀ a, H1 a = none → sp (.ref a :: (vs ++ dvs)) (upd H1 a (exo a C none)) (fun v H2 => v = .non ∧ Q (.ref a) H2) (fun _ _ _ => False)
theorem pe_mkX (T : OexC X.K C) (iC : PySem.W.findIn X.K (.ref C) "__init__" = some (some (.ref fI))) (tI : PySem.W.typeIn X.K (.ref fI) = some (.type "function"))
    (F1 : FnOk X.prog X.w X.K X.mg X.base CX k fI fd ps sp) (hr : Room (k + 1) X.A) (hb : Binds X.K fd ps ds) (hd : Vals dvs ds) (hx : Passes CX X (fun _ _ _ => False)) (hg : Gl X x) (hm : X.mg x = some (.ref C)) (ha : PA X (e :: es) ta)
    (hdb : (x == ("__debug__" : Str)) = false := by decide) (he : starEach (e :: es) X.env = (false, eval e X.env) :: starEach es X.env := by rfl) (hpl : (backTo pos (starEach es X.env)).any (·.1) = false := by rfl) :
    PE X (.Call (.Name x p) (e :: es) [] pos) (tMkX C sp dvs ta) := by
  refine ⟨fun pins s σ H Q I h => ?_⟩
  obtain ⟨nm, q, N, bs, bm, sn, sub, ab, col, dd, k0, k1, k2, k3, k5, hC, hbm⟩ := T.cls
  refine wpAny_Call_Name_kw (ld_glob I hg hm ?_ hdb)
  refine PySem.W.callWith_K (h₀ := X.base) I.ok.mod.kin T.kC (thn (ha.run pos pins s σ H _ I h) fun us s1 ⟨vs, H1, I1, r1, hz, q1⟩ => ⟨I1.kIn, ?_⟩) he hpl
  show wpAny _ _ (call (.ref C) us) _ _ _
  obtain ⟨hp, g, dr, tk, os⟩ := s1
  have hsz : hp.objs.size ≤ hp.objs.size + 1 := Nat.le_succ _
  have hq := q1 (hp.objs.size + 1) (I1.hok.fresh hsz)
  have kk : ∀ b o, hp.get? b = some o → ((hp.push (PySem.W.kdv_tup us)).push (PySem.HandSPX.excO C hp.objs.size)).get? b = some o := fun b o z => Heap.get?_push_of_some _ (Heap.get?_push_of_some _ z)
  have hget : ((hp.push (PySem.W.kdv_tup us)).push (PySem.HandSPX.excO C hp.objs.size)).get? (hp.objs.size + 1) = some (PySem.HandSPX.excO C hp.objs.size) := by heap_get
  have I2 := I1.laid (t' := tk) (a := hp.objs.size + 1) (o := exo (hp.objs.size + 1) C none) (h' := (hp.push (PySem.W.kdv_tup us)).push (PySem.HandSPX.excO C hp.objs.size)) kk hsz (exo_ok hget)
  have r2 : Vals (V.ref (hp.objs.size + 1) :: (vs ++ dvs)) (Value.ref (hp.objs.size + 1) :: (us ++ ds)) := .cons rfl (r1.append hd)
  have hl : (Value.ref (hp.objs.size + 1) :: us ++ ds).length = ps.length := r2.length.symm.trans (F1.len _ _ _ _ hq)
  have hus : us.length ≤ sizeLine := by
    rw [← Paired.length r1, sizeLine_eq]
    omega
  refine wpAny_call (PySem.HandSPX.call_own F.excBase_ValueError (fun Y => PySem.HandSPX.refsVE_contains Y bm hbm) (I1.kIn _ _ hC) (PySem.W.looks_findIn I1.kIn iC) (fun self => PySem.W.bind_fn I1.kIn self tI) hus
    (codeAny_mono (F1.run _ X.stack _ _ ⟨Value.ref (hp.objs.size + 1) :: us, []⟩ (Value.ref (hp.objs.size + 1) :: (us ++ ds)) _ _ (fun _ _ _ => False) (hr.make C us []) (I2.env0.make C us []) (hb _ (Value.ref (hp.objs.size + 1) :: us) I2.kIn hl) r2 hq) fun r s' hq' => ?_))
  match r, hq' with
  | .error er, hq' => exact hx pins σ _ _ er s' I2 hq'
  | .ok (.ret u), hq' =>
    obtain ⟨v, H2, os2, bare2, un2, hok2, rv, ev, q2⟩ := hq'
    subst ev
    obtain ⟨h2, g2, d2, t2, os'⟩ := s'
    obtain rfl : os' = os := os2
    exact ⟨rv, .ref (hp.objs.size + 1), H2, I2.call (h' := h2) (g' := g2) (d' := d2) (t' := t2) (ch := []) un2 hok2 bare2 (fun b z => nomatch z), rfl, q2⟩
/-- e.f, e an error -/
def tXfld (K : PySem.W.Frag) (f : Str) (te : TE) : TE := fun σ H Q => te σ H fun x H1 => ∃ (a C d : Addr) (fs : List (Str × V)) (v : V), x = .ref a ∧ IsX H1 a C (some d) ∧ XC K C ∧ PySem.W.findIn K (.ref C) f = some none ∧ IsXd H1 d fs ∧ fs.lookup f = some v ∧ Q v H1
theorem pe_xfld (he : PE X e te) (hb : attributeBase e f X.env (eval e X.env) = eval e X.env := by rfl) : PE X (.Attribute e f pos) (tXfld X.K f te) := by
  refine ⟨fun pins s σ H Q I h => attr_of hb (thn (he.run pins s σ H _ I h) fun u s1 hh => ?_)⟩
  obtain ⟨x, H1, I1, rx, a, C, d, fs, v, ex, ia, T, hno, idd, hl, q⟩ := hh
  subst ex
  obtain rfl : u = Value.ref a := rx
  obtain ⟨oe, vs, ho, hz, hdt⟩ := ia.get I1.hok
  obtain ⟨mA, hns, hr⟩ := idd.get I1.hok
  obtain ⟨od, hod, hlk⟩ := lookIn_ns hns
  obtain ⟨u, hu, ru⟩ := RelO.some_of (v := v) (o := mA f) (by rw [← hl]; exact hr f)
  have J : PySem.W.InstAt s1.heap a oe C (some od) := ⟨ho, hz.1, by unfold PySem.W.notCls; rw [hdt] <;> rfl, by rw [hz.2]; exact hod⟩
  exact HandSPX.exc_get I1.kIn J T.ga T.gg T.ox.exC (PySem.W.findObj_own T.hd hno rfl (by rw [hlk, hu])) (handed_of ru) ⟨v, H1, I1.tok _, ru, q⟩
/-- isinstance(x, c), x anything that is known, errors too -/
def rIsA (K : PySem.W.Frag) : List V → Hp → VK → Prop := fun xs H Q => ∃ (x c : V) (t u : Value) (b : Bool), xs = [x, c] ∧ ClsV c u ∧ (TyX K H x t ∨ ∃ (a C : Addr) (d : Addr) (fs : List (Str × V)), x = .ref a ∧ t = .ref C ∧ IsX H a C (some d) ∧ IsXd H d fs ∧ XC K C ∧ XO K) ∧ PySem.W.kitOne K t u = some b ∧ Q (.bl b) H
theorem call_isA : CallR X (.builtin "isinstance") (rIsA X.K) := by
  intro pins s σ H xs us Q I r h
  obtain ⟨x, c, t, u, b, rfl, k, ty, e, q⟩ := h
  obtain ⟨u1, u2, rfl, r1, r2⟩ := vals2 r
  have e2 := k.eq r2
  subst e2
  rcases ty with ty | ⟨a, C, d, fs, rfl, rfl, ia, idd, T, O⟩
  · obtain ⟨P, Z, p, hx⟩ := kit_of I r1 ty
    exact PySem.W.kia_one Z I.kIn p e hx fun tk => ⟨.bl b, H, I.tok tk, rfl, q⟩
  · cases (show u1 = Value.ref a from r1)
    obtain ⟨oe, vs, ho, hz, hdt⟩ := ia.get I.hok
    obtain ⟨mA, hns, hr⟩ := idd.get I.hok
    obtain ⟨od, hod, hlk⟩ := lookIn_ns hns
    have J : PySem.W.InstAt s.heap a oe C (some od) := ⟨ho, hz.1, by unfold PySem.W.notCls; rw [hdt] <;> rfl, by rw [hz.2]; exact hod⟩
    exact PySem.W.kia_one (PySem.W.kitx_exc (od := some od) (oexC_cl T.ox) T.ga T.gg T.ox.exC T.ca O.hn O.ht T.cm) I.kIn J e (fun z => nomatch z) fun tk => ⟨.bl b, H, I.tok tk, rfl, q⟩
end
end Tw
/-! Tw: try: body, except x as n: suite, the caught error tracked behind the suite. -/
namespace Tw
open PySem PySem.Spec PyProof.Rows L2
section
variable {X : Cx} {pins : List (Addr × Obj)} {σ : L2.St} {H : Hp} {s : Shared}
/-- a pinned error of ours becomes a tracked one -/
theorem track {a C : Addr} {d : Option Addr} {oe : Obj} {vs : Array Value} (I : Inv X ((a, oe) :: pins) σ H s) (h0 : X.s_0.heap.get? a = none) (hne : ∀ p ∈ X.pn ++ pins, p.1 ≠ a) (hz : Zc (.ref C) d oe) (hd : oe.data = .fields vs) :
    Inv X pins σ (upd H a (exT a C d)) s := by
  obtain ⟨ha, na, nL, nF, nC⟩ := I.pin (a, oe) (List.mem_append_right _ List.mem_cons_self)
  have ne : ∀ {b : Addr} {u : HO}, H b = some u → b ≠ a := fun e => ne_of_none e na
  refine ⟨I.ok, I.os, I.bare, ⟨I.base.keep, I.base.slot, fun b o e n hx => ?_, I.base.there, fun b xs e => ?_, fun b o u e => ?_, fun b ps e => ?_⟩, I.loc, I.cell, ?_, fun x c e => ?_, fun p hp => ?_, fun b u e => ?_, I.len⟩
  · rw [upd_ne (fun z => by rw [z, h0] at e; cases e)]
    exact I.base.free b o e n hx
  · have q := I.base.tups b xs e
    rw [upd_ne (ne q)]
    exact q
  · have q := I.base.frzs b o u e
    rw [upd_ne (ne q)]
    exact q
  · obtain ⟨m, q⟩ := I.base.tbls b ps e
    exact ⟨m, by rw [upd_ne (ne q)]; exact q⟩
  · rw [upd_ne (Ne.symm nL)]
    exact I.free
  · obtain ⟨v, o, ho, hv⟩ := I.cell x c e
    rw [upd_ne (fun z => by
      have z' : c = a := z
      rw [z'] at ho
      have ha' : s.heap.get? a = some oe := ha
      rw [ha'] at ho
      cases ho
      exact nC v hv)]
    exact I.freeC x c e
  · obtain ⟨e1, e2, e3⟩ := I.pin p (by
      rcases List.mem_append.mp hp with z | z
      · exact List.mem_append_left _ z
      · exact List.mem_append_right _ (List.mem_cons_of_mem _ z))
    exact ⟨e1, by rw [upd_ne (hne p hp)]; exact e2, e3⟩
  · by_cases hb : b = a
    · subst hb
      rw [upd_same] at e
      cases e
      exact exT_ok ha hz hd
    · rw [upd_ne hb] at e
      exact (I.hok b u e).stay (fun _ _ _ q => q) (fun c q => by rw [upd_ne (ne q)]; exact q) fun c xs q => by rw [upd_ne (ne q)]; exact q
end
/-- what the clause wishes: its error stands tracked behind the suite -/
def wAsK (K : PySem.W.Frag) (c : Value) (i : Nat) (ts : Addr → Value → Option Addr → TS) (Wout : WX) (D : Ends) : WX := fun cls d σ H =>
  ∃ (C : Addr) (b : Bool), cls = .ref C ∧ PySem.W.exmOne K cls c = some b ∧ (b = true → ∀ a, H a = none → ts a cls d { nx := fun σ' H' => D.nx (σ'.set i none) (upd H' a (exT a C d)), rt := D.rt, bk := fun σ' H' => D.bk (σ'.set i none) H', ct := fun σ' H' => D.ct (σ'.set i none) H' } (σ.set i (some (.ref a))) H) ∧
    (b = false → Wout cls d σ H)
section
variable {X : Cx} {x n : Str} {c : Value} {i : Nat} {body suite : List Stmt} {b₀ : Stmt} {np pos pos' : Pos} {tb : WX → TS} {ts : Addr → Value → Option Addr → TS} {Wout : WX}
theorem ps_tryK (hex : X.ex = []) (hs : X.stack = X.env :: X.outer) (hf : X.env.frame = some X.env.locals) (hN : X.N.Nodup) (hi : X.N[i]? = some n) (hln : X.env.kindOf n = some .local) (hc : Names X x c) (tk : Takes X Wout)
    (hb : ∀ (W : WX) (pn : List (Addr × Obj)) (xe : Value → Shared → Prop), Takes (X.tr pn xe) W → PassesOwn (model X.prog X.w) X.A X.env xe → PSs (X.tr pn xe) body (tb W))
    (hsu : ∀ (a : Addr) (oe : Obj) (cls : Value) (d : Option Addr) (pn : List (Addr × Obj)), Zc cls d oe → (∃ vs, oe.data = .fields vs) → PSs (X.suite a ((a, oe) :: pn)) (b₀ :: suite) (ts a cls d)) :
    PS X (.Try body [.ExceptHandler (some (.Name x np)) (some n) (b₀ :: suite) pos'] [] [] pos) (fun D σ H => tb (wAsK X.K c i ts Wout D) D σ H) := by
  refine ⟨fun pins s σ H D I h => ?_⟩
  have ok := I.ok
  have hfr : X.A.frames = some (X.env :: X.outer) := by rw [ok.frames, hs]
  have hloc : Loc X.env.scope n := .inl hln
  refine wpAny_Try_except ?_
  refine wpAny_mono ((hb (wAsK X.K c i ts Wout D) (X.pn ++ pins) (fun e s₁ => wpAny (model X.prog X.w) X.A (noteFrame e X.env) (fun _ s₂ => wpAny (model X.prog X.w) X.A (setFlight e none) (fun _ s₃ =>
    wpAny (model X.prog X.w) X.A (handleBy e X.env [.ExceptHandler (some (.Name x np)) (some n) (b₀ :: suite) pos']) (SP X pins D) X.xe s₃) X.xe s₂) X.xe s₁) (fun u s' xx => ?_) PassesOwn.looking).run [] s σ H D (I.toTry _) h) (fun f s1 hsp => ?_) (fun e s1 he => he)
  · obtain ⟨a, B, sI, pins', σ', H', cls, d, rfl, J', nb, up, sky, na, os, ag, C, b, hcls, hb1, hyes, hno⟩ := xx
    have J : Inv X pins σ' H' sI := J'.ofTry ok
    have sky' : Sky B (X.env :: X.outer) a (Zc cls d) X.env.locals s'.heap := by rw [← hs]; exact sky
    show wpAny (model X.prog X.w) X.A (noteFrame (.ref a) X.env) _ _ _
    refine Sky.land Zc.steady hfr hf sky' fun h3 fl3 up3 => ?_
    have J3 : Inv X pins σ' H' { s' with heap := h3 } := J.landed nb fl3.1 (up.trans up3) os ag
    obtain ⟨oe3, vs3, he3, hz3, hd3⟩ := fl3.there
    have notFr : ∀ {h : Heap} {o : Obj} {vs : Array Value}, h.FunFrames B (X.env :: X.outer) → h.get? a = some o → o.data = .fields vs → a ∉ frs (X.env :: X.outer) := fun {h o vs} ff e dd hm => by
      obtain ⟨_, o', e', hnf⟩ := ff.mem hm
      rw [e] at e'
      cases e'
      exact hnf _ dd
    have nfr := notFr fl3.2.2.1 he3 hd3
    have nL : a ≠ X.env.locals := fun z => nfr (List.mem_filterMap.mpr ⟨X.env, List.mem_cons_self, by rw [hf, z]⟩)
    have nF : a ∉ X.fs := fun hm => by
      obtain ⟨e, he, q⟩ := List.mem_filterMap.mp hm
      exact nfr (List.mem_filterMap.mpr ⟨e, List.mem_cons_of_mem _ he, q⟩)
    -- the error is new to this def
    have nI : sI.heap.get? a = none := by
      cases e : sI.heap.get? a with
      | none => rfl
      | some o =>
        have z := nb a o e (by rw [hs]; exact nfr)
        have z2 : B.get? a = none := fl3.2.1
        rw [z2] at z
        cases z
    have n0 : X.s_0.heap.get? a = none := by
      cases e : X.s_0.heap.get? a with
      | none => rfl
      | some o =>
        obtain ⟨o', z⟩ := J.base.there a o e (by rw [hex]; exact fun z => nomatch z)
        rw [nI] at z
        cases z
    have npin : ∀ p ∈ X.pn ++ pins, p.1 ≠ a := fun p hp z => by
      obtain ⟨e, _⟩ := J.pin p hp
      rw [z, nI] at e
      cases e
    have S3 := J3.suite he3 hd3 na nL nF
    refine wpAny_handleBy_cons (codeAny_handlers_test ?_) (by intro q; cases q)
    have LT : PySem.W.Looks (model X.prog X.w) h3 (typeOf (.ref a)) cls := fun A Q E s k q => wpAny_typeOf_ref (k _ _ he3) (by rw [hz3.1]; exact q)
    have LM := PySem.W.exm_one (M := model X.prog X.w) (J3.kIn) LT hb1
    have test : ∀ {Q : Value → Shared → Prop} {E : Value → Shared → Prop}, Q c { s' with heap := h3 } → wpAny (model X.prog X.w) (X.A.mark (some (.ref a))) (eval (.Name x np) X.env) Q E { s' with heap := h3 } := fun {Q E} q => by
      obtain ⟨hg, hdbg, hm | ⟨hm, hv, hnn⟩⟩ := hc
      · exact ld_glob (X := X.suite a ((a, oe3) :: (X.pn ++ pins))) S3 hg hm q hdbg
      · exact ld_blt (X := X.suite a ((a, oe3) :: (X.pn ++ pins))) S3 hg hm hv q hnn hdbg
    refine test (LM.here ?_)
    cases b with
    | true =>
      refine codeAny_handlers_suite_as ?_
      refine HandSPX.lands_againZ fl3 fun h4 fl4 up4 => ?_
      have J4 : Inv X pins σ' H' { s' with heap := h4 } := J.landed nb fl4.1 ((up.trans up3).trans up4) os ag
      obtain ⟨oe4, vs4, he4, hz4, hd4⟩ := fl4.there
      have S4 := J4.suite he4 hd4 na nL nF
      refine store_ok (X := X.suite a ((a, oe4) :: (X.pn ++ pins))) (v := .ref a) S4 hN hi hloc rfl (fun s5 S5 => ?_) (.inr hln)
      refine wpAny_mono ((hsu a oe4 cls d (X.pn ++ pins) hz4 ⟨_, hd4⟩).run [] s5 _ H' _ S5 (hyes rfl a na)) (fun f s6 hsp => ?_) (fun _ _ z => False.elim z)
      have end_ : ∀ {σ6 : L2.St} {H6 : Hp} {Q : Shared → Prop}, Inv (X.suite a ((a, oe4) :: (X.pn ++ pins))) [] σ6 H6 s6 → (∀ s7, Inv X ((a, oe4) :: pins) (σ6.set i none) H6 s7 → Q s7) →
          wpAny (model X.prog X.w) X.A (do bindName X.env n .none; unbindBehindTheSuite X.env n pos') (fun _ s7 => Q s7) X.xe s6 := fun {σ6 H6 Q} S6 hq => by
        have J6 : Inv X ((a, oe4) :: pins) σ6 H6 s6 := (S6.unsuite ok).pins_of fun p hp => S6.pin p (List.mem_append_left _ (by
          rcases List.mem_cons.mp hp with z | z
          · exact List.mem_cons.mpr (.inl z)
          · exact List.mem_cons_of_mem _ (List.mem_append_right _ z)))
        exact gone_ok J6 hN hi hln hq
      have drop : ∀ {σ7 : L2.St} {H7 : Hp} {s7 : Shared}, Inv X ((a, oe4) :: pins) σ7 H7 s7 → Inv X pins σ7 H7 s7 := fun J7 => J7.pins_of fun p hp => J7.pin p (List.mem_append_right _ (List.mem_cons_of_mem _ hp))
      subst hcls
      cases f with
      | next =>
        obtain ⟨σ6, H6, S6, q6⟩ := hsp
        exact end_ S6 fun s7 J7 => ⟨_, _, track J7 n0 npin hz4 hd4, q6⟩
      | brk =>
        obtain ⟨σ6, H6, S6, q6⟩ := hsp
        exact end_ S6 fun s7 J7 => ⟨_, _, drop J7, q6⟩
      | cont =>
        obtain ⟨σ6, H6, S6, q6⟩ := hsp
        exact end_ S6 fun s7 J7 => ⟨_, _, drop J7, q6⟩
      | ret u =>
        obtain ⟨v6, σ6, H6, S6, r6, q6⟩ := hsp
        exact end_ S6 fun s7 J7 => ⟨_, _, _, drop J7, r6, q6⟩
    | false =>
      show wpAny _ X.A (handleBy (.ref a) X.env []) _ _ _
      refine wpAny_handleBy_nil ?_
      obtain ⟨k1, k2, k3, oe, vs, T, oT, ts', he, hz, hd, h1, hr⟩ := id fl3
      unfold PySem.passOn
      refine wpAny_bind (wpAny_field he hd h1 ?_)
      rw [if_neg (show ¬ ((Value.ref T == Value.none) = true) from by simp)]
      have fin : wpAny (model X.prog X.w) X.A (setFlight (.ref a) X.env.frame) (fun _ s4 => wpAny (model X.prog X.w) X.A (throw (.ref a) : Sem Flow) (SP X pins D) X.xe s4) X.xe { s' with heap := h3 } := by
        rw [hf]
        refine HandSPX.setFlight_upZ fl3 fun h4 hh4 up4 => wpAny_throw (tk _ _ ?_)
        exact ⟨a, B, sI, pins, σ', H', cls, d, rfl, J, nb, (up.trans up3).trans up4, .inr (.inr (by rw [hs]; exact hh4)), na, os, ag, hno rfl⟩
      first
        | exact wpAny_bind (wpAny_pure (wpAny_bind fin))
        | exact wpAny_bind fin
  · cases f with
    | next =>
      obtain ⟨σ', H', J', q⟩ := hsp
      exact wpAny_execs_nil ⟨σ', H', J'.ofTry ok, q⟩
    | brk =>
      obtain ⟨σ', H', J', q⟩ := hsp
      exact ⟨σ', H', J'.ofTry ok, q⟩
    | cont =>
      obtain ⟨σ', H', J', q⟩ := hsp
      exact ⟨σ', H', J'.ofTry ok, q⟩
    | ret u =>
      obtain ⟨v, σ', H', J', r, q⟩ := hsp
      exact ⟨v, σ', H', J'.ofTry ok, r, q⟩
end
end Tw
/-! Tw: instances of own classes: == and != by an own __eq__, str by an own __str__, made where __init__ may raise. -/
namespace Tw
open PySem PySem.Spec PyProof.Rows L2
/-- the type of anything that is known -/
def TyA (K : PySem.W.Frag) (H : Hp) (x : V) (t : Value) : Prop := TyX K H x t ∨ ∃ (a C : Addr) (d : Addr) (fs : List (Str × V)), x = .ref a ∧ t = .ref C ∧ IsX H a C (some d) ∧ IsXd H d fs ∧ XC K C ∧ XO K
section
variable {X : Cx} {CX : CXT} {pins : List (Addr × Obj)} {σ : L2.St} {H : Hp} {s : Shared} {k : Nat} {f C : Addr} {fd : FuncData} {ps : List Str} {sp : Sp} {E : XK}
theorem tyA_looks {x : V} {u t : Value} (I : Inv X pins σ H s) (r : RelV x u) (ty : TyA X.K H x t) (M : Model) : PySem.W.Looks M s.heap (typeOf u) t := by
  rcases ty with ty | ⟨a, C, d, fs, rfl, rfl, ia, idd, T, O⟩
  · obtain ⟨P, Z, p, _⟩ := kit_of I r ty
    exact Z.ty M s.heap I.kIn p
  · cases (show u = Value.ref a from r)
    obtain ⟨oe, vs, ho, hz, hdt⟩ := ia.get I.hok
    exact fun A Q E s k q => wpAny_typeOf_ref (k _ _ ho) (by rw [hz.1]; exact q)
theorem inst_at (I : Inv X pins σ H s) {a dx : Addr} {fs : List (Str × V)} (e : H a = some (.ins C dx fs)) : ∃ od ox, PySem.W.InstAt s.heap a ox C (some od) := by
  obtain ⟨mA, O, _⟩ := ins_get I.hok e
  obtain ⟨od, J, _⟩ := O.look
  exact ⟨od, _, J⟩
/-- a def run one deeper within a built-in -/
theorem run_in1 {Q : VK} {us : List Value} {vs : List V} (F : FnOk X.prog X.w X.K X.mg X.base CX k f fd ps sp) (hr : Room (k + 1) X.A) (hb : Binds X.K fd ps []) (hx : Passes CX X E) (I : Inv X pins σ H s) (r : Vals vs us) (h : sp vs H Q E) :
    wpAny (model X.prog X.w) X.A.in1 (call (.ref f) us) (EP X pins σ Q) X.xe s := by
  have hl : us.length = ps.length := r.length.symm.trans (F.len _ _ _ _ h)
  have b := hb s us I.kIn (by rw [List.append_nil]; exact hl)
  rw [List.append_nil] at b
  refine wpAny_call (codeAny_mono (F.run X.A.in1 X.stack s H ⟨us, []⟩ us vs Q E hr.in1 I.env0.in1 b r h) fun r s' hq => ?_)
  match r, hq with
  | .error e, hq => exact hx pins σ H s e s' I hq
  | .ok (.ret u), hq => exact I.after hq
theorem run_in2 {Q : VK} {us : List Value} {vs : List V} (F : FnOk X.prog X.w X.K X.mg X.base CX k f fd ps sp) (hr : Room (k + 2) X.A) (hb : Binds X.K fd ps []) (hx : Passes CX X E) (I : Inv X pins σ H s) (r : Vals vs us) (h : sp vs H Q E) :
    wpAny (model X.prog X.w) X.A.in1.in1 (call (.ref f) us) (EP X pins σ Q) X.xe s := by
  have hl : us.length = ps.length := r.length.symm.trans (F.len _ _ _ _ h)
  have b := hb s us I.kIn (by rw [List.append_nil]; exact hl)
  rw [List.append_nil] at b
  have hr1 : Room (k + 1) X.A.in1 := Room.in1 hr
  refine wpAny_call (codeAny_mono (F.run X.A.in1.in1 X.stack s H ⟨us, []⟩ us vs Q E hr1.in1 I.env0.in1.in1 b r h) fun r s' hq => ?_)
  match r, hq with
  | .error e, hq => exact hx pins σ H s e s' I hq
  | .ok (.ret u), hq => exact I.after hq
/-- x == y by x's own __eq__ -/
def rEqOwn (K : PySem.W.Frag) (C : Addr) (sp : Sp) (E : XK) : R2 := fun x y H Q => ∃ (a dx : Addr) (fs : List (Str × V)) (t : Value), x = .ref a ∧ H a = some (.ins C dx fs) ∧ TyA K H y t ∧ PySem.W.notFirst K C t = true ∧ sp [x, y] H Q E
theorem op_eqOwn (hs : PySem.W.findIn X.K (.ref C) "__eq__" = some (some (.ref f))) (hf : PySem.W.isFn X.K (.ref f) = true) (F : FnOk X.prog X.w X.K X.mg X.base CX k f fd ps sp) (hr : Room k X.A) (hb : Binds X.K fd ps []) (hx : Passes CX X E) : OpR X (compareOp .Eq) (rEqOwn X.K C sp E) := by
  intro pins s σ H x y v u Q I rx ry h
  obtain ⟨a, dx, fs, t, rfl, ea, ty, hn, q⟩ := h
  cases (show v = Value.ref a from rx)
  obtain ⟨od, ox, J⟩ := inst_at I ea
  obtain ⟨m, hF⟩ := I.fr
  show wpAny _ _ (richCompare .Eq _ _) _ _ _
  refine PySem.W.cmp_K (op := .Eq) (tb := t) hr.units0 hF I.ok.mod.kin J (tyA_looks I ry ty _) hn hs hf ?_
  refine wpAny_mono (run_fn (dvs := []) (ds := []) (us := [.ref a, u]) (vs := [.ref a, y]) F hr hb .nil hx I (.cons rfl (.cons ry .nil)) q) (fun w s' z => ?_) fun _ _ x => x
  obtain ⟨z', H', I', rz, qz⟩ := z
  exact SlX.cmpback rz ⟨z', H', I', rz, qz⟩
/-- x != y: object.__ne__ asks x's own __eq__ -/
def rNeOwn (K : PySem.W.Frag) (C : Addr) (sp : Sp) (E : XK) : R2 := fun x y H Q => ∃ (a dx : Addr) (fs : List (Str × V)) (t : Value), x = .ref a ∧ H a = some (.ins C dx fs) ∧ TyA K H y t ∧ PySem.W.notFirst K C t = true ∧ sp [x, y] H (fun z H' => ∃ b, z = .bl b ∧ Q (.bl (!b)) H') E
theorem ifBound_objNe {K : PySem.W.Frag} {M : Model} {A : Around} {E : Value → Shared → Prop} {s : Shared} {x : Addr} {ox : Obj} {od : Option Obj} {args : List Value} {Q : Option Value → Shared → Prop} (Y : K.In s.heap) (I : PySem.W.InstAt s.heap x ox C od) (hs : PySem.W.findIn K (.ref C) "__ne__" = some (some (.builtin "object.__ne__")))
    (h : wpAny M A (call (.builtin "object.__ne__") (.ref x :: args)) (fun v => Q (some v)) E s) : wpAny M A (callSpecialIfBound? (.ref x) "__ne__" args) Q E s := by
  simp only [callSpecialIfBound?, bindSpecialIfBound?]
  refine wpAny_holding (wpAny_bind (wpAny_bind (wpAny_bind (I.type.here ((PySem.W.looks_findIn Y hs).here ?_)))))
  refine wpAny_bind (wpAny_askSetting (wpAny_ite ?_))
  have fin : wpAny M A (call (.builtin "object.__ne__") ([.ref x] ++ args) >>= fun v => pure (some v)) Q E s := wpAny_bind (wpAny_mono h (fun v s' h' => wpAny_pure h') fun _ _ h' => h')
  split
  · exact wpAny_bind (wpAny_of_eq (F.cmp_object.ne.bind _) (wpAny_pure (by exact fin)))
  · exact wpAny_tryCatch (wpAny_bind (wpAny_of_eq (F.cmp_object.ne.bind _) (wpAny_pure (by exact fin))))
theorem ne_entry {K : PySem.W.Frag} {prog : Program} {w : World} {A : Around} {E : Value → Shared → Prop} {s : Shared} {x : Addr} {ox : Obj} {od : Option Obj} {b : Value} {Q : Fin → Shared → Prop} (hu : A.units < cLine) (Y : K.In s.heap) (I : PySem.W.InstAt s.heap x ox C od)
    (hs : PySem.W.findIn K (.ref C) "__eq__" = some (some (.ref f))) (hf : PySem.W.isFn K (.ref f) = true)
    (h : wpAny (model prog w) A (call (.ref f) [.ref x, b]) (fun v s' => ∃ c, v = .bool c ∧ Q (.done (.ret (.bool (!c)))) s') E s) : wpAny (model prog w) A (Builtin.«object.__ne__» ⟨[.ref x, b], []⟩) Q E s := by
  unfold Builtin.«object.__ne__»
  repeat (first
    | with_reducible refine wpAny_cRoomFor hu ?_
    | (refine wpAny_bind (m := callSpecialIfBound? (.ref x) (Str.ofString "__eq__") [b])
        (PySem.W.ifBound_K Y I hs hf (wpAny_mono h (fun r s' hr => by
          obtain ⟨b, rfl, hq⟩ := hr
          repeat (first | exact hq | exact wpAny_pure hq | exact wpAny_truthy_bool hq | (refine wpAny_bind (m := truthy (.bool _)) (wpAny_truthy_bool ?_)) | wp_step)) fun _ _ e => e)))
    | wp_step)
theorem ne_own {x : Addr} {ox : Obj} {od : Option Obj} {b tb : Value} {K : PySem.W.Frag} {prog : Program} {w : World} {A : Around} {E : Value → Shared → Prop} {s : Shared} {Q : Value → Shared → Prop} (hu : A.units + 1 < cLine) (Y : K.In s.heap) (I : PySem.W.InstAt s.heap x ox C od) (hb : PySem.W.Looks (model prog w) s.heap (typeOf b) tb) (hn : PySem.W.notFirst K C tb = true)
    (hne : PySem.W.findIn K (.ref C) "__ne__" = some (some (.builtin "object.__ne__"))) (hs : PySem.W.findIn K (.ref C) "__eq__" = some (some (.ref f))) (hf : PySem.W.isFn K (.ref f) = true) (hm : PySem.W.mroIn K C (.type "object") = some true)
    (h : wpAny (model prog w) A.in1 (call (.ref f) [.ref x, b]) (fun v s' => ∃ c, v = .bool c ∧ Q (.bool (!c)) s') E s) : wpAny (model prog w) A (richCompare .NotEq (.ref x) b) Q E s := by
  have one : wpAny (model prog w) A (tryCompare (.ref x) (cmpInfo .NotEq).2.1 b) (fun r s' => ∃ v, r = some v ∧ Q v s') E s := by
    unfold tryCompare
    refine wpAny_bind (ifBound_objNe Y I hne (wpAny_call (codeAny_call_builtin F.cmp_object.ne.plain F.cmpEntry_ne (PySem.W.check_slot F.cmpKind_ne F.cmpSplit_ne (I.type.andThen (PySem.W.looks_mroIn Y hm)) (F.cmpArgs_ne _ _)
      (ne_entry (A := A.in1) hu Y I hs hf (wpAny_mono h (fun v s' hv => ?_) fun _ _ e => e))))))
    obtain ⟨c, rfl, hq⟩ := hv
    first | exact ⟨c, rfl, wpAny_pure ⟨_, rfl, hq⟩⟩ | exact ⟨c, rfl, wpAny_pure (wpAny_pure ⟨_, rfl, hq⟩)⟩ | exact ⟨c, rfl, ⟨_, rfl, hq⟩⟩
  unfold richCompare
  simp only [oneThing_ref]
  refine wpAny_holding (wpAny_bind (wpAny_cRoomFor (Nat.lt_of_succ_lt hu) ?_))
  refine wpAny_bind (I.type.here (wpAny_bind (hb.here ?_)))
  split
  · rename_i q
    have e : PySem.W.subIn K tb (.ref C) = some false := by
      rcases Bool.or_eq_true_iff.mp hn with e | e
      · rw [beq_iff_eq.mp e] at q; simp at q
      · exact beq_iff_eq.mp e
    refine wpAny_bind ((PySem.W.looks_subIn Y e).here ?_)
    simp only [Bool.false_eq_true, if_false]
    refine wpAny_bind (wpAny_mono one (fun r s' z => ?_) fun _ _ e => e)
    obtain ⟨v, rfl, hq⟩ := z
    exact wpAny_pure hq
  · refine wpAny_bind (wpAny_pure ?_)
    simp only [Bool.false_eq_true, if_false]
    refine wpAny_bind (wpAny_mono one (fun r s' z => ?_) fun _ _ e => e)
    obtain ⟨v, rfl, hq⟩ := z
    exact wpAny_pure hq
theorem op_neOwn (hne : PySem.W.findIn X.K (.ref C) "__ne__" = some (some (.builtin "object.__ne__"))) (hs : PySem.W.findIn X.K (.ref C) "__eq__" = some (some (.ref f))) (hf : PySem.W.isFn X.K (.ref f) = true) (hm : PySem.W.mroIn X.K C (.type "object") = some true)
    (F : FnOk X.prog X.w X.K X.mg X.base CX k f fd ps sp) (hr : Room (k + 1) X.A) (hb : Binds X.K fd ps []) (hx : Passes CX X E) : OpR X (compareOp .NotEq) (rNeOwn X.K C sp E) := by
  intro pins s σ H x y v u Q I rx ry h
  obtain ⟨a, dx, fs, t, rfl, ea, ty, hn, q⟩ := h
  cases (show v = Value.ref a from rx)
  obtain ⟨od, ox, J⟩ := inst_at I ea
  show wpAny _ _ (richCompare .NotEq _ _) _ _ _
  refine ne_own (tb := t) (Nat.lt_of_le_of_lt (Nat.le_refl _) hr.in1.units0) I.kIn J (tyA_looks I ry ty _) hn hne hs hf hm ?_
  refine wpAny_mono (run_in1 F hr hb hx I (.cons rx (.cons ry .nil)) q) (fun w s' z => ?_) fun _ _ x => x
  obtain ⟨z', H', I', rz, b, rfl, qz⟩ := z
  exact ⟨b, rz, .bl (!b), H', I', rfl, qz⟩
/-- str(x) by x's own __str__ -/
def rStrOwn (C : Addr) (sp : Sp) (E : XK) : List V → Hp → VK → Prop := fun xs H Q => ∃ (a dx : Addr) (fs : List (Str × V)), xs = [.ref a] ∧ H a = some (.ins C dx fs) ∧ sp [.ref a] H (fun z H' => ∃ c, z = .str c ∧ Q z H') E
theorem call_strOwn (hs : PySem.W.findIn X.K (.ref C) "__str__" = some (some (.ref f))) (hf : PySem.W.isFn X.K (.ref f) = true) (F : FnOk X.prog X.w X.K X.mg X.base CX k f fd ps sp) (hr : Room (k + 2) X.A) (hb : Binds X.K fd ps []) (hx : Passes CX X E) : CallR X (.type "str") (rStrOwn C sp E) := by
  intro pins s σ H xs us Q I r h
  obtain ⟨a, dx, fs, rfl, ea, q⟩ := h
  obtain ⟨u1, rfl, r1⟩ := vals1 r
  cases (show u1 = Value.ref a from r1)
  obtain ⟨od, ox, J⟩ := inst_at I ea
  have hr1 : Room (k + 1) X.A.in1 := Room.in1 hr
  refine PySem.W.kso_call hr1.in1.units0 I.kIn J hs hf ?_
  refine wpAny_mono (run_in2 F hr hb hx I (.cons r1 .nil) q) (fun w s' z => ?_) fun _ _ x => x
  obtain ⟨z', H', I', rz, c, ez, qz⟩ := z
  subst ez
  obtain ⟨t, rfl⟩ := rz
  exact ⟨.str c, H', I', ⟨_, rfl⟩, qz⟩
end
end Tw
/-! Tw: a text times a number; an object made where its __init__ may raise into a try. -/
namespace Tw
open PySem PySem.Spec PyProof.Rows L2
section
variable {X : Cx} {CX : CXT} {k : Nat} {f C : Addr} {fd : FuncData} {ps : List Str} {sp : Sp} {E : L2.St → XK} {x : Str} {p pos : Pos} {e : Expr} {es : List Expr} {t : TA}
theorem op_mul_str : OpR X (binaryOp .Mult) (fun x y H Q => ∃ (z : Str) (n : Int), x = .str z ∧ y = .int n ∧ MulOk z n ∧ Q (.str (Txt.mul z n)) H) := by
  intro pins s σ H x y v u Q I rx ry h
  obtain ⟨z, n, rfl, rfl, ok, q⟩ := h
  obtain ⟨t, rfl⟩ := rx
  obtain ⟨t', rfl⟩ := ry
  exact SB.mul ok fun t' tk => ⟨.str (Txt.mul z n), H, I.tok _, ⟨_, rfl⟩, q⟩
/-- C(..) where C.__init__ may raise -/
def tMakeS (C : Addr) (sp : Sp) (E : L2.St → XK) (t : TA) : TE := fun σ H Q => t σ H fun vs H1 => ∀ x dx, H1 x = none → H1 dx = none → dx ≠ x →
  sp (.ref x :: vs) (upd (upd H1 dx (.own x)) x (.ins C dx [])) (fun v H2 => v = .non ∧ Q (.ref x) H2) (E σ)
theorem run_makeS {pins : List (Addr × Obj)} {σ : L2.St} {H : Hp} {s : Shared} {Q : VK} {us : List Value} {vs : List V} (M : Mk X.K C f) (F : FnOk X.prog X.w X.K X.mg X.base CX k f fd ps sp) (hr : Room (k + 1) X.A) (hb : Binds X.K fd ps [])
    (hx : PassesAt CX X σ (E σ)) (I : Inv X pins σ H s) (r : Vals vs us)
    (h : ∀ x dx, H x = none → H dx = none → dx ≠ x → sp (.ref x :: vs) (upd (upd H dx (.own x)) x (.ins C dx [])) (fun v H2 => v = .non ∧ Q (.ref x) H2) (E σ)) :
    wpAny (model X.prog X.w) X.A (call (.ref C) us) (EP X pins σ Q) X.xe s := by
  have hq := h (s.heap.objs.size + 1) s.heap.objs.size (I.hok.fresh (Nat.le_succ _)) (I.hok.fresh (Nat.le_refl _)) (Nat.ne_of_lt (Nat.lt_succ_self _))
  have I2 := Inv.made (C := C) I
  have r2 : Vals (V.ref (s.heap.objs.size + 1) :: vs) (Value.ref (s.heap.objs.size + 1) :: us) := .cons rfl r
  have hl : (Value.ref (s.heap.objs.size + 1) :: us).length = ps.length := by
    have e := r2.length
    rw [F.len _ _ _ _ hq] at e
    exact e.symm
  have b := hb _ (Value.ref (s.heap.objs.size + 1) :: us) I2.kIn (by rw [List.append_nil]; exact hl)
  rw [List.append_nil] at b
  refine wpAny_call (make_map (f := f) I.kIn M.makes M.init (beq_iff_eq.mp M.fn) (codeAny_mono (F.run _ X.stack _ _ ⟨Value.ref (s.heap.objs.size + 1) :: us, []⟩ (Value.ref (s.heap.objs.size + 1) :: us) _ _ (E σ) (hr.make C us [])
    (I2.env0.make C us []) b r2 hq) fun r s' hq' => ?_))
  cases r with
  | error e => exact hx pins _ _ e s' I2 hq'
  | ok fl =>
    cases fl with
    | ret u =>
      obtain ⟨v, H', I3, rv, ev, q3⟩ := I2.after hq'
      subst ev
      exact ⟨rv, ⟨V.ref (s.heap.objs.size + 1), H', I3, rfl, q3⟩⟩
    | next => exact False.elim hq'
    | brk => exact False.elim hq'
    | cont => exact False.elim hq'
theorem pe_makeS (M : Mk X.K C f) (F : FnOk X.prog X.w X.K X.mg X.base CX k f fd ps sp) (hr : Room (k + 1) X.A) (hg : Gl X x) (hm : X.mg x = some (.ref C)) (hb : Binds X.K fd ps []) (hx : ∀ σ, PassesAt CX X σ (E σ))
    (ha : PA X (e :: es) t) (hdb : (x == ("__debug__" : Str)) = false := by decide) (he : starEach (e :: es) X.env = (false, eval e X.env) :: starEach es X.env := by rfl) (hpl : (backTo pos (starEach es X.env)).any (·.1) = false := by rfl) :
    PE X (.Call (.Name x p) (e :: es) [] pos) (tMakeS C sp E t) := by
  refine ⟨fun pins s σ H Q I h => ?_⟩
  refine wpAny_Call_Name_kw (ld_glob I hg hm ?_ hdb)
  refine PySem.W.callWith_K (h₀ := X.base) I.ok.mod.kin M.kp (thn (ha.run pos pins s σ H _ I h) fun us s1 ⟨vs, H1, I1, r, q⟩ => ⟨I1.kIn, ?_⟩) he hpl
  exact run_makeS M F hr hb (hx σ) I1 r q
end
/-- a comprehension over a text, sign by sign -/
theorem lcStr {z : Str} {g : TG} {tt : TT} {te : TE} {ws : List Nat} {ρ : L2.St} {G : Hp} {D : Addr} {R : Hp → Prop} (P : Nat → Hp → Prop) (first : P 0 (upd G D (.lst [])))
    (step : ∀ i c H, z.cps[i]? = some c → P i H → g (.str ⟨#[c]⟩) (wipe ρ ws) H fun σ2 H2 => wipe σ2 ws = wipe ρ ws ∧ tt σ2 H2 fun b H3 => if b = true then te σ2 H3 fun y H4 => ∃ acc, H4 D = some (.lst acc) ∧ acc.length < sizeLine ∧ P (i + 1) (upd H4 D (.lst (acc ++ [y]))) else P (i + 1) H3)
    (last : ∀ H, P z.cps.size H → R H) :
    ∃ W : Nat → Nat → Hp → Prop, (∃ m, W 0 m (upd G D (.lst []))) ∧ ∀ i m H, W i m H → ((Its z).stop i H ∧ R H) ∨ ((Its z).go i H ∧ ∃ Nx : Hp → Prop, (∀ H', Nx H' → ∃ m', m' < m ∧ W (i + 1) m' H') ∧ ∀ x H', (Its z).yld i H x H' →
      g x (wipe ρ ws) H' fun σ2 H2 => wipe σ2 ws = wipe ρ ws ∧ tt σ2 H2 fun b H3 => if b = true then te σ2 H3 fun y H4 => ∃ acc, H4 D = some (.lst acc) ∧ acc.length < sizeLine ∧ Nx (upd H4 D (.lst (acc ++ [y]))) else Nx H3) := by
  refine ⟨fun i m H => m = z.cps.size - i ∧ i ≤ z.cps.size ∧ P i H, ⟨_, rfl, Nat.zero_le _, first⟩, ?_⟩
  rintro i m H ⟨rfl, hi, p⟩
  rcases Nat.lt_or_ge i z.cps.size with lt | ge
  · refine .inr ⟨lt, P (i + 1), fun H' p' => ⟨_, Nat.sub_succ_lt_self _ _ lt, rfl, lt, p'⟩, fun x H' ⟨e, c, ec, ex⟩ => ?_⟩
    subst e ex
    exact step i c _ ec p
  · exact .inl ⟨ge, last H (Nat.le_antisymm hi ge ▸ p)⟩
/-- values whose class is a built-in one -/
inductive Bv (H : Hp) : V → String → Prop where
  | non : Bv H .non "NoneType"
  | bl (b : Bool) : Bv H (.bl b) "bool"
  | int (i : Int) : Bv H (.int i) "int"
  | str (z : Str) : Bv H (.str z) "str"
  | lst {a : Addr} {xs : List V} (e : H a = some (.lst xs)) : Bv H (.ref a) "list"
  | tup {a : Addr} {xs : List V} (e : H a = some (.tup xs)) : Bv H (.ref a) "tuple"
  | dK {a : Addr} {kvs : List (Key × V)} (e : H a = some (.dK kvs)) : Bv H (.ref a) "dict"
theorem Bv.ty {K : PySem.W.Frag} {H : Hp} {x : V} {T : String} (h : Bv H x T) : TyX K H x (.type T) := by
  cases h with
  | non => exact .base .non
  | bl b => exact .base (.bl b)
  | int i => exact .base (.int i)
  | str z => exact .base (.str z)
  | lst e => exact .base (.lst e)
  | tup e => exact .base (.tup e)
  | dK e => exact .base (.dK e)
theorem Bv.same {H H' : Hp} {x : V} {T : String} (s : Same H H') (h : Bv H x T) : Bv H' x T := by
  cases h with
  | non => exact .non
  | bl b => exact .bl b
  | int i => exact .int i
  | str z => exact .str z
  | lst e => exact .lst (s _ _ e)
  | tup e => exact .tup (s _ _ e)
  | dK e => exact .dK (s _ _ e)
def isI : V → Bool
  | .int _ => true
  | _ => false
def isB : V → Bool
  | .bl _ => true
  | _ => false
def isS : V → Bool
  | .str _ => true
  | _ => false
/-- isinstance against a built-in class, by the value -/
theorem Bv.kits {K : PySem.W.Frag} {H : Hp} {x : V} {T : String} (h : Bv H x T) : PySem.W.kitOne K (.type T) (.type "str") = some (isS x) ∧ PySem.W.kitOne K (.type T) (.type "bool") = some (isB x) ∧ PySem.W.kitOne K (.type T) (.type "int") = some (isI x || isB x) := by
  cases h with
  | non => exact ⟨kit_ty (r := false) (by decide +kernel), kit_ty (r := false) (by decide +kernel), kit_ty (r := false) (by decide +kernel)⟩
  | bl b => exact ⟨kit_ty (r := false) (by decide +kernel), kit_ty (r := true) (by decide +kernel), kit_ty (r := true) (by decide +kernel)⟩
  | int i => exact ⟨kit_ty (r := false) (by decide +kernel), kit_ty (r := false) (by decide +kernel), kit_ty (r := true) (by decide +kernel)⟩
  | str z => exact ⟨kit_ty (r := true) (by decide +kernel), kit_ty (r := false) (by decide +kernel), kit_ty (r := false) (by decide +kernel)⟩
  | lst e => exact ⟨kit_ty (r := false) (by decide +kernel), kit_ty (r := false) (by decide +kernel), kit_ty (r := false) (by decide +kernel)⟩
  | tup e => exact ⟨kit_ty (r := false) (by decide +kernel), kit_ty (r := false) (by decide +kernel), kit_ty (r := false) (by decide +kernel)⟩
  | dK e => exact ⟨kit_ty (r := false) (by decide +kernel), kit_ty (r := false) (by decide +kernel), kit_ty (r := false) (by decide +kernel)⟩
end Tw
/-! Tw: a method called by keywords alone. -/
namespace Tw
open PySem PySem.Spec PyProof.Rows L2
section
variable {K : PySem.W.Frag} {x qual : Str} {params : Arguments} {body : List Stmt} {scope : Scope} {f : Addr} {fd : FuncData} {ps : List Str}
theorem kbNone (F : FunD K x qual params body scope [] [] f fd) (n : Nat) (ks : List Str)
    (h : ∀ (kV doc pm : Value) (an : Option Addr) (cdv ct : Value) (us ws : List Value), us.length = n → ws.length = ks.length → bindArgs (PySem.W.fnOf x qual params body scope .none kV doc pm an cdv ct) ⟨us, ks.zip ws⟩ = pure (ps.zip (us ++ ws))) :
    KBn K fd ps n ks (fun us ws => us ++ ws) (fun vs zs => vs ++ zs) := by
  obtain ⟨oc, od, dV, kV, doc, pm, an, cdv, ct, osl, rfl, lk, hcd, hD, hK⟩ := F.ex
  rcases hD with ⟨_, rfl⟩ | ⟨e, _⟩
  · exact ⟨fun s us ws X l1 l2 => .of_eq (h kV doc pm an cdv ct us ws l1 l2), fun r1 r2 => r1.append r2⟩
  · exact absurd rfl e
end
/-- o.m(k = v, ..) -/
def tMethN (C : Addr) (m : Str) (n : Nat) (sp : Sp) (gV : List V → List V → List V) (E : XK) (ta : TE) (tk : TA) : TE := fun σ H Q => ta σ H fun x H1 => ∃ (a dx : Addr) (fs : List (Str × V)), x = .ref a ∧ H1 a = some (.ins C dx fs) ∧ fs.lookup m = none ∧
  tk σ H1 fun zs H2 => zs.length = n ∧ sp (gV [.ref a] zs) H2 Q E
section
variable {X : Cx} {CX : CXT} {k : Nat} {f C : Addr} {fd : FuncData} {ps ks : List Str} {sp : Sp} {E : XK} {m : Str} {pos apos : Pos} {o : Expr} {kws : List Keyword} {ta : TE} {tk : TA} {g : List Value → List Value → List Value} {gV : List V → List V → List V}
theorem pe_methN {pl : Sem Bool} (he : PE X o ta) (c : Cls X.K C) (hm : Meth X.K C m f) (F : FnOk X.prog X.w X.K X.mg X.base CX k f fd ps sp) (hr : Room k X.A) (hb : KBn X.K fd ps 1 ks g gV) (hx : Passes CX X E) (hkw : PK X kws tk)
    (hall : (backToKw pos (keywordEach kws X.env)).all (·.1.isSome) = true := by rfl) (hks : (backToKw pos (keywordEach kws X.env)).filterMap (·.1) = ks := by rfl)
    (hpl : ((backTo pos (starEach [] X.env)).any (·.1) || (backToKw pos (keywordEach kws X.env)).any (·.1.isNone)) = false := by rfl)
    (ht : eval (.Call (.Attribute o m apos) [] kws pos) X.env = (do
      let v ← eval o X.env
      standAt apos.atName
      let (h, front) ← holding [v] (getMethod v m pl)
      callWith pos h front (backTo pos (starEach [] X.env)) (backToKw pos (keywordEach kws X.env))) := by rfl) :
    PE X (.Call (.Attribute o m apos) [] kws pos) (tMethN C m ks.length sp gV E ta tk) := by
  refine ⟨fun pins s σ H Q I h => ?_⟩
  refine PySem.W.methodCall_KW (pl := pl) (thn (he.run pins s σ H _ I h) fun u s1 ⟨x, H1, I1, rx, a, dx, fs, ex, ea, l, q⟩ => ?_) ht
  subst ex
  cases (show u = Value.ref a from rx)
  refine getmeth_ok I1 ea c hm l ?_
  refine PySem.W.callWith_KW0 (h₀ := X.base) (first := [.ref a]) I1.ok.mod.kin hm.kp hall (thn (hkw.run pos pins s1 σ H1 _ I1 q) fun ws s2 ⟨zs, H2, I2, rz, l2, q2⟩ => ⟨I2.kIn, ?_⟩) hpl
  rw [hks]
  exact run_fnN (us := [.ref a]) (vs := [.ref a]) F hr hb hx I2 (.cons rx .nil) rz rfl l2 q2
end
/-- == by an own __eq__, where the context is a comprehension's: what it knows is named -/
theorem eqOwnK {X : Cx} {CX : CXT} {k : Nat} {f C : Addr} {fd : FuncData} {ps : List Str} {sp : Sp} {E : XK} (P : Program) (w : World) (K : PySem.W.Frag) (mg : Str → Option Value) (base : Heap) (hs : PySem.W.findIn K (.ref C) "__eq__" = some (some (.ref f))) (hf : PySem.W.isFn K (.ref f) = true)
    (F : FnOk P w K mg base CX k f fd ps sp) (hr : Room k X.A) (hb : Binds K fd ps []) (hx : Passes CX X E) (e1 : X.prog = P := by rfl) (e2 : X.w = w := by rfl) (e3 : X.K = K := by rfl) (e4 : X.mg = mg := by rfl) (e5 : X.base = base := by rfl) : OpR X (compareOp .Eq) (rEqOwn K C sp E) := by
  subst e1 e2 e3 e4 e5
  exact op_eqOwn hs hf F hr hb hx
/-! lists of bools -/
theorem dpBools {K : PySem.W.Frag} {H : Hp} : ∀ bs : List Bool, DpAll K H (bs.map V.bl) (bs.map PyData.bool)
  | [] => .nil
  | b :: bs => .cons (.bl b) (dpBools bs)
theorem layBools : ∀ bs : List Bool, PyData.canLayAll0 (bs.map PyData.bool) = true ∧ PyData.depthAll (bs.map PyData.bool) = 0
  | [] => ⟨rfl, rfl⟩
  | b :: bs => by
    obtain ⟨h1, h2⟩ := layBools bs
    constructor
    · simp only [List.map_cons, PyData.canLayAll0, PyData.canLay0, h1, Bool.and_self]
    · simp only [List.map_cons, PyData.depthAll, PyData.depth, h2, Nat.max_self]
theorem shapedBools (bs : List Bool) : SeqAt.shaped (.list (bs.map PyData.bool)) = true := by
  obtain ⟨h1, h2⟩ := layBools bs
  simp [SeqAt.shaped, PyData.canLay0, PyData.depth, h1, h2]
theorem eqvBools (bs : List Bool) : PyData.eqv (.list (bs.map PyData.bool)) (.list (bs.map PyData.bool)) = true :=
  SeqAt.eqv_refl _ (by simpa [PyData.canLay0] using (layBools bs).1)
theorem ifSame {d : PyData} {A B : Prop} (h : PyData.eqv d d = true) (b : B) : if (!PyData.eqv d d) = true then A else B := by
  rw [h]
  exact iteF b
theorem mildBools : ∀ bs : List Bool, mildAll (bs.map PyData.bool) = true ∧ capAll (bs.map PyData.bool) ≤ 100 * bs.length
  | [] => ⟨rfl, Nat.le_refl _⟩
  | b :: bs => by
    obtain ⟨h1, h2⟩ := mildBools bs
    constructor
    · simp only [List.map_cons, mildAll, mild, h1, Bool.and_self]
    · simp only [List.map_cons, capAll, List.length_cons]
      have : cap (.bool b) ≤ 90 := by cases b <;> decide
      omega
end Tw
/-! Tw, part 4: the head's facts by names, error classes too. -/
namespace Tw
open PySem PySem.Spec PyProof.Rows L2 He
abbrev Fg := PySem.W.Frag
def excB (K : Fg) (C : Addr) : Bool := match K.lookup C with
  | some ⟨.type t, _, .cls cd, sl⟩ => (match cd.mro, sl.toList with
    | .ref C' :: bm, [_, _, _, _, some (.builtin n), _] => decide (t = "type") && (decide (C' = C) && (decide (n = "ValueError.__new__") && (!cd.hasDel && (cd.hasDict && PySem.HandSPX.refsVE bm))))
    | _, _ => false)
  | _ => false
theorem excB_ok {K : Fg} {C : Addr} (h : excB K C = true) : ∃ nm q N bs bm sn sub ab col dd k0 k1 k2 k3 k5, K.lookup C = some (excClassObj nm q C N bs bm true sn sub ab col dd k0 k1 k2 k3 k5 "ValueError.__new__") ∧ PySem.HandSPX.refsVE bm = true := by
  unfold excB at h
  cases e : K.lookup C with
  | none =>
    rw [e] at h
    cases h
  | some o =>
    rw [e] at h
    obtain ⟨oc, od, dt, sl⟩ := o
    cases oc with
    | type t =>
      cases dt with
      | cls cd =>
        obtain ⟨nm, bs, mro, ns, q, hd, sn, sb, ab, col, del⟩ := cd
        dsimp only at h
        obtain ⟨sl⟩ := sl
        dsimp only at h
        match mro, sl, h with
        | .ref C' :: bm, [k0, k1, k2, k3, some (.builtin n), k5], h =>
          obtain ⟨h1, h⟩ := ba h
          obtain ⟨h2, h⟩ := ba h
          obtain ⟨h3, h⟩ := ba h
          obtain ⟨h4, h⟩ := ba h
          obtain ⟨h5, h6⟩ := ba h
          have e1 := of_decide_eq_true h1
          have e2 := of_decide_eq_true h2
          have e3 := of_decide_eq_true h3
          subst e1 e2 e3
          have e4 : del = false := by simpa using h4
          subst e4
          subst h5
          exact ⟨_, _, _, _, _, _, _, _, _, _, _, _, _, _, _, rfl, h6⟩
      | _ => cases h
    | _ => cases h
inductive Fy where
  | fa (f : Fa)
  | xc (x : Str)
  | xo
  | ini (x : Str)
  | kit (x y : Str) (b : Bool)
  | kitT (x : Str) (T : String) (b : Bool)
  | names (x : Str) (zs : List Str)
def Fy.ok (K : Fg) : Fy → Bool
  | .fa f => f.ok K
  | .xc x => excB K (ga K x) && (eqO (PySem.W.findIn K (.ref (ga K x)) "__setattr__") (some (some (.builtin "object.__setattr__"))) && (decide (PySem.W.subIn K (.ref (ga K x)) (.type "BaseException") = some true) && (decide (PySem.W.typeIn K (.ref (ga K x)) = some (.type "type")) &&
      (PySem.W.keepIn K (.ref (ga K x)) && (eqO (PySem.W.findIn K (.ref (ga K x)) "__getattribute__") (some (some (.builtin "BaseException.__getattribute__"))) && (eqO (PySem.W.findIn K (.ref (ga K x)) "__getattr__") (some none) &&
      (PySem.W.hasDictIn K (ga K x) && (eqO (PySem.W.findIn K (.ref (ga K x)) "__class__") (some (some (.builtin "object.__class__"))) && decide (PySem.W.mroIn K (ga K x) (.type "object") = some true)))))))))
  | .xo => eqO (PySem.W.specialIn K (.builtin "object.__class__") "__get__") (some (some (.builtin "getset_descriptor.__get__"))) && decide (PySem.W.takesIn K (.builtin "object.__class__") = some true)
  | .ini x => eqO (PySem.W.findIn K (.ref (ga K x)) "__init__") (some (some (.ref (ma K (ga K x) "__init__")))) && decide (PySem.W.typeIn K (.ref (ma K (ga K x) "__init__")) = some (.type "function"))
  | .kit x y b => decide (PySem.W.kitOne K (.ref (ga K x)) (.ref (ga K y)) = some b)
  | .kitT x T b => decide (PySem.W.kitOne K (.ref (ga K x)) (.type T) = some b)
  | .names x zs => zs.all fun z => eqO (PySem.W.findIn K (.ref (ga K x)) z) (some none)
section
variable {K : Fg} {h : Heap} {mg : Str → Option Value}
theorem xc_ok {x : Str} (c : (Fy.xc x).ok K = true) : XC K (ga K x) := by
  obtain ⟨c1, c⟩ := ba c
  obtain ⟨c2, c⟩ := ba c
  obtain ⟨c3, c⟩ := ba c
  obtain ⟨c4, c⟩ := ba c
  obtain ⟨c5, c⟩ := ba c
  obtain ⟨c6, c⟩ := ba c
  obtain ⟨c7, c⟩ := ba c
  obtain ⟨c8, c⟩ := ba c
  obtain ⟨c9, c10⟩ := ba c
  exact ⟨⟨excB_ok c1, eqO_ok c2, of_decide_eq_true c3, of_decide_eq_true c4, c5⟩, eqO_ok c6, eqO_ok c7, c8, eqO_ok c9, of_decide_eq_true c10⟩
theorem xo_ok (c : Fy.xo.ok K = true) : XO K := by
  unfold Fy.ok at c
  obtain ⟨c1, c2⟩ := ba c
  exact ⟨eqO_ok c1, of_decide_eq_true c2⟩
theorem ini_ok {x : Str} (c : (Fy.ini x).ok K = true) : PySem.W.findIn K (.ref (ga K x)) "__init__" = some (some (.ref (ma K (ga K x) "__init__"))) ∧ PySem.W.typeIn K (.ref (ma K (ga K x) "__init__")) = some (.type "function") := by
  obtain ⟨c1, c2⟩ := ba c
  exact ⟨eqO_ok c1, of_decide_eq_true c2⟩
theorem kit_ok {x y : Str} {b : Bool} (c : (Fy.kit x y b).ok K = true) : PySem.W.kitOne K (.ref (ga K x)) (.ref (ga K y)) = some b := of_decide_eq_true c
theorem kitT_ok {x : Str} {T : String} {b : Bool} (c : (Fy.kitT x T b).ok K = true) : PySem.W.kitOne K (.ref (ga K x)) (.type T) = some b := of_decide_eq_true c
theorem names_ok {x : Str} {zs : List Str} (c : (Fy.names x zs).ok K = true) {z : Str} (hz : z ∈ zs) : PySem.W.findIn K (.ref (ga K x)) z = some none := eqO_ok (List.all_eq_true.mp c z hz)
end
/-! ### the hook: any truths of the written part, in groups -/
abbrev Fz := List (Fg → Bool)
def obsY (fs : Fz) (fn : List DefD) (K : Fg) : AlD := ((fs.all fun f => f K) && fn.all fun d => d.ok K, fn.map fun d => fnW K d.at_)
def SaysY (fs : Fz) (fn : List DefD) (K : Fg) : Prop := obsY fs fn K = valD fn
def obsYG (n : Nat) (fs : Fz) (fn : List DefD) (g : Addr → Option Obj) : AlD := obsY fs fn (frG g (asD g n))
def hookY (n : Nat) (fs : Fz) (fn : List DefD) : PySem.W.Hook where
  α := AlD
  obs := fun s => obsYG n fs fn s.heap.get?
  val := fun _ => valD fn
  says := fun _ h => ∃ K : Fg, K.In h ∧ SaysY fs fn K
  of := fun _ _ e => ⟨_, frG_in, e⟩
  keeps := fun _ _ _ ⟨K, hK, c⟩ k => ⟨K, PySem.W.Frag.In.keeps hK k, c⟩
theorem obsYG_eq {n : Nat} {fs : Fz} {fn : List DefD} {g : Addr → Option Obj} {s : Shared} (h : ∀ a, g a = s.heap.get? a) : obsYG n fs fn g = (hookY n fs fn).obs s := by
  have e : g = s.heap.get? := funext h
  rw [e] <;> rfl
section
variable {fs : Fz} {fn : List DefD} {K : Fg}
theorem SaysY.fact (c : SaysY fs fn K) (i : Nat) {f : Fg → Bool} (h : fs[i]? = some f := by rfl) : f K = true := by
  have c1 := (ba (show ((fs.all fun f => f K) && fn.all fun d => d.ok K) = true from congrArg (fun z : AlD => z.1) c)).1
  exact List.all_eq_true.mp c1 f (List.mem_of_getElem? h)
theorem SaysY.def_ (c : SaysY fs fn K) (i : Nat) {d : DefD} (h : fn[i]? = some d := by rfl) : ∃ fd, FunD K d.name d.qual d.params d.body d.scope (d.dvs K) (d.kws K) (fAd K d.at_) fd := by
  have c2 := (ba (show ((fs.all fun f => f K) && fn.all fun d => d.ok K) = true from congrArg (fun z : AlD => z.1) c)).2
  have e : fn.map (fun d => fnW K d.at_) = fn.map DefD.val := congrArg (fun z : AlD => z.2) c
  have e2 : (fn.map fun d => fnW K d.at_)[i]? = (fn.map DefD.val)[i]? := by rw [e]
  rw [List.getElem?_map, List.getElem?_map, h] at e2
  exact DefD.funD (Option.some.inj e2) (List.all_eq_true.mp c2 d (List.mem_of_getElem? h))
/-- a group told of each item of a list -/
theorem of_all {α : Type} {l : List α} {f : α → Bool} (h : l.all f = true) {x : α} (hx : x ∈ l) : f x = true := List.all_eq_true.mp h x hx
end
/-! ### defs as data -/
abbrev FnP (K : Fg) (x qual : Str) (st : Stmt) (f : Addr) (fd : FuncData) : Prop := FunD K x qual (defArgs st) (defBody st) (defScope st) [] [] f fd
theorem _root_.L2.FunD.okG {P : Program} {w : World} {K : Fg} {mg : Str → Option Value} {base : Heap} {CX : CXT} {x qual : Str} {params : Arguments} {body : List Stmt} {scope : Scope} {dvs : List V} {kws : List (Str × V)} {f : Addr} {fd : FuncData} {N ps : List Str} {k : Nat} {sp : Sp}
    (F : FunD K x qual params body scope dvs kws f fd) (S : FnScope N ps scope) (len : ∀ vs H Q E, sp vs H Q E → vs.length = ps.length)
    (hbody : ∀ (cdv : Value) (A : Around) (outer : List Env) (s : Shared) (H : Hp) (vs : List V) (Q : VK) (E : XK), Room k (A.deeper (envOfC qual scope s.heap.objs.size f cdv)) → NoG (A.deeper (envOfC qual scope s.heap.objs.size f cdv)) → sp vs H Q E →
      ∃ t, PSs (cxOf CX P w K mg base N qual scope f cdv A outer s H E) body t ∧ t { nx := fun _ H' => Q .non H', rt := Q } (start N vs) H) : FnG P w K mg base CX (k + 1) f fd ps sp := by
  obtain ⟨oc, od, dV, kV, doc, pm, an, cdv, ct, osl, rfl, lk, hcd, _, _⟩ := F.ex
  exact fng lk hcd S len fun A outer s H vs Q E hr hg hsp => hbody cdv A outer s H vs Q E hr hg hsp
/-! ### the law's end over facts -/
theorem walk_ofEG {l : PySem.W.OpenLaw} {n k : Nat} {q : Program} {loose : List Str} {XP : (Str → Option Value) → Heap → Prop} {YP : World → Heap → Prop} {d : DefRec} {CX : CXT} {x : Str}
    (hn : l.most = some n) (hn2 : n ≤ sizeLine) (hdf : d.params.defaults = []) (hr : Room k callerA)
    (F : ∀ (w : World) (mg : Str → Option Value) (fa : Addr) (h : Heap), YP w h → h.Ns mainGlobals mg → mg d.name = some (.ref fa) →
      ∃ (K : Fg) (fd : FuncData) (sp : Sp), K.In h ∧ (∀ (s : Shared) (u : Value), BindsTo s fd ⟨[u], []⟩ [(x, u)]) ∧
        (∀ (H : Hp) (a : Addr) (ns : List Int), ns.length ≤ n → Only H → SqL K H a (ns.map V.int) → sp [.ref a] H (fun v _ => v = .bl true) fun _ _ _ => False) ∧
        ∀ base : Heap, K.In base → base.Ns mainGlobals mg → FnG l.prog w K mg base CX k fa fd [x] sp)
    (hCX : ∀ (H : Hp) (s : Shared) (e : Value) (s' : Shared), CX [] H s (fun _ _ _ => False) e s' → False) :
    PySem.W.WalkO q loose XP YP l.row.toRowW d [] (fun f vs => PySem.call f vs) := by
  refine Att.attach_call hn hdf fun w s₀ s₁ mg mb fa o pm cd doc a vs ns G Y ho hd hcd hmg hobj hints hlen hg => ?_
  obtain ⟨K, fd, sp, KX, hb, hsp, hF⟩ := F w mg fa _ Y G.T.g hmg
  exact law_endG KX G.T.g G.T.b G.T.builtins G.T.nolimit hg hobj hints (Nat.le_trans hlen hn2) hr hF hb (fun H hO hS => hsp H a ns hlen hO hS) fun H e s' => hCX H s₁ e s'
end Tw
/-! Tw: new objects, told by what holds of the heap behind them alone. -/
namespace Tw
open PySem PySem.Spec PyProof.Rows L2
theorem same_new {H : Hp} {p : Addr} {o : HO} (h : H p = none) : Same H (upd H p o) := fun b u e => by
  rw [upd_ne (ne_of_none e h)]
  exact e
section
variable {X : Cx} {es : List Expr} {t : TA} {pos : Pos}
/-- a new object o: its place, the heap behind -/
def New (H : Hp) (o : HO) (Q : Addr → Hp → Prop) : Prop := ∀ (p : Addr) (H' : Hp), H p = none → p ≠ sysModules → Same H H' → H' p = some o → Q p H'
theorem New.at {H : Hp} {o : HO} {Q : Addr → Hp → Prop} (h : New H o Q) {p : Addr} (h1 : H p = none) (h2 : p ≠ sysModules) : Q p (upd H p o) := h p _ h1 h2 (same_new h1) upd_same
def tLstN (t : TA) : TE := fun σ H Q => t σ H fun xs H1 => xs.length ≤ sizeLine ∧ New H1 (.lst xs) fun p H' => Q (.ref p) H'
theorem pe_lstN (h : PA X es t) : PE X (.List es pos) (tLstN t) := by
  refine ⟨fun pins s σ H Q I hq => wpAny_List_spliced (thn (h.run pos pins s σ H _ I hq) fun us s1 ⟨xs, H1, I1, r, z, q⟩ => ⟨by rw [← r.length]; exact z, ?_⟩)⟩
  exact ⟨.ref s1.heap.objs.size, upd H1 s1.heap.objs.size (.lst xs), I1.laid (t' := s1.toks) (fun b u e => Heap.get?_push_of_some _ e) (Nat.le_refl _) ⟨z, us, 0, r, Heap.get?_push_size _ rfl⟩, rfl, q.at (I1.hok.fresh (Nat.le_refl _)) (Nat.ne_of_gt I1.big)⟩
def tTupN (t : TA) : TE := fun σ H Q => t σ H fun xs H1 => xs.length ≤ sizeLine ∧ ∀ (p : Addr) (H' : Hp), H1 p = none → Same H1 H' → H' p = some (.tup xs) → Q (.ref p) H'
theorem pe_tupN {x1} (h : PA X es t) : PE X (.Tuple es x1 pos) (tTupN t) := by
  refine ⟨fun pins s σ H Q I hq => wpAny_Tuple_spliced (thn (h.run pos pins s σ H _ I hq) fun us s1 ⟨xs, H1, I1, r, z, q⟩ => ⟨by rw [← r.length]; exact z, ?_⟩)⟩
  have hf : H1 s1.heap.objs.size = none := I1.hok.fresh (Nat.le_refl _)
  exact ⟨.ref s1.heap.objs.size, upd H1 s1.heap.objs.size (.tup xs), I1.laid (t' := s1.toks) (fun b u e => Heap.get?_push_of_some _ e) (Nat.le_refl _) ⟨z, us, r, _, Heap.get?_push_size _ rfl, rfl, 0, rfl⟩, rfl, q _ _ hf (same_new hf) upd_same⟩
def tDnewN : TE := fun _ H Q => New H (.dK []) fun p H' => Q (.ref p) H'
theorem pe_dnewN : PE X (.Dict [] [] pos) tDnewN := ⟨fun pins s σ H Q I h =>
  wpAny_Dict_empty ⟨.ref s.heap.objs.size, _, I.laid (a := s.heap.objs.size) (o := .dK []) (t' := s.toks) (fun _ _ q => Heap.get?_push_of_some _ q) (Nat.le_refl _) (dk_empty s.heap I.big), rfl, h.at (I.hok.fresh (Nat.le_refl _)) (Nat.ne_of_gt I.big)⟩⟩
def rCatN : R2 := fun x y H Q => ∃ l b xs zs, x = .ref l ∧ y = .ref b ∧ H l = some (.lst xs) ∧ H b = some (.lst zs) ∧ xs.length + zs.length ≤ sizeLine ∧ New H (.lst (xs ++ zs)) fun p H' => Q (.ref p) H'
theorem op_catN : OpR X (binaryOp .Add) rCatN := by
  intro pins s σ H x y v u Q I rx ry h
  obtain ⟨l, b, xs, zs, rfl, rfl, hH, hB, hz, q⟩ := h
  cases rx
  cases ry
  obtain ⟨z, its, n, r, hl, e⟩ := I.lstM hH
  obtain ⟨z2, its2, n2, r2, hl2, e2⟩ := I.lstM hB
  refine PySem.P.add_list e e2 ?_ (by rw [List.size_toArray, List.size_toArray]; omega)
  rw [show its.toArray ++ its2.toArray = (its ++ its2).toArray by simp]
  exact ⟨.ref _, _, I.lnew (t' := s.toks) (r.append r2) (by rw [List.length_append]; omega), rfl, q.at I.fresh (Nat.ne_of_gt I.big)⟩
end
end Tw
namespace Tw
open PySem PySem.Spec PyProof.Rows L2
theorem room70 {k : Nat} {A : Around} (r : Room k A) : A.units + 70 < cLine := by
  have := r.un
  omega
section
variable {X : Cx} {K : PySem.W.Frag}
theorem ixl (K : PySem.W.Frag) (h : X.K = K := by rfl) : IxR X (rIxL K) := by
  subst h
  exact ix_list
theorem ixt (K : PySem.W.Frag) (h : X.K = K := by rfl) : IxR X (rIxT K) := by
  subst h
  exact ix_tup
end
end Tw
/-! Tw, part 5: the pen that draws. -/
namespace Tw
open PySem PySem.Spec PyProof.Rows L2 He
/-- a statement, what holds behind it on every way, the rest once -/
def tMid (t u : TS) : TS := fun D σ H => ∃ W : L2.St → Hp → Prop, t { D with nx := W } σ H ∧ ∀ σ' H', W σ' H' → u D σ' H'
theorem pss_mid {X : Cx} {st : Stmt} {rest : List Stmt} {t u : TS} (h1 : PS X st t) (h2 : PSs X rest u) : PSs X (st :: rest) (tMid t u) :=
  ⟨fun pins s σ H D I ⟨W, hm, hu⟩ => wpAny_execs_cons (thn (h1.run pins s σ H { D with nx := W } I hm) fun f s1 q => match f, q with
    | .next, ⟨σ', H', I', q⟩ => h2.run pins s1 σ' H' D I' (hu σ' H' q)
    | .ret _, q => q
    | .brk, q => q
    | .cont, q => q)⟩
/-- all that was tracked but p stands -/
def But (p : Addr) (H H' : Hp) : Prop := ∀ b o, H b = some o → b ≠ p → H' b = some o
theorem But.refl {p : Addr} (H : Hp) : But p H H := fun _ _ e _ => e
theorem But.trans {p : Addr} {H H1 H2 : Hp} (a : But p H H1) (b : But p H1 H2) : But p H H2 := fun c o e h => b c o (a c o e h) h
theorem But.of {p : Addr} {H H' : Hp} (e : Same H H') : But p H H' := fun b o h _ => e b o h
theorem But.upd {p : Addr} {H : Hp} {o : HO} : But p H (upd H p o) := fun b u e h => by
  rw [upd_ne h]
  exact e
/-- the pen: the script's ints, the number of draws so far, what is left of a great number -/
def PenAt (H : Hp) (p : Addr) (c : Nat) : Prop := ∃ (l : Addr) (ns : List Int) (i g : Int), H p = some (.lst [.ref l, .int i, .int g]) ∧ H l = some (.lst (ns.map V.int)) ∧ l ≠ p ∧ ns.length ≤ 63 ∧ 0 ≤ i ∧ i ≤ (c : Int) ∧ 0 ≤ g
theorem PenAt.mono {H : Hp} {p : Addr} {c c' : Nat} (h : PenAt H p c) (hc : c ≤ c') : PenAt H p c' := by
  obtain ⟨l, ns, i, g, h1, h2, h3, h4, h5, h6, h7⟩ := h
  exact ⟨l, ns, i, g, h1, h2, h3, h4, h5, by omega, h7⟩
theorem PenAt.same {H H' : Hp} {p : Addr} {c : Nat} (e : Same H H') (h : PenAt H p c) : PenAt H' p c := by
  obtain ⟨l, ns, i, g, h1, h2, h3⟩ := h
  exact ⟨l, ns, i, g, e _ _ h1, e _ _ h2, h3⟩
/-- a draw: below many, the pen one further, nothing else touched -/
def spDraw : Sp := fun vs H Q _ => ∃ (p : Addr) (m : Int) (c : Nat), vs = [.ref p, .int m] ∧ 0 < m ∧ m < 1073741824 ∧ PenAt H p c ∧ c ≤ 1000000 ∧
  ∀ (r : Int) (H' : Hp), 0 ≤ r → r < m → PenAt H' p (c + 1) → But p H H' → Q (.int r) H'
theorem dp_ints {K : Fg} {H : Hp} : ∀ ns : List Int, DpAll K H (ns.map V.int) (ns.map PyData.int)
  | [] => .nil
  | n :: ns => .cons (.int n) (dp_ints ns)
theorem lay_ints : ∀ ns : List Int, PyData.canLayAll0 (ns.map PyData.int) = true ∧ PyData.depthAll (ns.map PyData.int) = 0
  | [] => ⟨rfl, rfl⟩
  | n :: ns => by
    obtain ⟨h1, h2⟩ := lay_ints ns
    constructor
    · simp only [List.map_cons, PyData.canLayAll0, PyData.canLay0, h1, Bool.and_self]
    · simp only [List.map_cons, PyData.depthAll, PyData.depth, h2, Nat.max_self]
theorem shaped_ints (ns : List Int) : SeqAt.shaped (.list (ns.map PyData.int)) = true := by
  obtain ⟨h1, h2⟩ := lay_ints ns
  simp [SeqAt.shaped, PyData.canLay0, PyData.depth, h1, h2]
theorem atI_of {xs : List V} {i : Int} {v : V} (h0 : 0 ≤ i) (h : xs[i.toNat]? = some v) : atI xs i = some v := by
  have e : i = (i.toNat : Int) := (Int.toNat_of_nonneg h0).symm
  rw [e]
  exact atI_nat h
theorem mul_le' {a b A B : Int} (h1 : 0 ≤ a) (h2 : a ≤ A) (h3 : 0 ≤ b) (h4 : b ≤ B) : 0 ≤ a * b ∧ a * b ≤ A * B :=
  ⟨Int.mul_nonneg h1 h3, Int.mul_le_mul h2 h4 h3 (Int.le_trans h1 h2)⟩
theorem pow_ok (i : Int) (h0 : 0 ≤ i) (h : i < 2 ^ 64) : i.natAbs < 2 ^ 64 := by omega
end Tw
namespace Tw
open PySem PySem.Spec PyProof.Rows L2 He
theorem But.seq {K : Fg} {p a : Addr} {H H' : Hp} {xs : List V} (e : But p H H') (hne : a ≠ p) (h : SqL K H a xs) : SqL K H' a xs := by
  rcases h with (h | ⟨o, h⟩) | h
  · exact .inl (.inl (e _ _ h hne))
  · exact .inl (.inr ⟨o, e _ _ h hne⟩)
  · exact .inr h
theorem cut_ints (ns : List Int) (lo hi : Option Int) : ∃ ms : List Int, cutV (ns.map V.int) lo hi = ms.map V.int ∧ ms.length ≤ ns.length := by
  refine ⟨(ns.drop (HT.sIx (ns.map V.int).length 0 lo)).take (HT.sIx (ns.map V.int).length (ns.map V.int).length hi - HT.sIx (ns.map V.int).length 0 lo), ?_, ?_⟩
  · unfold cutV
    rw [List.map_take, List.map_drop]
  · rw [List.length_take, List.length_drop]
    omega
/-- a new pen -/
def spPen (K : Fg) : Sp := fun vs H Q _ => ∃ (a : Addr) (ns : List Int), vs = [.ref a] ∧ SqL K H a (ns.map V.int) ∧ ns.length ≤ 63 ∧ ∀ (p : Addr) (H' : Hp), H p = none → PenAt H' p 0 → Same H H' → Q (.ref p) H'
/-- an item of a list that is not the pen, drawn -/
def spPick (K : Fg) : Sp := fun vs H Q _ => ∃ (p q : Addr) (xs : List V) (c : Nat), vs = [.ref p, .ref q] ∧ SqL K H q xs ∧ q ≠ p ∧ 0 < xs.length ∧ xs.length < 1000 ∧ PenAt H p c ∧ c ≤ 1000000 ∧
  ∀ (v : V) (H' : Hp), v ∈ xs → PenAt H' p (c + 1) → But p H H' → Q v H'
/-- the heap without the pen -/
def hid (p : Addr) (H : Hp) : Hp := fun b => if b = p then none else H b
theorem hid_ne {p b : Addr} {H : Hp} (h : b ≠ p) : hid p H b = H b := if_neg h
theorem hid_same {p : Addr} {H : Hp} : Same (hid p H) H := fun b o e => by
  unfold hid at e
  split at e
  · cases e
  · exact e
theorem hid_but {p : Addr} {H H' : Hp} (e : But p H H') : Same (hid p H) (hid p H') := fun b o h => by
  unfold hid at h ⊢
  split at h
  · cases h
  · rename_i hb
    rw [if_neg hb]
    exact e b o h hb
theorem sqT_same {K : Fg} {H H' : Hp} {a : Addr} {xs : List V} (e : Same H H') (h : SqT K H a xs) : SqT K H' a xs := by
  rcases h with (h | ⟨o, h⟩) | h
  · exact .inl (.inl (e _ _ h))
  · exact .inl (.inr ⟨o, e _ _ h⟩)
  · exact .inr h
mutual
theorem Dx.same {K : Fg} {H H' : Hp} (e : Same H H') : ∀ {v : V} {d : PyData}, Dx K H v d → Dx K H' v d
  | _, _, .non => .non
  | _, _, .bl b => .bl b
  | _, _, .int i => .int i
  | _, _, .str x => .str x
  | _, _, .lst h n a => .lst (e.seq h) n (DxAll.same e a)
  | _, _, .tup h a => .tup (sqT_same e h) (DxAll.same e a)
  | _, _, .dic h a => .dic (e _ _ h) (DxAll.same e a)
theorem DxAll.same {K : Fg} {H H' : Hp} (e : Same H H') : ∀ {vs : List V} {ds : List PyData}, DxAll K H vs ds → DxAll K H' vs ds
  | _, _, .nil => .nil
  | _, _, .cons h t => .cons (Dx.same e h) (DxAll.same e t)
end
theorem sz1000 {n : Nat} (h : n ≤ 1000) : n ≤ sizeLine := Nat.le_trans h (by decide)
end Tw
/-! Tw: the pen again, its list of cells named: so that a list that grows beside it is known to be another one. -/
namespace Tw
open PySem PySem.Spec PyProof.Rows L2 He
/-- the pen at p, its cells at l -/
def PenL (H : Hp) (p l : Addr) (c : Nat) : Prop := ∃ (ns : List Int) (i g : Int), H p = some (.lst [.ref l, .int i, .int g]) ∧ H l = some (.lst (ns.map V.int)) ∧ l ≠ p ∧ ns.length ≤ 63 ∧ 0 ≤ i ∧ i ≤ (c : Int) ∧ 0 ≤ g
theorem PenL.mono {H : Hp} {p l : Addr} {c c' : Nat} (h : PenL H p l c) (hc : c ≤ c') : PenL H p l c' := by
  obtain ⟨ns, i, g, h1, h2, h3, h4, h5, h6, h7⟩ := h
  exact ⟨ns, i, g, h1, h2, h3, h4, h5, by omega, h7⟩
theorem PenL.same {H H' : Hp} {p l : Addr} {c : Nat} (e : Same H H') (h : PenL H p l c) : PenL H' p l c := by
  obtain ⟨ns, i, g, h1, h2, h3⟩ := h
  exact ⟨ns, i, g, e _ _ h1, e _ _ h2, h3⟩
/-- another object than the pen and its cells changes -/
theorem PenL.upd {H : Hp} {p l q : Addr} {c : Nat} {o : HO} (h : PenL H p l c) (h1 : q ≠ p) (h2 : q ≠ l) : PenL (L2.upd H q o) p l c := by
  obtain ⟨ns, i, g, e1, e2, r⟩ := h
  exact ⟨ns, i, g, by rw [upd_ne h1.symm]; exact e1, by rw [upd_ne h2.symm]; exact e2, r⟩
/-- what is new is neither -/
theorem PenL.new {H : Hp} {p l q : Addr} {c : Nat} (h : PenL H p l c) (hq : H q = none) : q ≠ p ∧ q ≠ l := by
  obtain ⟨ns, i, g, e1, e2, r⟩ := h
  exact ⟨(ne_of_none e1 hq).symm, (ne_of_none e2 hq).symm⟩
def spDrawL : Sp := fun vs H Q _ => ∃ (p l : Addr) (m : Int) (c : Nat), vs = [.ref p, .int m] ∧ 0 < m ∧ m < 1073741824 ∧ PenL H p l c ∧ c ≤ 1000000 ∧
  ∀ (r : Int) (H' : Hp), 0 ≤ r → r < m → PenL H' p l (c + 1) → But p H H' → Q (.int r) H'
def spPenL (K : Fg) : Sp := fun vs H Q _ => ∃ (a : Addr) (ns : List Int), vs = [.ref a] ∧ SqL K H a (ns.map V.int) ∧ ns.length ≤ 63 ∧ ∀ (p l : Addr) (H' : Hp), H p = none → PenL H' p l 0 → Same H H' → Q (.ref p) H'
def spPickL (K : Fg) : Sp := fun vs H Q _ => ∃ (p l q : Addr) (xs : List V) (c : Nat), vs = [.ref p, .ref q] ∧ SqL K H q xs ∧ q ≠ p ∧ 0 < xs.length ∧ xs.length < 1000 ∧ PenL H p l c ∧ c ≤ 1000000 ∧
  ∀ (v : V) (H' : Hp), v ∈ xs → PenL H' p l (c + 1) → But p H H' → Q v H'
end Tw
/-! Tw: repr of any data, get of a written dict, isinstance against a tuple of classes, tuples of the written part, the hook with tables. -/
namespace Tw
open PySem PySem.Spec PyProof.Rows L2 He
section
variable {X : Cx}
/-- repr(x), x any data -/
def rReprV (K : PySem.W.Frag) : List V → Hp → VK → Prop := fun xs H Q => ∃ (v : V) (d : PyData), xs = [v] ∧ Dx K H v d ∧ mild d = true ∧ d.depth ≤ 64 ∧ cap d ≤ 16777216 ∧ Q (.str d.shown) H
theorem call_reprV (hG : NoG X.A) (hu : X.A.units + 70 < cLine) : CallR X (.builtin "repr") (rReprV X.K) := by
  intro pins s σ H xs us Q I r h
  obtain ⟨v, d, rfl, hd, hm, hdp, hc, q⟩ := h
  have hl := Nat.le_trans (shown_le d hm) (show cap d ≤ sizeLine by rw [sizeLine_eq]; exact hc)
  cases v with
  | ref a => exact call_repr hG hu pins s σ H _ us Q I r ⟨a, d, rfl, hd, hm, hdp, hc, q⟩
  | non =>
    cases hd
    obtain ⟨u, rfl, ru⟩ := vals1 r
    cases ru
    exact PySem.P.repr_of_none ⟨.str _, H, I.tok _, ⟨_, rfl⟩, by simpa only [PyData.shown] using q⟩
  | bl b =>
    cases hd
    obtain ⟨u, rfl, ru⟩ := vals1 r
    cases ru
    exact PySem.P.repr_of_bool ⟨.str _, H, I.tok _, ⟨_, rfl⟩, by simpa only [PyData.shown] using q⟩
  | int i =>
    cases hd
    obtain ⟨u, rfl, t, rfl⟩ := vals1 r
    exact PySem.P.repr_of_int (by simpa [mild] using hm) ⟨.str _, H, I.tok _, ⟨_, rfl⟩, by simpa only [PyData.shown] using q⟩
  | str x =>
    cases hd
    obtain ⟨u, rfl, t, rfl⟩ := vals1 r
    exact PySem.P.repr_of_str ⟨.str _, H, I.tok _, ⟨_, rfl⟩, by simpa only [PyData.shown] using q⟩ (by simpa only [PyData.shown] using hl)
  | _ => cases hd
/-- isinstance(x, (C, D, ..)), x anything that is known, errors too -/
def rIsAT (K : PySem.W.Frag) : List V → Hp → VK → Prop := fun xs H Q => ∃ (x : V) (tp : Addr) (cs : List V) (t : Value) (us : List Value) (b : Bool), xs = [x, .ref tp] ∧ H tp = some (.tup cs) ∧ Paired ClsV cs us ∧
  (TyX K H x t ∨ ∃ (a C : Addr) (d : Addr) (fs : List (Str × V)), x = .ref a ∧ t = .ref C ∧ IsX H a C (some d) ∧ IsXd H d fs ∧ XC K C ∧ XO K) ∧ PySem.W.kitAny K t us = some b ∧ Q (.bl b) H
theorem call_isAT : CallR X (.builtin "isinstance") (rIsAT X.K) := by
  intro pins s σ H xs us Q I r h
  obtain ⟨x, tp, cs, t, ws, b, rfl, hT, k, ty, e, q⟩ := h
  obtain ⟨u1, u2, rfl, r1, r2⟩ := vals2 r
  cases (show u2 = Value.ref tp from r2)
  obtain ⟨_, its, rv, o, h1, h2, n, h3⟩ := (show ObjOk X.prog X.w H s.heap tp (.tup cs) from I.hok tp _ hT)
  have e3 := ClsV.all k rv
  subst e3
  obtain ⟨oc, od, dt, sl⟩ := o
  simp only at h2 h3
  subst h2 h3
  rcases ty with ty | ⟨a, C, d, fs, rfl, rfl, ia, idd, T, O⟩
  · obtain ⟨P, Z, p, hx⟩ := kit_of I r1 ty
    exact PySem.W.kia_tup Z I.kIn p h1 e hx fun tk => ⟨.bl b, H, I.tok tk, rfl, q⟩
  · cases (show u1 = Value.ref a from r1)
    obtain ⟨oe, vs, ho, hz, hdt⟩ := ia.get I.hok
    obtain ⟨mA, hns, hr⟩ := idd.get I.hok
    obtain ⟨od, hod, hlk⟩ := lookIn_ns hns
    have J : PySem.W.InstAt s.heap a oe C (some od) := ⟨ho, hz.1, by unfold PySem.W.notCls; rw [hdt] <;> rfl, by rw [hz.2]; exact hod⟩
    exact PySem.W.kia_tup (PySem.W.kitx_exc (od := some od) (oexC_cl T.ox) T.ga T.gg T.ox.exC T.ca O.hn O.ht T.cm) I.kIn J h1 e (fun z => nomatch z) fun tk => ⟨.bl b, H, I.tok tk, rfl, q⟩
end
/-- d.get(y, x), d a dict of the top with text keys -/
def tKGet2 (K : PySem.W.Frag) (d : Addr) (td ty tx : TE) : TE := fun σ H Q => td σ H fun x H1 => x = .ref d ∧ ty σ H1 fun y H2 => ∃ z, y = .str z ∧ tx σ H2 fun q H3 => ∃ (r : Option Value) (v : V), PySem.W.nsIn K d z = some r ∧ (∀ u, RelV q u → RelV v (r.getD u)) ∧ Q v H3
section
variable {X : Cx} {o e f : Expr} {apos cpos : Pos} {td ty tx : TE} {d : Addr} {es : Array DictEntry} {n : Nat}
theorem pe_kget2 (D : KDict X.K X.w d es n) (ho : PE X o td) (he : PE X e ty) (hf : PE X f tx) (m : M2 X o "get" apos e f cpos) : PE X (.Call (.Attribute o "get" apos) [e, f] [] cpos) (tKGet2 X.K d td ty tx) := by
  refine ⟨fun pins s σ H Q I h => ?_⟩
  refine wpAny_Call_method m.base m.few m.line PySem.F.plainAttrs_dict PySem.F.slot_dict_get PySem.F.type_dict_get (thn (ho.run pins s σ H _ I h) fun u s1 ⟨x, H1, I1, rx, ex, q1⟩ => ?_)
  subst ex
  obtain rfl : u = Value.ref d := rx
  refine ⟨kd_type D I1, fun b q => by cases q; exact ⟨_, I1.kIn _ _ D.at_, rfl⟩, ?_⟩
  rw [m.trees]
  refine Calls.callWith_builtin rfl (Calls.evalArgs_plain (Calls.spliced_cons (thn (he.run pins s1 σ H1 _ I1 q1) fun iv s2 ⟨y, H2, I2, ry, z, ez, q2⟩ =>
    Calls.spliced_cons (thn (hf.run pins s2 σ H2 _ I2 q2) fun fv s3 ⟨q, H3, I3, rq, r, v, er, hv, q3⟩ => Calls.spliced_nil ?_))))
  subst ez
  obtain ⟨t, rfl⟩ := ry
  refine call_meetsIn PySem.F.slot_dict_get (kd_type D I3) PySem.F.entry_dict_get (PySem.F.args_dict_get_3 _ _ _) (meets_dict_get_default (PySem.strKind X.prog X.w) d (PySem.strKind_is X.prog X.w z t) D.low fv) ⟨_, PySem.W.mapOf_K (prog := X.prog) I3.kIn D.at_ D.lit, ?_⟩
  rw [PySem.W.find_K D.at_ er]
  exact ⟨v, H3, I3.tok _, hv _ rq, q3⟩
end
/-! ### tuples of the written part -/
def tupB (K : Fg) (a : Addr) (vs : List V) : Bool := match K.lookup a with
  | some ⟨.type t, _, .seq its _, _⟩ => decide (t = "tuple") && (decide (its.size ≤ 1000) && relAll vs its.toList)
  | _ => false
theorem tupB_ok {K : Fg} {a : Addr} {vs : List V} (h : tupB K a vs = true) (H : Hp) : SqT K H a vs := by
  unfold tupB at h
  cases e : K.lookup a with
  | none =>
    rw [e] at h
    cases h
  | some o =>
    rw [e] at h
    obtain ⟨oc, od, dt, sl⟩ := o
    cases oc with
    | type t =>
      cases dt with
      | seq its n =>
        obtain ⟨h1, h⟩ := ba h
        obtain ⟨h2, h3⟩ := ba h
        have e1 := of_decide_eq_true h1
        subst e1
        exact .inr ⟨_, its, n, e, rfl, rfl, Nat.le_trans (of_decide_eq_true h2) (by decide), relAll_ok h3⟩
      | _ => cases h
    | _ => cases h
/-- C.f, a constant read off the class -/
def cvalB (K : Fg) (C : Addr) (f : Str) (v : V) : Bool := match PySem.W.findCls K (.ref C) (.type "type") f with
  | some (.val u) => relB v u
  | _ => false
theorem cvalB_ok {K : Fg} {C : Addr} {f : Str} {v : V} (h : cvalB K C f v = true) : ∃ u, ClX.CVal K C (.type "type") f v u := by
  unfold cvalB at h
  split at h
  · rename_i u e
    exact ⟨u, e, relB_ok h⟩
  · cases h
def creadB (K : Fg) (C : Addr) : Bool := PySem.W.readsIn K C (.type "type") && eqO (PySem.W.specialIn K (.ref C) "__getattribute__") (some (some (.builtin "type.__getattribute__")))
theorem creadB_ok {K : Fg} {C : Addr} (h : creadB K C = true) : ClX.CRead K C (.type "type") := by
  obtain ⟨h1, h2⟩ := ba h
  exact ⟨h1, eqO_ok h2⟩
/-! ### the hook with tables -/
abbrev AlYT : Type := AlD × List (Option (List (Option (Str × Int))))
def obsYT (fs : Fz) (fn : List DefD) (ts : List Tab) (K : Fg) : AlYT := (obsY fs fn K, ts.map fun t => dicW K (t.1 K))
def valYT (fn : List DefD) (ts : List Tab) (w : World) : AlYT := (valD fn, ts.map fun t => some (keysIn w.params t.2))
def obsYTG (n : Nat) (fs : Fz) (fn : List DefD) (ts : List Tab) (g : Addr → Option Obj) : AlYT := obsYT fs fn ts (frG g (asD g n ++ [cStatics]))
def SaysYT (fs : Fz) (fn : List DefD) (ts : List Tab) (w : World) (K : Fg) : Prop := obsYT fs fn ts K = valYT fn ts w
def hookYT (n : Nat) (fs : Fz) (fn : List DefD) (ts : List Tab) : PySem.W.Hook where
  α := AlYT
  obs := fun s => obsYTG n fs fn ts s.heap.get?
  val := fun w => valYT fn ts w
  says := fun w h => ∃ K : Fg, K.In h ∧ SaysYT fs fn ts w K
  of := fun _ _ e => ⟨_, frG_in, e⟩
  keeps := fun _ _ _ ⟨K, hK, c⟩ k => ⟨K, PySem.W.Frag.In.keeps hK k, c⟩
theorem obsYTG_eq {n : Nat} {fs : Fz} {fn : List DefD} {ts : List Tab} {g : Addr → Option Obj} {s : Shared} (h : ∀ a, g a = s.heap.get? a) : obsYTG n fs fn ts g = (hookYT n fs fn ts).obs s := by
  have e : g = s.heap.get? := funext h
  rw [e] <;> rfl
section
variable {fs : Fz} {fn : List DefD} {ts : List Tab} {w : World} {K : Fg}
theorem SaysYT.y (c : SaysYT fs fn ts w K) : SaysY fs fn K := congrArg (fun z : AlYT => z.1) c
theorem SaysYT.tab (c : SaysYT fs fn ts w K) (i : Nat) {t : Tab} (h : ts[i]? = some t := by rfl) : ∃ es n, KDict K w (t.1 K) es n := by
  have e : ts.map (fun t => dicW K (t.1 K)) = ts.map fun t => some (keysIn w.params t.2) := congrArg (fun z : AlYT => z.2) c
  have e2 : (ts.map fun t => dicW K (t.1 K))[i]? = (ts.map fun t => some (keysIn w.params t.2))[i]? := by rw [e]
  rw [List.getElem?_map, List.getElem?_map, h] at e2
  exact dicW_ok (Option.some.inj e2)
end
/-! ### small texts -/
/-- signs below 128, at most n -/
def Small (n : Nat) (z : Str) : Prop := z.length ≤ n ∧ ∀ c ∈ z.cps.toList, c < 128
theorem Small.app {m n : Nat} {x y : Str} (hx : Small m x) (hy : Small n y) : Small (m + n) (x ++ y) := by
  refine ⟨by rw [Str.length_append]; exact Nat.add_le_add hx.1 hy.1, fun c hc => ?_⟩
  rw [show (x ++ y).cps.toList = TL.tl (x ++ y) from rfl, TL.tl_append] at hc
  rcases List.mem_append.mp hc with q | q
  · exact hx.2 c q
  · exact hy.2 c q
theorem Small.cut {n : Nat} {x : Str} (hx : Small n x) (lo hi : Option Int) : Small n (cutS x lo hi) := by
  refine ⟨Nat.le_trans (cutS_length x lo hi) hx.1, fun c hc => hx.2 c ?_⟩
  unfold cutS at hc
  exact List.mem_of_mem_drop (List.mem_of_mem_take (by simpa using hc))
theorem Small.mono {m n : Nat} {x : Str} (hx : Small m x) (h : m ≤ n) : Small n x := ⟨Nat.le_trans hx.1 h, hx.2⟩
theorem Small.mild {n : Nat} {x : Str} (hx : Small n x) : Tw.mild (.str x) = true := by
  unfold Tw.mild
  rw [List.all_eq_true]
  exact fun c hc => decide_eq_true (Nat.lt_trans (hx.2 c hc) (by decide))
def smallB (n : Nat) (z : Str) : Bool := decide (z.length ≤ n) && z.cps.toList.all fun c => decide (c < 128)
theorem smallB_ok {n : Nat} {z : Str} (h : smallB n z = true) : Small n z := by
  obtain ⟨h1, h2⟩ := ba h
  exact ⟨of_decide_eq_true h1, fun c hc => of_decide_eq_true (List.all_eq_true.mp h2 c hc)⟩
theorem Small.strOk {n : Nat} {z : Str} (h : Small n z) : PyData.strOk z = true := by
  unfold PyData.strOk
  rw [← Array.all_toList, List.all_eq_true]
  exact fun c hc => decide_eq_true (Nat.lt_trans (h.2 c hc) (by decide))
/-! ### lists of texts -/
theorem dxStrs {K : PySem.W.Frag} {H : Hp} : ∀ zs : List Str, DxAll K H (zs.map V.str) (zs.map PyData.str)
  | [] => .nil
  | z :: zs => .cons (.str z) (dxStrs zs)
theorem dxBools {K : PySem.W.Frag} {H : Hp} : ∀ zs : List Bool, DxAll K H (zs.map V.bl) (zs.map PyData.bool)
  | [] => .nil
  | z :: zs => .cons (.bl z) (dxBools zs)
theorem dpStrs {K : PySem.W.Frag} {H : Hp} : ∀ zs : List Str, DpAll K H (zs.map V.str) (zs.map PyData.str)
  | [] => .nil
  | z :: zs => .cons (.str z) (dpStrs zs)
theorem mildStrs {n : Nat} : ∀ zs : List Str, (∀ z ∈ zs, Small n z) → mildAll (zs.map .str) = true ∧ capAll (zs.map .str) ≤ (12 * n + 100) * zs.length
  | [], _ => ⟨rfl, Nat.le_refl _⟩
  | z :: zs, h => by
    obtain ⟨h1, h2⟩ := mildStrs zs fun y hy => h y (List.mem_cons_of_mem _ hy)
    have h3 := h z List.mem_cons_self
    constructor
    · simp only [List.map_cons, mildAll, h3.mild, h1, Bool.and_self]
    · simp only [List.map_cons, capAll, List.length_cons]
      have h4 : cap (.str z) ≤ 12 * n + 90 := by
        have := h3.1
        simp only [cap]
        omega
      rw [Nat.mul_add]
      omega
theorem depthStrs : ∀ zs : List Str, PyData.depthAll (zs.map PyData.str) = 0
  | [] => rfl
  | z :: zs => by simp only [List.map_cons, PyData.depthAll, PyData.depth, depthStrs zs, Nat.max_self]
/-- what repr asks of a list of small texts -/
theorem reprStrs {n : Nat} (zs : List Str) (h : ∀ z ∈ zs, Small n z) (hn : n ≤ 1000) (hz : zs.length ≤ 1000) : mild (.list (zs.map .str)) = true ∧ (PyData.list (zs.map .str)).depth ≤ 64 ∧ cap (.list (zs.map .str)) ≤ 16777216 := by
  obtain ⟨h1, h2⟩ := mildStrs zs h
  have h3 : (12 * n + 100) * zs.length ≤ 12100 * 1000 := Nat.mul_le_mul (by omega) hz
  refine ⟨by simpa [mild] using h1, by simp only [PyData.depth, depthStrs]; decide, ?_⟩
  simp only [cap]
  omega
end Tw
/-! ### the defs of a text, by their number -/
namespace Tw
open PySem PySem.Spec PyProof.Rows L2 He
abbrev DefsAt (fn : List DefD) (K : Fg) (fd : Nat → FuncData) : Prop := ∀ (i : Nat) (d : DefD), fn[i]? = some d → FunD K d.name d.qual d.params d.body d.scope (d.dvs K) (d.kws K) (fAd K d.at_) (fd i)
theorem SaysY.defs {fs : Fz} {fn : List DefD} {K : Fg} (c : SaysY fs fn K) {d0 : DefD} (h0 : fn[0]? = some d0) : ∃ fd : Nat → FuncData, DefsAt fn K fd := by
  obtain ⟨u0, _⟩ := c.def_ 0 h0
  have h : ∀ i : Nat, ∃ u : FuncData, ∀ d : DefD, fn[i]? = some d → FunD K d.name d.qual d.params d.body d.scope (d.dvs K) (d.kws K) (fAd K d.at_) u := fun i => by
    cases e : fn[i]? with
    | none => exact ⟨u0, fun d z => nomatch z⟩
    | some d =>
      obtain ⟨u, hu⟩ := c.def_ i e
      exact ⟨u, fun d' z => by
        cases z
        exact hu⟩
  exact ⟨fun i => Classical.choose (h i), fun i d e => Classical.choose_spec (h i) d e⟩
/-- what the walk asks of the written part and of the module's names -/
structure TxtB (fs : Fz) (fn : List DefD) (K : Fg) (mg : Str → Option Value) : Prop where
  c : SaysY fs fn K
  gl : ∀ x, (Fa.glo x).ok K = true → mg x = some (.ref (ga K x))
  fr : ∀ x, (Fa.free x).ok K = true → mg x = none
  nt : ∀ x i, (Fa.int x i).ok K = true → ∃ t, mg x = some (.int i t)
  tx : ∀ x z, (Fa.str x z).ok K = true → ∃ t, mg x = some (.str z t)
end Tw
namespace Tw
open PySem PySem.Spec PyProof.Rows L2 He
/-! ### errors of one field -/
/-- C.__init__ that stores one value -/
def spIni (C : Addr) (f : Str) : Sp := fun vs H Q _ => ∃ (a : Addr) (v : V), vs = [.ref a, v] ∧ H a = some (exo a C none) ∧ ∀ (d : Addr) (H' : Hp), H d = none → d ≠ a → H' a = some (exo a C (some d)) → H' d = some (exd d [(f, v)]) → But a H H' → Q .non H'
theorem bad_out {H : Hp} {C : Addr} {f : Str} {v : V} {Q : XK} {E : XK} (k : ∀ (d : Addr) (H' : Hp), Same H H' → H' d = some (.xd [(f, v)]) → Q (.ref C) (some d) H') :
    ([v] : List V).length ≤ 1000 ∧ ∀ a, H a = none → spIni C f (.ref a :: (([v] : List V) ++ [])) (upd H a (exo a C none)) (fun v H2 => v = .non ∧ ∃ (d : Addr) (fs : List (Str × V)), H2 a = some (exo a C (some d)) ∧ H2 d = some (exd d fs) ∧ H d = none ∧ Q (.ref C) (some d) (upd (del H2 a) d (.xd fs))) E := by
  refine ⟨(by show 1 ≤ 1000; decide), fun a ha => ⟨a, v, rfl, upd_same, fun d H' hd hda e1 e2 e3 => ?_⟩⟩
  rw [upd_ne hda] at hd
  refine ⟨rfl, d, _, e1, e2, hd, k d _ (fun b o hb => ?_) upd_same⟩
  have hba : b ≠ a := ne_of_none hb ha
  rw [upd_ne (ne_of_none hb hd), del_ne hba]
  exact e3 b o (by rw [upd_ne hba]; exact hb) hba
theorem same_but {H H1 H2 : Hp} {a : Addr} (s : Same H H1) (b : But a H1 H2) (h : H a = none) : Same H H2 := fun c o e => b c o (s c o e) (ne_of_none e h)
theorem same_made {H : Hp} {a dx : Addr} {o u : HO} (hd : H dx = none) (ha : H a = none) (hda : dx ≠ a) : Same H (upd (upd H dx o) a u) := (same_new hd).trans (same_new (by rw [upd_ne hda.symm]; exact ha))
theorem atI_gen {α : Type} {xs : List α} {i : Int} {v : α} (h0 : 0 ≤ i) (h : xs[i.toNat]? = some v) : atI xs i = some v := by
  have e : i = (i.toNat : Int) := (Int.toNat_of_nonneg h0).symm
  rw [e]
  exact atI_nat h
theorem dec_i {i j : Int} : decide (V.int i = V.int j) = decide (i = j) := by
  by_cases h : i = j
  · rw [h]
    simp
  · rw [decide_eq_false h, decide_eq_false fun z => h (V.int.inj z)]
theorem dec_s {i j : Str} : decide (V.str i = V.str j) = decide (i = j) := by
  by_cases h : i = j
  · rw [h]
    simp
  · rw [decide_eq_false h, decide_eq_false fun z => h (V.str.inj z)]
theorem inStrs (z : Str) : ∀ zs : List Str, inV (.str z) (zs.map V.str) = decide (z ∈ zs)
  | [] => rfl
  | y :: ys => by
    have ih := inStrs z ys
    unfold inV at ih ⊢
    rw [List.map_cons, List.any_cons, ih]
    show ((y == z) || _) = _
    by_cases h : y = z
    · subst h
      simp
    · rw [beq_eq_false_iff_ne.mpr h, Bool.false_or]
      exact decide_eq_decide.2 ⟨fun q => List.mem_cons_of_mem _ q, fun q => (List.mem_cons.mp q).resolve_left fun e => h e.symm⟩
theorem flatStrs : ∀ zs : List Str, (zs.map V.str).all flatV = true
  | [] => rfl
  | _ :: zs => by
    rw [List.map_cons, List.all_cons, flatStrs zs]
    rfl
end Tw
/-! Tw: own operators: x + y of one class, x * 3, 3 * x, -x, x += y. -/
namespace Tw
open PySem PySem.Spec PyProof.Rows L2 He
/-- the class at C answers to name by the def at f -/
structure OwnB (K : PySem.W.Frag) (C : Addr) (name : Str) (f : Addr) : Prop where
  self1 : PySem.W.selfFirst K C = true
  at_ : PySem.W.findIn K (.ref C) name = some (some (.ref f))
  fn : PySem.W.isFn K (.ref f) = true
def ownB (K : PySem.W.Frag) (x m : Str) : Bool := PySem.W.selfFirst K (ga K x) && (eqO (PySem.W.findIn K (.ref (ga K x)) m) (some (some (.ref (ma K (ga K x) m)))) && PySem.W.isFn K (.ref (ma K (ga K x) m)))
theorem ownB_ok {K : PySem.W.Frag} {x m : Str} (h : ownB K x m = true) : OwnB K (ga K x) m (ma K (ga K x) m) := by
  obtain ⟨h1, h⟩ := ba h
  obtain ⟨h2, h3⟩ := ba h
  exact ⟨h1, eqO_ok h2, h3⟩
section
variable {X : Cx} {CX : CXT} {k : Nat} {f C : Addr} {fd : FuncData} {ps : List Str} {sp : Sp} {E : XK} {op : Operator} {T : String}
/-- x op y, both of the class at C -/
def rBinOwn (C : Addr) (sp : Sp) (E : XK) : R2 := fun x y H Q => ∃ (a b dx dy : Addr) (fs gs : List (Str × V)), x = .ref a ∧ y = .ref b ∧ H a = some (.ins C dx fs) ∧ H b = some (.ins C dy gs) ∧ sp [x, y] H Q E
theorem op_binOwn (c : OwnB X.K C (PySem.dunder op.info.2) f) (F : FnOk X.prog X.w X.K X.mg X.base CX k f fd ps sp) (hr : Room k X.A) (hb : Binds X.K fd ps []) (hx : Passes CX X E) : OpR X (binaryOp op) (rBinOwn C sp E) := by
  intro pins s σ H x y v u Q I rx ry h
  obtain ⟨a, b, dx, dy, fs, gs, rfl, rfl, ea, eb, q⟩ := h
  cases (show v = Value.ref a from rx)
  cases (show u = Value.ref b from ry)
  obtain ⟨od, ox, J⟩ := inst_at I ea
  obtain ⟨od2, oy, J2⟩ := inst_at I eb
  obtain ⟨m, fr⟩ := I.fr
  refine PySem.W.binop_K fr I.ok.mod.kin J J2.type c.self1 c.at_ c.fn ?_
  refine wpAny_mono (run_fn (dvs := []) (ds := []) (us := [.ref a, .ref b]) (vs := [.ref a, .ref b]) F hr hb .nil hx I (.cons rfl (.cons rfl .nil)) q) (fun w s' z => ?_) fun _ _ x => x
  obtain ⟨z', H', I', rz, qz⟩ := z
  exact SlX.cmpback rz ⟨z', H', I', rz, qz⟩
/-- what is asked of a built-in class beside it -/
structure BinT (K : PySem.W.Frag) (C : Addr) (op : Operator) (T : String) : Prop where
  l : ∃ fo, PySem.W.findIn K (.type T) (PySem.dunder op.info.2) = some fo
  r : ∃ ro, PySem.W.findIn K (.type T) (PySem.dunderR op.info.2) = some ro
  sub : PySem.W.subIn K (.type T) (.ref C) = some false
  rc : ∃ rc, PySem.W.findIn K (.ref C) (PySem.dunderR op.info.2) = some rc ∧ (rc = none ∨ ∃ g : Addr, rc = some (.ref g))
def refOrNone : Option (Option Value) → Bool
  | some none => true
  | some (some (.ref _)) => true
  | _ => false
theorem refOrNone_ok {o : Option (Option Value)} (h : refOrNone o = true) : ∃ rc, o = some rc ∧ (rc = none ∨ ∃ g : Addr, rc = some (.ref g)) := by
  unfold refOrNone at h
  split at h
  · exact ⟨_, rfl, .inl rfl⟩
  · rename_i g
    exact ⟨_, rfl, .inr ⟨g, rfl⟩⟩
  · cases h
def binTB (K : PySem.W.Frag) (x : Str) (op : Operator) (T : String) : Bool := (PySem.W.findIn K (.type T) (PySem.dunder op.info.2)).isSome && ((PySem.W.findIn K (.type T) (PySem.dunderR op.info.2)).isSome && (decide (PySem.W.subIn K (.type T) (.ref (ga K x)) = some false) && refOrNone (PySem.W.findIn K (.ref (ga K x)) (PySem.dunderR op.info.2))))
theorem binTB_ok {K : PySem.W.Frag} {x : Str} {op : Operator} {T : String} (h : binTB K x op T = true) : BinT K (ga K x) op T := by
  obtain ⟨h1, h⟩ := ba h
  obtain ⟨h2, h⟩ := ba h
  obtain ⟨h3, h4⟩ := ba h
  exact ⟨Option.isSome_iff_exists.mp h1, Option.isSome_iff_exists.mp h2, of_decide_eq_true h3, refOrNone_ok h4⟩
/-- y is a value of the built-in class T -/
def ofT (H : Hp) (y : V) (T : String) : Prop := match y with
  | .int _ => T = "int"
  | .bl _ => T = "bool"
  | .str _ => T = "str"
  | _ => False
theorem ofT_type {H : Hp} {y : V} {u : Value} (r : RelV y u) (h : ofT H y T) : typeOf u = pure (.type T) := by
  cases y with
  | int i =>
    obtain ⟨t, rfl⟩ := r
    cases (show T = "int" from h)
    rfl
  | bl b =>
    cases (show u = Value.bool b from r)
    cases (show T = "bool" from h)
    rfl
  | str z =>
    obtain ⟨t, rfl⟩ := r
    cases (show T = "str" from h)
    rfl
  | _ => exact h.elim
/-- x op y, x of the class at C, y a number or a text -/
def rBinT (C : Addr) (T : String) (sp : Sp) (E : XK) : R2 := fun x y H Q => ∃ (a dx : Addr) (fs : List (Str × V)), x = .ref a ∧ H a = some (.ins C dx fs) ∧ ofT H y T ∧ sp [x, y] H Q E
theorem op_binT (c : OwnB X.K C (PySem.dunder op.info.2) f) (t : BinT X.K C op T) (F : FnOk X.prog X.w X.K X.mg X.base CX k f fd ps sp) (hr : Room k X.A) (hb : Binds X.K fd ps []) (hx : Passes CX X E) : OpR X (binaryOp op) (rBinT C T sp E) := by
  intro pins s σ H x y v u Q I rx ry h
  obtain ⟨a, dx, fs, rfl, ea, ht, q⟩ := h
  cases (show v = Value.ref a from rx)
  obtain ⟨od, ox, J⟩ := inst_at I ea
  obtain ⟨m, fr⟩ := I.fr
  obtain ⟨fo, h1⟩ := t.l
  obtain ⟨ro, h2⟩ := t.r
  obtain ⟨rc, h3, h4⟩ := t.rc
  refine PySem.W.ksp_binT fr I.ok.mod.kin J (ofT_type ry ht) c.self1 c.at_ c.fn h3 h4 h1 h2 t.sub ?_
  refine wpAny_mono (run_fn (dvs := []) (ds := []) (us := [.ref a, u]) (vs := [.ref a, y]) F hr hb .nil hx I (.cons rfl (.cons ry .nil)) q) (fun w s' z => ?_) fun _ _ x => x
  obtain ⟨z', H', I', rz, qz⟩ := z
  exact SlX.cmpback rz ⟨z', H', I', rz, qz⟩
/-- -x -/
def rNegOwn (C : Addr) (sp : Sp) (E : XK) : V → Hp → VK → Prop := fun x H Q => ∃ (a dx : Addr) (fs : List (Str × V)), x = .ref a ∧ H a = some (.ins C dx fs) ∧ sp [x] H Q E
theorem un_negOwn (c : OwnB X.K C "__neg__" f) (F : FnOk X.prog X.w X.K X.mg X.base CX k f fd ps sp) (hr : Room k X.A) (hb : Binds X.K fd ps []) (hx : Passes CX X E) : UnR X (unaryOp .USub) (rNegOwn C sp E) := by
  intro pins s σ H x v Q I rx h
  obtain ⟨a, dx, fs, rfl, ea, q⟩ := h
  cases (show v = Value.ref a from rx)
  obtain ⟨od, ox, J⟩ := inst_at I ea
  obtain ⟨m, fr⟩ := I.fr
  refine PySem.W.ksp_neg fr I.ok.mod.kin J c.at_ c.fn ?_
  exact run_fn (dvs := []) (ds := []) (us := [.ref a]) (vs := [.ref a]) F hr hb .nil hx I (.cons rfl .nil) q
/-- x op= y by an own in-place method -/
def rInOwn (C : Addr) (sp : Sp) (E : XK) : R2 := fun x y H Q => ∃ (a dx : Addr) (fs : List (Str × V)), x = .ref a ∧ H a = some (.ins C dx fs) ∧ sp [x, y] H Q E
theorem in_own (c : OwnB X.K C (PySem.dunderI op.info.2) f) (F : FnOk X.prog X.w X.K X.mg X.base CX k f fd ps sp) (hr : Room k X.A) (hb : Binds X.K fd ps []) (hx : Passes CX X E) : OpR X (inplaceOp op) (rInOwn C sp E) := by
  intro pins s σ H x y v u Q I rx ry h
  obtain ⟨a, dx, fs, rfl, ea, q⟩ := h
  cases (show v = Value.ref a from rx)
  obtain ⟨od, ox, J⟩ := inst_at I ea
  obtain ⟨m, fr⟩ := I.fr
  refine PySem.W.ksp_inplace fr I.ok.mod.kin J c.self1 c.at_ c.fn ?_
  refine wpAny_mono (run_fn (dvs := []) (ds := []) (us := [.ref a, u]) (vs := [.ref a, y]) F hr hb .nil hx I (.cons rfl (.cons ry .nil)) q) (fun w s' z => ?_) fun _ _ x => x
  obtain ⟨z', H', I', rz, qz⟩ := z
  exact SlX.cmpback rz ⟨z', H', I', rz, qz⟩
end
end Tw
namespace Tw
open PySem PySem.Spec PyProof.Rows L2 He
/-! ### a staticmethod called by its class -/
structure CSta (K : PySem.W.Frag) (C : Addr) (m : Str) (p g : Addr) : Prop where
  at_ : PySem.W.findCls K (.ref C) (.type "type") m = some (.get (.builtin "staticmethod.__get__") (.ref p) .none (.ref C))
  rc : ∃ rest, PySem.W.recIn K p "staticmethod" = some (.ref g :: rest)
  kp : PySem.W.keepIn K (.ref g) = true
/-- the def behind the record of C.m -/
def rcAt (K : PySem.W.Frag) (x m T : Str) : Addr := match PySem.W.recIn K (ma K (ga K x) m) T.toString with
  | some (.ref g :: _) => g
  | _ => 0
def cstaB (K : PySem.W.Frag) (x m : Str) : Bool := (match PySem.W.findCls K (.ref (ga K x)) (.type "type") m with
  | some (.get (.builtin b) (.ref p) .none (.ref C)) => decide (b = "staticmethod.__get__") && (decide (p = ma K (ga K x) m) && decide (C = ga K x))
  | _ => false) && ((match PySem.W.recIn K (ma K (ga K x) m) "staticmethod" with
  | some (.ref g :: _) => decide (g = rcAt K x m "staticmethod")
  | _ => false) && PySem.W.keepIn K (.ref (rcAt K x m "staticmethod")))
theorem cstaB_ok {K : PySem.W.Frag} {x m : Str} (h : cstaB K x m = true) : CSta K (ga K x) m (ma K (ga K x) m) (rcAt K x m "staticmethod") := by
  obtain ⟨h1, h⟩ := ba h
  obtain ⟨h2, h3⟩ := ba h
  refine ⟨?_, ?_, h3⟩
  · split at h1
    · rename_i b p C e
      obtain ⟨a1, a⟩ := ba h1
      obtain ⟨a2, a3⟩ := ba a
      rw [e, of_decide_eq_true a1, of_decide_eq_true a2, of_decide_eq_true a3]
    · cases h1
  · split at h2
    · rename_i g rest e
      exact ⟨rest, by rw [e, of_decide_eq_true h2]⟩
    · cases h2
section
variable {X : Cx} {CX : CXT} {k : Nat} {C p g : Addr} {fd : FuncData} {ps : List Str} {sp : Sp} {dvs : List V} {ds : List Value} {E : XK} {o e : Expr} {es : List Expr} {m : Str} {pos apos : Pos} {ta : TE} {t : TA} {pl : Sem Bool}
theorem typ_of {K : PySem.W.Frag} {mc : Value} (h : PySem.W.readsIn K C mc = true) : PySem.W.typeIn K (.ref C) = some mc := by
  simp only [PySem.W.readsIn, Bool.and_eq_true, beq_iff_eq] at h
  exact h.1.1.1.2
theorem pe_smeth (he : PE X o ta) (r : ClX.CRead X.K C (.type "type")) (c : CSta X.K C m p g) (F : FnOk X.prog X.w X.K X.mg X.base CX k g fd ps sp) (hr : Room k X.A) (hb : Binds X.K fd ps ds) (hd : Vals dvs ds) (hx : Passes CX X E) (ha : PA X (e :: es) t)
    (hst : starEach (e :: es) X.env = (false, eval e X.env) :: starEach es X.env := by rfl) (hpl : (backTo pos (starEach es X.env)).any (·.1) = false := by rfl)
    (ht : eval (.Call (.Attribute o m apos) (e :: es) [] pos) X.env = (do
      let ov ← eval o X.env
      standAt apos.atName
      let (f, first) ← holding [ov] (getMethod ov m pl)
      callWith pos f first (backTo pos (starEach (e :: es) X.env)) (backToKw pos (keywordEach [] X.env))) := by rfl) :
    PE X (.Call (.Attribute o m apos) (e :: es) [] pos) (fun σ H Q => ta σ H fun x H1 => x = .ref C ∧ t σ H1 fun vs H2 => sp (vs ++ dvs) H2 Q E) := by
  refine ⟨fun pins s σ H Q I h => ?_⟩
  refine PySem.W.methodCall_KW (pl := pl) (thn (he.run pins s σ H _ I h) fun u s1 ⟨x, H1, I1, rx, ex, q⟩ => ?_) ht
  subst ex
  obtain rfl : u = Value.ref C := rx
  obtain ⟨m', fr⟩ := I1.fr
  obtain ⟨rest, hp⟩ := c.rc
  refine PySem.W.method_cls I1.kIn r.ga (PySem.W.cls_sm fr I1.ok.mod.kin (typ_of r.rd) r.rd c.at_ hp rfl ?_)
  have I2 := I1.tok (s1.toks + 1)
  exact PySem.W.callWith_K (h₀ := X.base) I2.ok.mod.kin c.kp (thn (ha.run pos pins _ σ H1 _ I2 q) fun us s3 ⟨vs, H2, I3, rv, q2⟩ => ⟨I3.kIn, run_fn F hr hb hd hx I3 rv q2⟩) hst hpl
end
end Tw
/-! Tw: 3 * x, x of an own class. -/
namespace Tw
open PySem PySem.Spec PyProof.Rows L2 He
theorem int_mul_inst (a : Int) (t : Tok) (y : Addr) (ox : Obj) (hd : ox.data = .plain) :
    Meets (Builtin.«int.__mul__» ⟨[.int a t, .ref y], []⟩) (fun _ R s => s.heap.get? y = some ox ∧ R (.ok (.ret Value.notImplemented)) s) :=
  .of_wp fun prog w A R s h => by
    obtain ⟨hp, g, d, tk, os⟩ := s
    obtain ⟨hl, h⟩ := h
    obtain ⟨oc, od, dt, sl⟩ := ox
    cases hd
    wp_walk
    exact ⟨_, rfl, h⟩
theorem int_mul_dec {prog : Program} {w : World} {A : Around} {E : Value → Shared → Prop} {s : Shared} {a : Int} {t : Tok} {y : Addr} {oy : Obj} {Q : Value → Shared → Prop} (J : s.heap.get? y = some oy) (hd : oy.data = .plain) (h : Q .notImplemented s) :
    wpAny (model prog w) A (call (.builtin "int.__mul__") [.int a t, .ref y]) Q E s := by
  refine call_meets (T := "int") (name := PySem.dunder "mul") (id := "int.__mul__") (self := .int a t) (rest := [.ref y]) F.slot_int_mul (typeIs_int s a t) F.entry_int_mul (F.args_int_mul_2 (.int a t) (.ref y)) (int_mul_inst a t y oy hd) ?_
  exact ⟨J, h⟩
theorem int_try {prog : Program} {w : World} {A : Around} {E : Value → Shared → Prop} {s : Shared} {a : Int} {t : Tok} {y : Addr} (nm : Str) (sl : Slot "int" nm "int.__mul__")
    (h0 : wpAny (model prog w) A (call (.builtin "int.__mul__") [.int a t, .ref y]) (fun v s' => v = .notImplemented ∧ (none : Option Value) = none ∧ s' = s) E s) :
    wpAny (model prog w) A (tryMethod (.int a t) nm (.ref y)) (fun r s' => r = none ∧ s' = s) E s := by
  exact wpAny_tryMethod_declines (T := "int") (id := "int.__mul__") (Q := fun r s' => r = none ∧ s' = s) (typeIs_int s a t) sl h0
open PySem.W in
theorem bin_reflI {prog : Program} {w : World} {A : Around} {E : Value → Shared → Prop} {s : Shared} {K : Frag} {y C f f0 : Addr} {oy : Obj} {od : Option Obj} {a : Int} {t : Tok} {ro : Option Value} {Q : Value → Shared → Prop}
    (Y : K.In s.heap) (J : InstAt s.heap y oy C od) (hd : oy.data = .plain) (c : OwnB K C (PySem.dunderR "mul") f) (hm0 : findIn K (.ref C) (PySem.dunder "mul") = some (some (.ref f0)))
    (h2 : findIn K (.type "int") (PySem.dunderR "mul") = some ro) (hsub : subIn K (.ref C) (.type "int") = some false)
    (h : wpAny (model prog w) A (call (.ref f) [.ref y, .int a t]) (PySem.W.CmpBack Q) E s) : wpAny (model prog w) A (binaryOp .Mult (.int a t) (.ref y)) Q E s := by
  obtain ⟨cd, rest, hcd, hm⟩ := ksp_first c.self1
  have one := ksp_try Y J c.at_ c.fn h
  have dec : wpAny (model prog w) A (tryMethod (.int a t) (PySem.dunder "mul") (.ref y)) (fun r s' => r = none ∧ s' = s) E s := int_try (PySem.dunder "mul") F.slot_int_mul (int_mul_dec J.1 hd ⟨rfl, rfl, rfl⟩)
  obtain ⟨hh, g, d, tt, os⟩ := s
  have L1 : Looks (model prog w) hh (typeOf (.ref y)) (.ref C) := J.type
  have L2 : Looks (model prog w) hh (typeOf (.int a t)) (.type "int") := Looks.of_pure rfl
  have L3 : Looks (model prog w) hh (fillsNumberSlot (.ref C) "mul") true := fills_K Y hcd hm hm0
  have L4 : Looks (model prog w) hh (fillsNumberSlot (.type "int") "mul") true := Looks.of_pure F.fills_int_mul
  have L5 : Looks (model prog w) hh (isSubtype (.ref C) (.type "int")) false := looks_subIn Y hsub
  have L7 : Looks (model prog w) hh (numberSlotInPython (.type "int") "mul") false := Looks.of_pure rfl
  have hne : (Value.type "int" == Value.ref C) = false := Bool.eq_false_iff.mpr fun q => by cases beq_iff_eq.mp q
  have hi : Operator.Mult.info = ("*", "mul") := rfl
  simp only [binaryOp, hi]
  refine wpAny_holding (wpAny_bind ?_)
  unfold binaryOp1
  refine wpAny_bind (L2.at (wpAny_bind (L1.at (wpAny_bind (L4.at ?_)))))
  simp only [hne, Bool.false_eq_true, if_false]
  ksp_lk
  refine wpAny_mono dec (fun r s' hr' => ?_) fun _ _ e => e
  obtain ⟨rfl, rfl⟩ := hr'
  ksp_lk
  refine wpAny_mono one (fun r s' hr' => ?_) fun _ _ e => e
  obtain ⟨v, rfl, hq⟩ := hr'
  ksp_lk
  exact hq

section
variable {X : Cx} {CX : CXT} {k : Nat} {f C : Addr} {fd : FuncData} {ps : List Str} {sp : Sp} {E : XK}
/-- 3 * x -/
def rBinRI (C : Addr) (sp : Sp) (E : XK) : R2 := fun x y H Q => ∃ (i : Int) (a dx : Addr) (fs : List (Str × V)), x = .int i ∧ y = .ref a ∧ H a = some (.ins C dx fs) ∧ sp [y, x] H Q E
theorem op_binRI {f0 : Addr} (c : OwnB X.K C (PySem.dunderR "mul") f) (c0 : OwnB X.K C (PySem.dunder "mul") f0) (t : BinT X.K C .Mult "int") (hsub : PySem.W.subIn X.K (.ref C) (.type "int") = some false)
    (F : FnOk X.prog X.w X.K X.mg X.base CX k f fd ps sp) (hr : Room k X.A) (hb : Binds X.K fd ps []) (hx : Passes CX X E) : OpR X (binaryOp .Mult) (rBinRI C sp E) := by
  intro pins s σ H x y v u Q I rx ry h
  obtain ⟨i, a, dx, fs, rfl, rfl, ea, q⟩ := h
  cases (show u = Value.ref a from ry)
  obtain ⟨tk, rfl⟩ := rx
  obtain ⟨ox, od, J, hd⟩ := StX.insC_at I (C := C) (.inr ⟨dx, fs, ea⟩)
  obtain ⟨ro, h2⟩ := t.r
  refine bin_reflI I.kIn J hd c c0.at_ h2 hsub ?_
  refine wpAny_mono (run_fn (dvs := []) (ds := []) (us := [.ref a, .int i tk]) (vs := [.ref a, .int i]) F hr hb .nil hx I (.cons rfl (.cons ⟨tk, rfl⟩ .nil)) q) (fun w s' z => ?_) fun _ _ x => x
  obtain ⟨z', H', I', rz, qz⟩ := z
  exact SlX.cmpback rz ⟨z', H', I', rz, qz⟩
end
end Tw
/-! Tw: the head's hook with defs at any address (methods behind staticmethod, classmethod, property). -/
namespace Tw
open PySem PySem.Spec PyProof.Rows L2 He
abbrev DefA := He5.DefA
abbrev AlA : Type := (Bool × List FnW) × List (Option (List (Option (Str × Int))))
def obsA (fs : Fz) (fn : List DefA) (ts : List Tab) (K : Fg) : AlA := (((fs.all fun f => f K) && fn.all fun d => d.ok K, fn.map fun d => He5.fnA K (d.at_ K)), ts.map fun t => dicW K (t.1 K))
def valA (fn : List DefA) (ts : List Tab) (w : World) : AlA := ((true, fn.map He5.DefA.val), ts.map fun t => some (keysIn w.params t.2))
def obsAG (n : Nat) (fs : Fz) (fn : List DefA) (ts : List Tab) (g : Addr → Option Obj) : AlA := obsA fs fn ts (frG g (asD g n ++ [cStatics]))
def SaysA (fs : Fz) (fn : List DefA) (ts : List Tab) (w : World) (K : Fg) : Prop := obsA fs fn ts K = valA fn ts w
def hookA (n : Nat) (fs : Fz) (fn : List DefA) (ts : List Tab) : PySem.W.Hook where
  α := AlA
  obs := fun s => obsAG n fs fn ts s.heap.get?
  val := fun w => valA fn ts w
  says := fun w h => ∃ K : Fg, K.In h ∧ SaysA fs fn ts w K
  of := fun _ _ e => ⟨_, frG_in, e⟩
  keeps := fun _ _ _ ⟨K, hK, c⟩ k => ⟨K, PySem.W.Frag.In.keeps hK k, c⟩
theorem obsAG_eq {n : Nat} {fs : Fz} {fn : List DefA} {ts : List Tab} {g : Addr → Option Obj} {s : Shared} (h : ∀ a, g a = s.heap.get? a) : obsAG n fs fn ts g = (hookA n fs fn ts).obs s := by
  have e : g = s.heap.get? := funext h
  rw [e] <;> rfl
abbrev DefsA (fn : List DefA) (K : Fg) (fd : Nat → FuncData) : Prop := ∀ (i : Nat) (d : DefA), fn[i]? = some d → FunD K d.name d.qual d.params d.body d.scope (d.dvs K) (d.kws K) (d.at_ K) (fd i)
section
variable {fs : Fz} {fn : List DefA} {ts : List Tab} {w : World} {K : Fg}
theorem SaysA.fact (c : SaysA fs fn ts w K) (i : Nat) {f : Fg → Bool} (h : fs[i]? = some f) : f K = true := by
  have c1 := (ba (show ((fs.all fun f => f K) && fn.all fun d => d.ok K) = true from congrArg (fun z : AlA => z.1.1) c)).1
  exact List.all_eq_true.mp c1 f (List.mem_of_getElem? h)
theorem SaysA.def_ (c : SaysA fs fn ts w K) (i : Nat) {d : DefA} (h : fn[i]? = some d) : ∃ fd, FunD K d.name d.qual d.params d.body d.scope (d.dvs K) (d.kws K) (d.at_ K) fd := by
  have c2 := (ba (show ((fs.all fun f => f K) && fn.all fun d => d.ok K) = true from congrArg (fun z : AlA => z.1.1) c)).2
  have e : fn.map (fun d => He5.fnA K (d.at_ K)) = fn.map He5.DefA.val := congrArg (fun z : AlA => z.1.2) c
  have e2 : (fn.map fun d => He5.fnA K (d.at_ K))[i]? = (fn.map He5.DefA.val)[i]? := by rw [e]
  rw [List.getElem?_map, List.getElem?_map, h] at e2
  exact He5.DefA.funD (Option.some.inj e2) (List.all_eq_true.mp c2 d (List.mem_of_getElem? h))
theorem SaysA.tab (c : SaysA fs fn ts w K) (i : Nat) {t : Tab} (h : ts[i]? = some t) : ∃ es n, KDict K w (t.1 K) es n := by
  have e : ts.map (fun t => dicW K (t.1 K)) = ts.map fun t => some (keysIn w.params t.2) := congrArg (fun z : AlA => z.2) c
  have e2 : (ts.map fun t => dicW K (t.1 K))[i]? = (ts.map fun t => some (keysIn w.params t.2))[i]? := by rw [e]
  rw [List.getElem?_map, List.getElem?_map, h] at e2
  exact dicW_ok (Option.some.inj e2)
theorem SaysA.defs (c : SaysA fs fn ts w K) {d0 : DefA} (h0 : fn[0]? = some d0) : ∃ fd : Nat → FuncData, DefsA fn K fd := by
  obtain ⟨u0, _⟩ := c.def_ 0 h0
  have h : ∀ i : Nat, ∃ u : FuncData, ∀ d : DefA, fn[i]? = some d → FunD K d.name d.qual d.params d.body d.scope (d.dvs K) (d.kws K) (d.at_ K) u := fun i => by
    cases e : fn[i]? with
    | none => exact ⟨u0, fun d z => nomatch z⟩
    | some d =>
      obtain ⟨u, hu⟩ := c.def_ i e
      exact ⟨u, fun d' z => by
        cases z
        exact hu⟩
  exact ⟨fun i => Classical.choose (h i), fun i d e => Classical.choose_spec (h i) d e⟩
end
/-- what the walk asks of the written part and of the module's names -/
structure TxtA (fs : Fz) (fn : List DefA) (ts : List Tab) (w : World) (K : Fg) (mg : Str → Option Value) : Prop where
  c : SaysA fs fn ts w K
  gl : ∀ x, (Fa.glo x).ok K = true → mg x = some (.ref (ga K x))
  fr : ∀ x, (Fa.free x).ok K = true → mg x = none
  nt : ∀ x i, (Fa.int x i).ok K = true → ∃ t, mg x = some (.int i t)
  tx : ∀ x z, (Fa.str x z).ok K = true → ∃ t, mg x = some (.str z t)
theorem TxtA.fact {fs : Fz} {fn : List DefA} {ts : List Tab} {w : World} {K : Fg} {mg : Str → Option Value} (T : TxtA fs fn ts w K mg) (i : Nat) {f : Fg → Bool} (h : fs[i]? = some f := by rfl) : f K = true := T.c.fact i h
end Tw
namespace K64
open PySem PySem.Spec PyProof.Rows L2 He Tw
def topS (i : Nat) : Stmt := PySem.Challenge.pw_twoheads_k64_tallies.main.body.getD i (.Pass ⟨0, 0, 0, 0⟩)
def dM (c : Str) (i j : Nat) (m : Str) (dvs : List Dv) : DefA := ⟨fun K => ma K (ga K c) m, m, c ++ "." ++ m, defArgs (inClass (topS i) j), defBody (inClass (topS i) j), defScope (inClass (topS i) j), dvs, []⟩
def dW (k c : Str) (i j : Nat) (m : Str) (dvs : List Dv) : DefA := ⟨fun K => rcAt K c m k, m, c ++ "." ++ m, defArgs (inClass (topS i) j), defBody (inClass (topS i) j), defScope (inClass (topS i) j), dvs, []⟩
def dF (x : Str) (i : Nat) : DefA := ⟨fun K => ga K x, x, x, defArgs (topS i), defBody (topS i), defScope (topS i), [], []⟩
def clss : List Str := ["HeadsError", "BadInput", "BadName", "Tally"]
def fnames : List Str := ["is_number", "_law_pen", "_law_draw", "_law_pick", "_law_part", "_law_parts", "_law_worth", "_law_is", "_law_usual", "_law_label", "_law_heard", "_law_signs_right", "law"]
def blts : List Str := ["range", "isinstance", "int", "list", "repr", "tuple", "str", "bool", "len", "abs", "min"]
def fn : List DefA := [dM "BadName" 4 0 "__init__" [], dF "is_number" 6, dM "Tally" 9 0 "__init__" [.int 0, .int 0], dM "Tally" 9 1 "__call__" [], dM "Tally" 9 2 "terms" [], dM "Tally" 9 3 "__eq__" [], dM "Tally" 9 4 "__add__" [], dM "Tally" 9 5 "__sub__" [], dM "Tally" 9 6 "__mul__" [], dM "Tally" 9 7 "__rmul__" [], dM "Tally" 9 8 "__neg__" [], dW "staticmethod" "Tally" 9 10 "usual" [], dW "property" "Tally" 9 11 "label" [], dF "_law_pen" 11, dF "_law_draw" 12, dF "_law_pick" 13, dF "_law_part" 14, dF "_law_parts" 15, dF "_law_worth" 16, dF "_law_is" 17, dF "_law_usual" 18, dF "_law_label" 19, dF "_law_heard" 20, dF "_law_signs_right" 21, dF "law" 22]
abbrev s_BadName_init : Stmt := inClass (topS 4) 0
abbrev N_BadName_init : List Str := ["self", "name"]
theorem sc_BadName_init : FnScope N_BadName_init ["self", "name"] (defScope s_BadName_init) := ⟨rfl, rfl, rfl, by decide +kernel, rfl, by decide +kernel, by decide +kernel⟩
abbrev at_BadName_init (K : Fg) : Addr := (ma K (ga K "BadName") "__init__")
abbrev fd_BadName_init (fd : Nat → FuncData) : FuncData := fd 0
section
variable {K : Fg} {mg : Str → Option Value} {fd : Nat → FuncData}
theorem F_BadName_init (D : DefsA fn K fd) : FnP K "__init__" "BadName.__init__" s_BadName_init (at_BadName_init K) (fd_BadName_init fd) := D 0 _ rfl
theorem b_BadName_init (D : DefsA fn K fd) : Binds K (fd_BadName_init fd) ["self", "name"] [] := (F_BadName_init D).bindsN fun _ _ _ _ _ _ us hl => match us, hl with | [_, _], _ => rfl
theorem k_BadName_init (D : DefsA fn K fd) : PySem.W.keepIn K (.ref (at_BadName_init K)) = true := (F_BadName_init D).kp
end
abbrev s_is_number : Stmt := topS 6
abbrev N_is_number : List Str := ["value"]
theorem sc_is_number : FnScope N_is_number ["value"] (defScope s_is_number) := ⟨rfl, rfl, rfl, by decide +kernel, rfl, by decide +kernel, by decide +kernel⟩
abbrev at_is_number (K : Fg) : Addr := (ga K "is_number")
abbrev fd_is_number (fd : Nat → FuncData) : FuncData := fd 1
section
variable {K : Fg} {mg : Str → Option Value} {fd : Nat → FuncData}
theorem F_is_number (D : DefsA fn K fd) : FnP K "is_number" "is_number" s_is_number (at_is_number K) (fd_is_number fd) := D 1 _ rfl
theorem b_is_number (D : DefsA fn K fd) : Binds K (fd_is_number fd) ["value"] [] := (F_is_number D).bindsN fun _ _ _ _ _ _ us hl => match us, hl with | [_], _ => rfl
theorem k_is_number (D : DefsA fn K fd) : PySem.W.keepIn K (.ref (at_is_number K)) = true := (F_is_number D).kp
end
abbrev s_Tally_init : Stmt := inClass (topS 9) 0
abbrev N_Tally_init : List Str := ["self", "a", "b", "c", "e"]
theorem sc_Tally_init : FnScope N_Tally_init ["self", "a", "b", "c", "e"] (defScope s_Tally_init) := ⟨rfl, rfl, rfl, by decide +kernel, rfl, by decide +kernel, by decide +kernel⟩
abbrev at_Tally_init (K : Fg) : Addr := (ma K (ga K "Tally") "__init__")
abbrev fd_Tally_init (fd : Nat → FuncData) : FuncData := fd 2
section
variable {K : Fg} {mg : Str → Option Value} {fd : Nat → FuncData}
abbrev Fn_Tally_init (K : Fg) (fd : Nat → FuncData) : Prop := FunD K "__init__" "Tally.__init__" (defArgs s_Tally_init) (defBody s_Tally_init) (defScope s_Tally_init) [V.int 0, V.int 0] [] (at_Tally_init K) (fd_Tally_init fd)
theorem F_Tally_init (D : DefsA fn K fd) : Fn_Tally_init K fd := D 2 _ rfl
theorem k_Tally_init (D : DefsA fn K fd) : PySem.W.keepIn K (.ref (at_Tally_init K)) = true := (F_Tally_init D).kp
end
abbrev s_Tally_call : Stmt := inClass (topS 9) 1
abbrev N_Tally_call : List Str := ["self", "m", "n"]
theorem sc_Tally_call : FnScope N_Tally_call ["self", "m", "n"] (defScope s_Tally_call) := ⟨rfl, rfl, rfl, by decide +kernel, rfl, by decide +kernel, by decide +kernel⟩
abbrev at_Tally_call (K : Fg) : Addr := (ma K (ga K "Tally") "__call__")
abbrev fd_Tally_call (fd : Nat → FuncData) : FuncData := fd 3
section
variable {K : Fg} {mg : Str → Option Value} {fd : Nat → FuncData}
theorem F_Tally_call (D : DefsA fn K fd) : FnP K "__call__" "Tally.__call__" s_Tally_call (at_Tally_call K) (fd_Tally_call fd) := D 3 _ rfl
theorem b_Tally_call (D : DefsA fn K fd) : Binds K (fd_Tally_call fd) ["self", "m", "n"] [] := (F_Tally_call D).bindsN fun _ _ _ _ _ _ us hl => match us, hl with | [_, _, _], _ => rfl
theorem k_Tally_call (D : DefsA fn K fd) : PySem.W.keepIn K (.ref (at_Tally_call K)) = true := (F_Tally_call D).kp
end
abbrev s_Tally_terms : Stmt := inClass (topS 9) 2
abbrev N_Tally_terms : List Str := ["self"]
theorem sc_Tally_terms : FnScope N_Tally_terms ["self"] (defScope s_Tally_terms) := ⟨rfl, rfl, rfl, by decide +kernel, rfl, by decide +kernel, by decide +kernel⟩
abbrev at_Tally_terms (K : Fg) : Addr := (ma K (ga K "Tally") "terms")
abbrev fd_Tally_terms (fd : Nat → FuncData) : FuncData := fd 4
section
variable {K : Fg} {mg : Str → Option Value} {fd : Nat → FuncData}
theorem F_Tally_terms (D : DefsA fn K fd) : FnP K "terms" "Tally.terms" s_Tally_terms (at_Tally_terms K) (fd_Tally_terms fd) := D 4 _ rfl
theorem b_Tally_terms (D : DefsA fn K fd) : Binds K (fd_Tally_terms fd) ["self"] [] := (F_Tally_terms D).bindsN fun _ _ _ _ _ _ us hl => match us, hl with | [_], _ => rfl
theorem k_Tally_terms (D : DefsA fn K fd) : PySem.W.keepIn K (.ref (at_Tally_terms K)) = true := (F_Tally_terms D).kp
end
abbrev s_Tally_eq : Stmt := inClass (topS 9) 3
abbrev N_Tally_eq : List Str := ["self", "other"]
theorem sc_Tally_eq : FnScope N_Tally_eq ["self", "other"] (defScope s_Tally_eq) := ⟨rfl, rfl, rfl, by decide +kernel, rfl, by decide +kernel, by decide +kernel⟩
abbrev at_Tally_eq (K : Fg) : Addr := (ma K (ga K "Tally") "__eq__")
abbrev fd_Tally_eq (fd : Nat → FuncData) : FuncData := fd 5
section
variable {K : Fg} {mg : Str → Option Value} {fd : Nat → FuncData}
theorem F_Tally_eq (D : DefsA fn K fd) : FnP K "__eq__" "Tally.__eq__" s_Tally_eq (at_Tally_eq K) (fd_Tally_eq fd) := D 5 _ rfl
theorem b_Tally_eq (D : DefsA fn K fd) : Binds K (fd_Tally_eq fd) ["self", "other"] [] := (F_Tally_eq D).bindsN fun _ _ _ _ _ _ us hl => match us, hl with | [_, _], _ => rfl
theorem k_Tally_eq (D : DefsA fn K fd) : PySem.W.keepIn K (.ref (at_Tally_eq K)) = true := (F_Tally_eq D).kp
end
abbrev s_Tally_add : Stmt := inClass (topS 9) 4
abbrev N_Tally_add : List Str := ["self", "other"]
theorem sc_Tally_add : FnScope N_Tally_add ["self", "other"] (defScope s_Tally_add) := ⟨rfl, rfl, rfl, by decide +kernel, rfl, by decide +kernel, by decide +kernel⟩
abbrev at_Tally_add (K : Fg) : Addr := (ma K (ga K "Tally") "__add__")
abbrev fd_Tally_add (fd : Nat → FuncData) : FuncData := fd 6
section
variable {K : Fg} {mg : Str → Option Value} {fd : Nat → FuncData}
theorem F_Tally_add (D : DefsA fn K fd) : FnP K "__add__" "Tally.__add__" s_Tally_add (at_Tally_add K) (fd_Tally_add fd) := D 6 _ rfl
theorem b_Tally_add (D : DefsA fn K fd) : Binds K (fd_Tally_add fd) ["self", "other"] [] := (F_Tally_add D).bindsN fun _ _ _ _ _ _ us hl => match us, hl with | [_, _], _ => rfl
theorem k_Tally_add (D : DefsA fn K fd) : PySem.W.keepIn K (.ref (at_Tally_add K)) = true := (F_Tally_add D).kp
end
abbrev s_Tally_sub : Stmt := inClass (topS 9) 5
abbrev N_Tally_sub : List Str := ["self", "other"]
theorem sc_Tally_sub : FnScope N_Tally_sub ["self", "other"] (defScope s_Tally_sub) := ⟨rfl, rfl, rfl, by decide +kernel, rfl, by decide +kernel, by decide +kernel⟩
abbrev at_Tally_sub (K : Fg) : Addr := (ma K (ga K "Tally") "__sub__")
abbrev fd_Tally_sub (fd : Nat → FuncData) : FuncData := fd 7
section
variable {K : Fg} {mg : Str → Option Value} {fd : Nat → FuncData}
theorem F_Tally_sub (D : DefsA fn K fd) : FnP K "__sub__" "Tally.__sub__" s_Tally_sub (at_Tally_sub K) (fd_Tally_sub fd) := D 7 _ rfl
theorem b_Tally_sub (D : DefsA fn K fd) : Binds K (fd_Tally_sub fd) ["self", "other"] [] := (F_Tally_sub D).bindsN fun _ _ _ _ _ _ us hl => match us, hl with | [_, _], _ => rfl
theorem k_Tally_sub (D : DefsA fn K fd) : PySem.W.keepIn K (.ref (at_Tally_sub K)) = true := (F_Tally_sub D).kp
end
abbrev s_Tally_mul : Stmt := inClass (topS 9) 6
abbrev N_Tally_mul : List Str := ["self", "other"]
theorem sc_Tally_mul : FnScope N_Tally_mul ["self", "other"] (defScope s_Tally_mul) := ⟨rfl, rfl, rfl, by decide +kernel, rfl, by decide +kernel, by decide +kernel⟩
abbrev at_Tally_mul (K : Fg) : Addr := (ma K (ga K "Tally") "__mul__")
abbrev fd_Tally_mul (fd : Nat → FuncData) : FuncData := fd 8
section
variable {K : Fg} {mg : Str → Option Value} {fd : Nat → FuncData}
theorem F_Tally_mul (D : DefsA fn K fd) : FnP K "__mul__" "Tally.__mul__" s_Tally_mul (at_Tally_mul K) (fd_Tally_mul fd) := D 8 _ rfl
theorem b_Tally_mul (D : DefsA fn K fd) : Binds K (fd_Tally_mul fd) ["self", "other"] [] := (F_Tally_mul D).bindsN fun _ _ _ _ _ _ us hl => match us, hl with | [_, _], _ => rfl
theorem k_Tally_mul (D : DefsA fn K fd) : PySem.W.keepIn K (.ref (at_Tally_mul K)) = true := (F_Tally_mul D).kp
end
abbrev s_Tally_rmul : Stmt := inClass (topS 9) 7
abbrev N_Tally_rmul : List Str := ["self", "other"]
theorem sc_Tally_rmul : FnScope N_Tally_rmul ["self", "other"] (defScope s_Tally_rmul) := ⟨rfl, rfl, rfl, by decide +kernel, rfl, by decide +kernel, by decide +kernel⟩
abbrev at_Tally_rmul (K : Fg) : Addr := (ma K (ga K "Tally") "__rmul__")
abbrev fd_Tally_rmul (fd : Nat → FuncData) : FuncData := fd 9
section
variable {K : Fg} {mg : Str → Option Value} {fd : Nat → FuncData}
theorem F_Tally_rmul (D : DefsA fn K fd) : FnP K "__rmul__" "Tally.__rmul__" s_Tally_rmul (at_Tally_rmul K) (fd_Tally_rmul fd) := D 9 _ rfl
theorem b_Tally_rmul (D : DefsA fn K fd) : Binds K (fd_Tally_rmul fd) ["self", "other"] [] := (F_Tally_rmul D).bindsN fun _ _ _ _ _ _ us hl => match us, hl with | [_, _], _ => rfl
theorem k_Tally_rmul (D : DefsA fn K fd) : PySem.W.keepIn K (.ref (at_Tally_rmul K)) = true := (F_Tally_rmul D).kp
end
abbrev s_Tally_neg : Stmt := inClass (topS 9) 8
abbrev N_Tally_neg : List Str := ["self"]
theorem sc_Tally_neg : FnScope N_Tally_neg ["self"] (defScope s_Tally_neg) := ⟨rfl, rfl, rfl, by decide +kernel, rfl, by decide +kernel, by decide +kernel⟩
abbrev at_Tally_neg (K : Fg) : Addr := (ma K (ga K "Tally") "__neg__")
abbrev fd_Tally_neg (fd : Nat → FuncData) : FuncData := fd 10
section
variable {K : Fg} {mg : Str → Option Value} {fd : Nat → FuncData}
theorem F_Tally_neg (D : DefsA fn K fd) : FnP K "__neg__" "Tally.__neg__" s_Tally_neg (at_Tally_neg K) (fd_Tally_neg fd) := D 10 _ rfl
theorem b_Tally_neg (D : DefsA fn K fd) : Binds K (fd_Tally_neg fd) ["self"] [] := (F_Tally_neg D).bindsN fun _ _ _ _ _ _ us hl => match us, hl with | [_], _ => rfl
theorem k_Tally_neg (D : DefsA fn K fd) : PySem.W.keepIn K (.ref (at_Tally_neg K)) = true := (F_Tally_neg D).kp
end
abbrev s_Tally_usual : Stmt := inClass (topS 9) 10
abbrev N_Tally_usual : List Str := ["name", "a", "b", "c", "e"]
theorem sc_Tally_usual : FnScope N_Tally_usual ["name"] (defScope s_Tally_usual) := ⟨rfl, rfl, rfl, by decide +kernel, rfl, by decide +kernel, by decide +kernel⟩
abbrev at_Tally_usual (K : Fg) : Addr := (rcAt K "Tally" "usual" "staticmethod")
abbrev fd_Tally_usual (fd : Nat → FuncData) : FuncData := fd 11
section
variable {K : Fg} {mg : Str → Option Value} {fd : Nat → FuncData}
theorem F_Tally_usual (D : DefsA fn K fd) : FnP K "usual" "Tally.usual" s_Tally_usual (at_Tally_usual K) (fd_Tally_usual fd) := D 11 _ rfl
theorem b_Tally_usual (D : DefsA fn K fd) : Binds K (fd_Tally_usual fd) ["name"] [] := (F_Tally_usual D).bindsN fun _ _ _ _ _ _ us hl => match us, hl with | [_], _ => rfl
theorem k_Tally_usual (D : DefsA fn K fd) : PySem.W.keepIn K (.ref (at_Tally_usual K)) = true := (F_Tally_usual D).kp
end
abbrev s_Tally_label : Stmt := inClass (topS 9) 11
abbrev N_Tally_label : List Str := ["self", "name", "terms"]
theorem sc_Tally_label : FnScope N_Tally_label ["self"] (defScope s_Tally_label) := ⟨rfl, rfl, rfl, by decide +kernel, rfl, by decide +kernel, by decide +kernel⟩
abbrev at_Tally_label (K : Fg) : Addr := (rcAt K "Tally" "label" "property")
abbrev fd_Tally_label (fd : Nat → FuncData) : FuncData := fd 12
section
variable {K : Fg} {mg : Str → Option Value} {fd : Nat → FuncData}
theorem F_Tally_label (D : DefsA fn K fd) : FnP K "label" "Tally.label" s_Tally_label (at_Tally_label K) (fd_Tally_label fd) := D 12 _ rfl
theorem b_Tally_label (D : DefsA fn K fd) : Binds K (fd_Tally_label fd) ["self"] [] := (F_Tally_label D).bindsN fun _ _ _ _ _ _ us hl => match us, hl with | [_], _ => rfl
theorem k_Tally_label (D : DefsA fn K fd) : PySem.W.keepIn K (.ref (at_Tally_label K)) = true := (F_Tally_label D).kp
end
abbrev s_pen : Stmt := topS 11
abbrev N_pen : List Str := ["_law_script"]
theorem sc_pen : FnScope N_pen ["_law_script"] (defScope s_pen) := ⟨rfl, rfl, rfl, by decide +kernel, rfl, by decide +kernel, by decide +kernel⟩
abbrev at_pen (K : Fg) : Addr := (ga K "_law_pen")
abbrev fd_pen (fd : Nat → FuncData) : FuncData := fd 13
section
variable {K : Fg} {mg : Str → Option Value} {fd : Nat → FuncData}
theorem F_pen (D : DefsA fn K fd) : FnP K "_law_pen" "_law_pen" s_pen (at_pen K) (fd_pen fd) := D 13 _ rfl
theorem b_pen (D : DefsA fn K fd) : Binds K (fd_pen fd) ["_law_script"] [] := (F_pen D).bindsN fun _ _ _ _ _ _ us hl => match us, hl with | [_], _ => rfl
theorem k_pen (D : DefsA fn K fd) : PySem.W.keepIn K (.ref (at_pen K)) = true := (F_pen D).kp
end
abbrev s_draw : Stmt := topS 12
abbrev N_draw : List Str := ["_law_pen_here", "_law_many", "_law_digit", "_law_at", "_law_cell", "_law_great", "_law_mixed"]
theorem sc_draw : FnScope N_draw ["_law_pen_here", "_law_many"] (defScope s_draw) := ⟨rfl, rfl, rfl, by decide +kernel, rfl, by decide +kernel, by decide +kernel⟩
abbrev at_draw (K : Fg) : Addr := (ga K "_law_draw")
abbrev fd_draw (fd : Nat → FuncData) : FuncData := fd 14
section
variable {K : Fg} {mg : Str → Option Value} {fd : Nat → FuncData}
theorem F_draw (D : DefsA fn K fd) : FnP K "_law_draw" "_law_draw" s_draw (at_draw K) (fd_draw fd) := D 14 _ rfl
theorem b_draw (D : DefsA fn K fd) : Binds K (fd_draw fd) ["_law_pen_here", "_law_many"] [] := (F_draw D).bindsN fun _ _ _ _ _ _ us hl => match us, hl with | [_, _], _ => rfl
theorem k_draw (D : DefsA fn K fd) : PySem.W.keepIn K (.ref (at_draw K)) = true := (F_draw D).kp
end
abbrev s_pick : Stmt := topS 13
abbrev N_pick : List Str := ["_law_pen_here", "_law_some"]
theorem sc_pick : FnScope N_pick ["_law_pen_here", "_law_some"] (defScope s_pick) := ⟨rfl, rfl, rfl, by decide +kernel, rfl, by decide +kernel, by decide +kernel⟩
abbrev at_pick (K : Fg) : Addr := (ga K "_law_pick")
abbrev fd_pick (fd : Nat → FuncData) : FuncData := fd 15
section
variable {K : Fg} {mg : Str → Option Value} {fd : Nat → FuncData}
theorem F_pick (D : DefsA fn K fd) : FnP K "_law_pick" "_law_pick" s_pick (at_pick K) (fd_pick fd) := D 15 _ rfl
theorem b_pick (D : DefsA fn K fd) : Binds K (fd_pick fd) ["_law_pen_here", "_law_some"] [] := (F_pick D).bindsN fun _ _ _ _ _ _ us hl => match us, hl with | [_, _], _ => rfl
theorem k_pick (D : DefsA fn K fd) : PySem.W.keepIn K (.ref (at_pick K)) = true := (F_pick D).kp
end
abbrev s_part : Stmt := topS 14
abbrev N_part : List Str := ["_law_pen_here", "_law_number"]
theorem sc_part : FnScope N_part ["_law_pen_here"] (defScope s_part) := ⟨rfl, rfl, rfl, by decide +kernel, rfl, by decide +kernel, by decide +kernel⟩
abbrev at_part (K : Fg) : Addr := (ga K "_law_part")
abbrev fd_part (fd : Nat → FuncData) : FuncData := fd 16
section
variable {K : Fg} {mg : Str → Option Value} {fd : Nat → FuncData}
theorem F_part (D : DefsA fn K fd) : FnP K "_law_part" "_law_part" s_part (at_part K) (fd_part fd) := D 16 _ rfl
theorem b_part (D : DefsA fn K fd) : Binds K (fd_part fd) ["_law_pen_here"] [] := (F_part D).bindsN fun _ _ _ _ _ _ us hl => match us, hl with | [_], _ => rfl
theorem k_part (D : DefsA fn K fd) : PySem.W.keepIn K (.ref (at_part K)) = true := (F_part D).kp
end
abbrev s_parts : Stmt := topS 15
abbrev N_parts : List Str := ["_law_pen_here", "_law_found", "_law_k"]
theorem sc_parts : FnScope N_parts ["_law_pen_here"] (defScope s_parts) := ⟨rfl, rfl, rfl, by decide +kernel, rfl, by decide +kernel, by decide +kernel⟩
abbrev at_parts (K : Fg) : Addr := (ga K "_law_parts")
abbrev fd_parts (fd : Nat → FuncData) : FuncData := fd 17
section
variable {K : Fg} {mg : Str → Option Value} {fd : Nat → FuncData}
theorem F_parts (D : DefsA fn K fd) : FnP K "_law_parts" "_law_parts" s_parts (at_parts K) (fd_parts fd) := D 17 _ rfl
theorem b_parts (D : DefsA fn K fd) : Binds K (fd_parts fd) ["_law_pen_here"] [] := (F_parts D).bindsN fun _ _ _ _ _ _ us hl => match us, hl with | [_], _ => rfl
theorem k_parts (D : DefsA fn K fd) : PySem.W.keepIn K (.ref (at_parts K)) = true := (F_parts D).kp
end
abbrev s_worth : Stmt := topS 16
abbrev N_worth : List Str := ["_law_parts_here", "_law_m", "_law_n", "_law_least", "_law_alone"]
theorem sc_worth : FnScope N_worth ["_law_parts_here", "_law_m", "_law_n"] (defScope s_worth) := ⟨rfl, rfl, rfl, by decide +kernel, rfl, by decide +kernel, by decide +kernel⟩
abbrev at_worth (K : Fg) : Addr := (ga K "_law_worth")
abbrev fd_worth (fd : Nat → FuncData) : FuncData := fd 18
section
variable {K : Fg} {mg : Str → Option Value} {fd : Nat → FuncData}
theorem F_worth (D : DefsA fn K fd) : FnP K "_law_worth" "_law_worth" s_worth (at_worth K) (fd_worth fd) := D 18 _ rfl
theorem b_worth (D : DefsA fn K fd) : Binds K (fd_worth fd) ["_law_parts_here", "_law_m", "_law_n"] [] := (F_worth D).bindsN fun _ _ _ _ _ _ us hl => match us, hl with | [_, _, _], _ => rfl
theorem k_worth (D : DefsA fn K fd) : PySem.W.keepIn K (.ref (at_worth K)) = true := (F_worth D).kp
end
abbrev s_is : Stmt := topS 17
abbrev N_is : List Str := ["_law_tally", "_law_parts_here", "_law_pen_here", "_law_turn", "_law_m", "_law_n"]
theorem sc_is : FnScope N_is ["_law_tally", "_law_parts_here", "_law_pen_here"] (defScope s_is) := ⟨rfl, rfl, rfl, by decide +kernel, rfl, by decide +kernel, by decide +kernel⟩
abbrev at_is (K : Fg) : Addr := (ga K "_law_is")
abbrev fd_is (fd : Nat → FuncData) : FuncData := fd 19
section
variable {K : Fg} {mg : Str → Option Value} {fd : Nat → FuncData}
theorem F_is (D : DefsA fn K fd) : FnP K "_law_is" "_law_is" s_is (at_is K) (fd_is fd) := D 19 _ rfl
theorem b_is (D : DefsA fn K fd) : Binds K (fd_is fd) ["_law_tally", "_law_parts_here", "_law_pen_here"] [] := (F_is D).bindsN fun _ _ _ _ _ _ us hl => match us, hl with | [_, _, _], _ => rfl
theorem k_is (D : DefsA fn K fd) : PySem.W.keepIn K (.ref (at_is K)) = true := (F_is D).kp
end
abbrev s_usual : Stmt := topS 18
abbrev N_usual : List Str := ["_law_some"]
theorem sc_usual : FnScope N_usual [] (defScope s_usual) := ⟨rfl, rfl, rfl, by decide +kernel, rfl, by decide +kernel, by decide +kernel⟩
abbrev at_usual (K : Fg) : Addr := (ga K "_law_usual")
abbrev fd_usual (fd : Nat → FuncData) : FuncData := fd 20
section
variable {K : Fg} {mg : Str → Option Value} {fd : Nat → FuncData}
theorem F_usual (D : DefsA fn K fd) : FnP K "_law_usual" "_law_usual" s_usual (at_usual K) (fd_usual fd) := D 20 _ rfl
theorem b_usual (D : DefsA fn K fd) : Binds K (fd_usual fd) [] [] := (F_usual D).bindsN fun _ _ _ _ _ _ us hl => match us, hl with | [], _ => rfl
theorem k_usual (D : DefsA fn K fd) : PySem.W.keepIn K (.ref (at_usual K)) = true := (F_usual D).kp
end
abbrev s_label : Stmt := topS 19
abbrev N_label : List Str := ["_law_parts_here", "_law_found", "_law_word", "_law_some"]
theorem sc_label : FnScope N_label ["_law_parts_here"] (defScope s_label) := ⟨rfl, rfl, rfl, by decide +kernel, rfl, by decide +kernel, by decide +kernel⟩
abbrev at_label (K : Fg) : Addr := (ga K "_law_label")
abbrev fd_label (fd : Nat → FuncData) : FuncData := fd 21
section
variable {K : Fg} {mg : Str → Option Value} {fd : Nat → FuncData}
theorem F_label (D : DefsA fn K fd) : FnP K "_law_label" "_law_label" s_label (at_label K) (fd_label fd) := D 21 _ rfl
theorem b_label (D : DefsA fn K fd) : Binds K (fd_label fd) ["_law_parts_here"] [] := (F_label D).bindsN fun _ _ _ _ _ _ us hl => match us, hl with | [_], _ => rfl
theorem k_label (D : DefsA fn K fd) : PySem.W.keepIn K (.ref (at_label K)) = true := (F_label D).kp
end
abbrev s_heard : Stmt := topS 20
abbrev N_heard : List Str := ["_law_worth_here", "_law_caught", "error"]
theorem sc_heard : FnScope N_heard ["_law_worth_here"] (defScope s_heard) := ⟨rfl, rfl, rfl, by decide +kernel, rfl, by decide +kernel, by decide +kernel⟩
abbrev at_heard (K : Fg) : Addr := (ga K "_law_heard")
abbrev fd_heard (fd : Nat → FuncData) : FuncData := fd 22
section
variable {K : Fg} {mg : Str → Option Value} {fd : Nat → FuncData}
theorem F_heard (D : DefsA fn K fd) : FnP K "_law_heard" "_law_heard" s_heard (at_heard K) (fd_heard fd) := D 22 _ rfl
theorem b_heard (D : DefsA fn K fd) : Binds K (fd_heard fd) ["_law_worth_here"] [] := (F_heard D).bindsN fun _ _ _ _ _ _ us hl => match us, hl with | [_], _ => rfl
theorem k_heard (D : DefsA fn K fd) : PySem.W.keepIn K (.ref (at_heard K)) = true := (F_heard D).kp
end
abbrev s_signs_right : Stmt := topS 21
abbrev N_signs_right : List Str := ["_law_pen_here", "_law_first", "_law_second", "_law_one", "_law_other", "_law_times", "_law_both", "_law_k", "_law_less", "_law_more", "_law_others", "_law_thing"]
theorem sc_signs_right : FnScope N_signs_right ["_law_pen_here", "_law_first", "_law_second"] (defScope s_signs_right) := ⟨rfl, rfl, rfl, by decide +kernel, rfl, by decide +kernel, by decide +kernel⟩
abbrev at_signs_right (K : Fg) : Addr := (ga K "_law_signs_right")
abbrev fd_signs_right (fd : Nat → FuncData) : FuncData := fd 23
section
variable {K : Fg} {mg : Str → Option Value} {fd : Nat → FuncData}
theorem F_signs_right (D : DefsA fn K fd) : FnP K "_law_signs_right" "_law_signs_right" s_signs_right (at_signs_right K) (fd_signs_right fd) := D 23 _ rfl
theorem b_signs_right (D : DefsA fn K fd) : Binds K (fd_signs_right fd) ["_law_pen_here", "_law_first", "_law_second"] [] := (F_signs_right D).bindsN fun _ _ _ _ _ _ us hl => match us, hl with | [_, _, _], _ => rfl
theorem k_signs_right (D : DefsA fn K fd) : PySem.W.keepIn K (.ref (at_signs_right K)) = true := (F_signs_right D).kp
end
abbrev s_law : Stmt := topS 22
abbrev N_law : List Str := ["_law_script", "_law_pen_here", "_law_turn", "_law_first", "_law_second", "_law_word", "_law_parts_here", "_law_one", "_law_some", "_law_odd"]
theorem sc_law : FnScope N_law ["_law_script"] (defScope s_law) := ⟨rfl, rfl, rfl, by decide +kernel, rfl, by decide +kernel, by decide +kernel⟩
abbrev at_law (K : Fg) : Addr := (ga K "law")
abbrev fd_law (fd : Nat → FuncData) : FuncData := fd 24
section
variable {K : Fg} {mg : Str → Option Value} {fd : Nat → FuncData}
theorem F_law (D : DefsA fn K fd) : FnP K "law" "law" s_law (at_law K) (fd_law fd) := D 24 _ rfl
theorem b_law (D : DefsA fn K fd) : Binds K (fd_law fd) ["_law_script"] [] := (F_law D).bindsN fun _ _ _ _ _ _ us hl => match us, hl with | [_], _ => rfl
theorem k_law (D : DefsA fn K fd) : PySem.W.keepIn K (.ref (at_law K)) = true := (F_law D).kp
end
def others : List Str := clss ++ fnames.dropLast ++ (["USUAL", "_wall"] : List Str)
end K64
/-! Tw: items() of a written dict walked, a property's facts, str of a list of data. -/
namespace Tw
open PySem PySem.Spec PyProof.Rows L2 He
def valRef : Value → Addr → Bool
  | .ref a, b => a == b
  | _, _ => false
def keyStr : Value → Str → Bool
  | .str z _, y => decide (z = y)
  | _, _ => false
def entsL (f : Str → Addr) : List DictEntry → List Str → Bool
  | [], [] => true
  | e :: es, z :: zs => keyStr e.key z && (valRef e.val (f z) && entsL f es zs)
  | _, _ => false
/-- the written dict at d has just these keys in this order, and at each the object that f names -/
def entsB (K : Fg) (d : Addr) (f : Str → Addr) (zs : List Str) : Bool := match K.lookup d with
  | some o => match o.data with
    | .dict es _ => entsL f es.toList zs
    | _ => false
  | none => false
structure Ents (es : Array DictEntry) (f : Str → Addr) (zs : List Str) : Prop where
  size : es.size = zs.length
  get : ∀ i (h : i < es.size), ∃ z t, zs[i]? = some z ∧ es[i].key = .str z t ∧ es[i].val = .ref (f z)
theorem keyStr_ok {v : Value} {z : Str} (h : keyStr v z = true) : ∃ t, v = .str z t := by
  unfold keyStr at h
  split at h
  · exact ⟨_, by rw [of_decide_eq_true h]⟩
  · exact nomatch h
theorem valRef_ok {v : Value} {a : Addr} (h : valRef v a = true) : v = .ref a := by
  unfold valRef at h
  split at h
  · rw [beq_iff_eq.mp h]
  · exact nomatch h
theorem entsL_ok {f : Str → Addr} : ∀ {es : List DictEntry} {zs : List Str}, entsL f es zs = true → es.length = zs.length ∧ ∀ (i : Nat) (e : DictEntry), es[i]? = some e → ∃ (z : Str) (t : Tok), zs[i]? = some z ∧ e.key = .str z t ∧ e.val = .ref (f z)
  | [], [], _ => ⟨rfl, fun i e h => nomatch h⟩
  | e :: es, z :: zs, h => by
    obtain ⟨h1, h⟩ := ba h
    obtain ⟨h2, h3⟩ := ba h
    obtain ⟨l, r⟩ := entsL_ok h3
    refine ⟨congrArg Nat.succ l, fun i x hx => ?_⟩
    cases i with
    | zero =>
      cases hx
      obtain ⟨t, e1⟩ := keyStr_ok h1
      exact ⟨z, t, rfl, e1, valRef_ok h2⟩
    | succ i => exact r i x hx
  | [], _ :: _, h => nomatch h
  | _ :: _, [], h => nomatch h
theorem entsB_ok {K : Fg} {w : World} {d : Addr} {f : Str → Addr} {zs : List Str} {es : Array DictEntry} {n : Nat} (h : entsB K d f zs = true) (D : KDict K w d es n) : Ents es f zs := by
  unfold entsB at h
  rw [D.at_] at h
  obtain ⟨l, r⟩ := entsL_ok h
  refine ⟨by simpa using l, fun i hi => r i es[i] ?_⟩
  simp [hi]
/-- the pairs of a written dict, each a new tuple -/
def ItKi (f : Str → Addr) (zs : List Str) : It :=
  ⟨fun i _ => i < zs.length, fun i H x H' => ∃ T z, zs[i]? = some z ∧ x = .ref T ∧ H T = none ∧ H' = upd H T (.tup [.str z, .ref (f z)]), fun i _ => zs.length ≤ i⟩
section
variable {K : Fg} {w : World} {d : Addr} {es : Array DictEntry} {n : Nat} {f : Str → Addr} {zs : List Str}
theorem kd_raw {h : Heap} (D : KDict K w d es n) (Y : K.In h) : h.DictRaw d es n := ⟨_, Y d _ D.at_, ⟨rfl, rfl, rfl⟩, rfl⟩
theorem turn_itemsK {P : Program} {elts : List Expr} {kk : Nat} {tpos : Pos} (it : Addr) (D : KDict K w d es n) (N : Ents es f zs) :
    Turn P w K (.Tuple elts kk tpos) (ItKi f zs) [it] it (fun i h => ∃ ok ov, IsItemIter h it d i es.size n ok ov) where
  mem := by simp
  obj := fun i h st b hb => by
    have e : b = it := by simpa using hb
    subst e
    obtain ⟨ok, ov, e⟩ := st
    exact ⟨_, e, fun v z => nomatch z⟩
  keep := fun i h h' st k => let ⟨ok, ov, e⟩ := st; ⟨ok, ov, k it (by simp) _ e⟩
  item := by
    intro X hP hw hK hc i pins s σ H E I hf st hg
    subst hP hw hK
    have hi : i < es.size := by rw [N.size]; exact hg
    obtain ⟨z, t, hz, ek, ev⟩ := N.get i hi
    obtain ⟨ok, ov, he⟩ := st
    have hlt : it < s.heap.objs.size := Heap.lt_size he
    refine wpAny_pyNext_items_item_raw he (kd_raw D I.kIn) hi fun h' ho hT hs hk => ?_
    refine ⟨_, rfl, wpAny_letOwnedTupleGo_items (s := { s with heap := h' }) ho fun h'' he' sb => ?_⟩
    have hT2 : h''.get? s.heap.objs.size = some { cls := .type "tuple", data := .seq #[es[i].key, es[i].val] } := (sb.2 _ (Nat.ne_of_gt hlt)).trans hT
    have new : ObjOk X.prog X.w (upd H s.heap.objs.size (.tup [.str z, .ref (f z)])) h'' s.heap.objs.size (.tup [.str z, .ref (f z)]) :=
      ⟨by show 2 ≤ sizeLine; decide, [es[i].key, es[i].val], .cons ⟨t, ek⟩ (.cons ev .nil), ⟨_, hT2, rfl, _, rfl⟩⟩
    have I1 : Inv X pins σ (upd H s.heap.objs.size (.tup [.str z, .ref (f z)])) { s with heap := h'' } :=
      I.turnedNew (t' := s.toks) (ch := [it]) (fun b ob hb e => (sb.2 b (by simpa using hb)).trans (hk b ob (by simpa using hb) e)) hf (Nat.le_refl _) new
    refine ⟨.ref s.heap.objs.size, _, I1, rfl, ⟨_, z, hz, rfl, I.hok.fresh (Nat.le_refl _), rfl⟩, ⟨_, _, he'⟩, fun b hb => ?_⟩
    have e : b = it := by simpa using hb
    rw [e, upd_ne (Nat.ne_of_lt hlt)]
    exact (hf it (by simp)).1
  done := by
    intro X hP hw hK hc i pins s σ H E I hf st hg
    subst hP hw hK
    have hi : es.size ≤ i := by rw [N.size]; exact hg
    obtain ⟨f0, f1, f2, f3, f4, f5⟩ := hf it (by simp)
    obtain ⟨ok, ov, he⟩ := st
    exact wpAny_pyNext_items_end_raw (I.ok.hd hc) he (kd_raw D I.kIn) hi fun h' eb => ⟨rfl, I.turned (t' := s.toks) (fun b ob hb e => eb b ob hb e) f0 f1 f3 f4 f5⟩
  self := fun A i s Q E st h => let ⟨_, _, e⟩ := st; PySem.W.kcp_self e h
end
section
variable {X : Cx} {d : Addr} {es : Array DictEntry} {n : Nat} {f : Str → Addr} {zs : List Str} {td : TE} {e : Expr} {apos cpos : Pos}
def iItemsK (d : Addr) (f : Str → Addr) (zs : List Str) (td : TE) : TI := fun σ H R => td σ H fun x H1 => x = .ref d ∧ R (ItKi f zs) H1
theorem pi_itemsK {elts : List Expr} {kk : Nat} {tpos : Pos} (D : KDict X.K X.w d es n) (N : Ents es f zs) (he : PE X e td) (hbase : attributeBase e "items" X.env (eval e X.env) = eval e X.env := by rfl) (hline : (apos.endLine == cpos.line) = true := by rfl) :
    PI X (.Tuple elts kk tpos) (.Call (.Attribute e "items" apos) [] [] cpos) (iItemsK d f zs td) := by
  refine ⟨fun pins s σ H R I h => ?_⟩
  refine wpAny_Call_method (T := "dict") (id := "dict.items") hbase rfl hline F.plainAttrs_dict F.slot_dict_items F.type_dict_items (thn (he.run pins s σ H _ I h) fun u s1 ⟨x, H1, I1, rx, ex, q⟩ => ?_)
  subst ex
  obtain rfl : u = Value.ref d := rx
  have hm := kd_raw D I1.kIn
  refine ⟨hm.typeIs, (PySem.W.mapOf_K (prog := X.prog) (w := X.w) I1.kIn D.at_ D.lit).noDict, ?_⟩
  have I2 : Inv X pins σ H1 { s1 with heap := s1.heap.push { cls := .type "dict_items", data := .fields #[.ref d] } } := I1.kept (t' := s1.toks) fun b ob q => Heap.get?_push_of_some _ q
  have fin : wpAny (model X.prog X.w) X.A (pyIter (.ref s1.heap.objs.size)) (PIE X pins σ (.Tuple elts kk tpos) R) X.xe { s1 with heap := s1.heap.push { cls := .type "dict_items", data := .fields #[.ref d] } } := by
    refine wpAny_pyIter_items_raw (d := d) ⟨_, Heap.get?_push_size _ rfl, rfl, rfl⟩ (hm.at fun o q => Heap.get?_push_of_some _ q) (pi_one (tk := s1.toks) I2 _ (turn_itemsK _ D N) ⟨.none, .none, ?_⟩ q)
    exact Heap.get?_push_size _ rfl
  show wpAny _ _ (callWith cpos (.builtin "dict.items") [.ref d] [] []) _ X.xe s1
  exact method_meetsIn F.slot_dict_items F.entry_dict_items rfl (PySem.evalArgs_none ⟨rfl, hm.typeIs, F.args_dict_items_1 _, _, meets_dict_items_raw d D.low, ⟨⟨es, n, hm⟩, fin⟩⟩)
end
/-- the turns over the items of a written dict, for the for loop -/
theorem for_itemsK {f : Str → Addr} {zs : List Str} {g : TG} {tb : TS} {D : Ends} {σ : L2.St} {H : Hp} (Pv : Nat → L2.St → Hp → Prop) (h0 : Pv 0 σ H)
    (hs : ∀ i z σ H T, zs[i]? = some z → Pv i σ H → H T = none → g (.ref T) σ (upd H T (.tup [.str z, .ref (f z)])) fun σ2 H2 => tb { D with nx := Pv (i + 1), ct := Pv (i + 1), bk := D.nx } σ2 H2) (hd : ∀ σ H, Pv zs.length σ H → D.nx σ H) :
    ∃ W : Nat → Nat → L2.St → Hp → Prop, (∃ m, W 0 m σ H) ∧ ∀ i m σ H, W i m σ H →
      ((ItKi f zs).stop i H ∧ D.nx σ H) ∨ ((ItKi f zs).go i H ∧ ∃ N : L2.St → Hp → Prop, (∀ σ' H', N σ' H' → ∃ m', m' < m ∧ W (i + 1) m' σ' H') ∧ ∀ x H', (ItKi f zs).yld i H x H' → g x σ H' fun σ2 H2 => tb { D with nx := N, ct := N, bk := D.nx } σ2 H2) := by
  refine ⟨fun i m σ H => m = zs.length - i ∧ i ≤ zs.length ∧ Pv i σ H, ⟨zs.length, by simp, Nat.zero_le _, h0⟩, ?_⟩
  rintro i m σ H ⟨rfl, hi, p⟩
  by_cases hlt : i < zs.length
  · refine .inr ⟨hlt, Pv (i + 1), fun σ' H' p' => ⟨zs.length - (i + 1), by omega, rfl, hlt, p'⟩, fun x H' y => ?_⟩
    obtain ⟨T, z, hz, ex, hT, eH⟩ := y
    subst ex eH
    exact hs i z σ H T hz p hT
  · have e : i = zs.length := by omega
    subst e
    exact .inl ⟨Nat.le_refl _, hd σ H p⟩
/-! ### a property's facts -/
def propB (K : Fg) (x m : Str) : Bool := eqO (PySem.W.findIn K (.ref (ga K x)) m) (some (some (.ref (ma K (ga K x) m)))) && (eqO (PySem.W.specialIn K (.ref (ma K (ga K x) m)) "__get__") (some (some (.builtin "property.__get__"))) &&
  (decide (PySem.W.takesIn K (.ref (ma K (ga K x) m)) = some true) && (match PySem.W.recIn K (ma K (ga K x) m) "property" with
  | some (.ref g :: _) => decide (g = rcAt K x m "property")
  | _ => false)))
theorem propB_ok {K : Fg} {x m : Str} (h : propB K x m = true) : PropOf K (ga K x) m (ma K (ga K x) m) (rcAt K x m "property") := by
  obtain ⟨h1, h⟩ := ba h
  obtain ⟨h2, h⟩ := ba h
  obtain ⟨h3, h4⟩ := ba h
  refine ⟨eqO_ok h1, eqO_ok h2, of_decide_eq_true h3, ?_⟩
  split at h4
  · rename_i g rest e
    exact ⟨rest, by rw [e, of_decide_eq_true h4]⟩
  · exact nomatch h4
section
variable {X : Cx}
/-- str(x), x a list or a tuple of data -/
theorem call_strR (hG : NoG X.A) (hu : X.A.units + 70 < cLine) : CallR X (.type "str") (rRepr X.K) := by
  intro pins s σ H xs us Q I r h
  obtain ⟨a, d, rfl, hd, hm, hdp, hc, q⟩ := h
  obtain ⟨u, rfl, ru⟩ := vals1 r
  obtain ⟨as, hr, hn⟩ := Dx.reads I hd ru
  cases (show u = Value.ref a from ru)
  exact str_of_reads hr (mild_show d hm) (fun _ => hn) hG (by omega) (fun _ _ e => e) (fun h' u tk hk => ⟨.str d.shown, H, I.kept (t' := tk) hk, ⟨_, rfl⟩, q⟩) (Nat.le_trans (shown_le d hm) (by rw [sizeLine_eq]; exact hc))
end
end Tw
namespace K64
open PySem PySem.Spec PyProof.Rows L2 He Tw
structure T4 where
  a : Int
  b : Int
  c : Int
  e : Int
deriving DecidableEq
def T4.vs (t : T4) : List V := [.int t.a, .int t.b, .int t.c, .int t.e]
def usualL : List (Str × T4) := [("sum", ⟨1, 1, 0, 0⟩), ("union", ⟨1, 1, -1, 0⟩), ("both", ⟨0, 0, 1, 0⟩), ("lacks", ⟨1, 0, -1, 0⟩), ("xor", ⟨1, 1, -2, 0⟩), ("join", ⟨0, 0, 0, 1⟩), ("left", ⟨1, 0, 0, 0⟩), ("right", ⟨0, 1, 0, 0⟩), ("none", ⟨0, 0, 0, 0⟩)]
def noNames : List Str := ["", "Sum", "sums", "sum ", "keeps left"]
def kinds : List String := ["NoneType", "bool", "int", "str", "list", "tuple", "dict"]
def uAt (K : Fg) (z : Str) : Addr := match PySem.W.nsIn K (ga K "USUAL") z with
  | some (some (.ref a)) => a
  | _ => 0
def ts : List Tab := [(fun K => ga K "USUAL", usualL.map (·.1))]
def callOB (K : Fg) (x : Str) : Bool := eqO (PySem.W.findIn K (.ref (ga K x)) "__call__") (some (some (.ref (ma K (ga K x) "__call__")))) && (PySem.W.isFn K (.ref (ma K (ga K x) "__call__")) && PySem.W.fnIn K (ma K (ga K x) "__call__"))
def fs : Fz := [fun K => clss.all fun x => (Fa.glo x).ok K, fun K => fnames.all fun x => (Fa.glo x).ok K, fun K => blts.all fun x => (Fa.free x).ok K,
  fun K => (Fy.xc "BadName").ok K, fun K => Fy.xo.ok K, fun K => (Fy.ini "BadName").ok K, fun K => (Fy.names "BadName" ["name"]).ok K,
  fun K => (Fy.kit "BadName" "BadName" true).ok K, fun K => decide (PySem.W.exmOne K (.ref (ga K "BadName")) (.ref (ga K "HeadsError")) = some true),
  fun K => (Fy.kit "Tally" "Tally" true).ok K, fun K => PySem.W.notFirst K (ga K "Tally") (.ref (ga K "Tally")),
  fun K => (Fa.cls "Tally").ok K, fun K => (Fa.mkr "Tally").ok K, fun K => (["a", "b", "c", "e"] : List Str).all fun f => (Fa.noat "Tally" f).ok K,
  fun K => (["terms", "__eq__"] : List Str).all fun m => (Fa.meth "Tally" m).ok K,
  fun K => (["__add__", "__sub__", "__mul__", "__rmul__", "__neg__"] : List Str).all fun m => ownB K "Tally" m,
  fun K => binTB K "Tally" .Mult "int",
  fun K => decide (PySem.W.subIn K (.ref (ga K "Tally")) (.type "int") = some false),
  fun K => callOB K "Tally", fun K => cstaB K "Tally" "usual", fun K => creadB K (ga K "Tally"),
  fun K => decide (PySem.W.mroIn K (ga K "Tally") (.type "object") = some true), fun K => eqO (PySem.W.findIn K (.ref (ga K "Tally")) "__class__") (some (some (.builtin "object.__class__"))),
  fun K => (Fa.glo "USUAL").ok K, fun K => usualL.all fun q => eqO (PySem.W.nsIn K (ga K "USUAL") q.1) (some (some (.ref (uAt K q.1)))) && tupB K (uAt K q.1) q.2.vs,
  fun K => noNames.all fun z => eqO (PySem.W.nsIn K (ga K "USUAL") z) (some none),
  fun K => kinds.all fun t => decide (PySem.W.kitOne K (.type t) (.ref (ga K "Tally")) = some false) && PySem.W.notFirst K (ga K "Tally") (.type t), fun K => propB K "Tally" "label", fun K => entsB K (ga K "USUAL") (uAt K) (usualL.map (·.1))]
abbrev Txt := TxtA fs fn ts
section
variable {w : World} {K : Fg} {mg : Str → Option Value}
theorem Txt.cl (T : Txt w K mg) {x : Str} (h : x ∈ clss) : mg x = some (.ref (ga K x)) := T.gl x (of_all (f := fun x => (Fa.glo x).ok K) (T.fact 0) h)
theorem Txt.fn (T : Txt w K mg) {x : Str} (h : x ∈ fnames) : mg x = some (.ref (ga K x)) := T.gl x (of_all (f := fun x => (Fa.glo x).ok K) (T.fact 1) h)
theorem Txt.bl (T : Txt w K mg) {x : Str} (h : x ∈ blts) : mg x = none := T.fr x (of_all (f := fun x => (Fa.free x).ok K) (T.fact 2) h)
theorem Txt.xc (T : Txt w K mg) : XC K (ga K "BadName") := xc_ok (T.fact 3)
theorem Txt.xo (T : Txt w K mg) : XO K := xo_ok (T.fact 4)
theorem Txt.ini (T : Txt w K mg) : PySem.W.findIn K (.ref (ga K "BadName")) "__init__" = some (some (.ref (ma K (ga K "BadName") "__init__"))) ∧ PySem.W.typeIn K (.ref (ma K (ga K "BadName") "__init__")) = some (.type "function") := ini_ok (T.fact 5)
theorem Txt.no (T : Txt w K mg) : PySem.W.findIn K (.ref (ga K "BadName")) "name" = some none := names_ok (T.fact 6) (by decide +kernel)
theorem Txt.kitNN (T : Txt w K mg) : PySem.W.kitOne K (.ref (ga K "BadName")) (.ref (ga K "BadName")) = some true := kit_ok (T.fact 7)
theorem Txt.exm (T : Txt w K mg) : PySem.W.exmOne K (.ref (ga K "BadName")) (.ref (ga K "HeadsError")) = some true := of_decide_eq_true (T.fact 8)
theorem Txt.kitTT (T : Txt w K mg) : PySem.W.kitOne K (.ref (ga K "Tally")) (.ref (ga K "Tally")) = some true := kit_ok (T.fact 9)
theorem Txt.nfT (T : Txt w K mg) : PySem.W.notFirst K (ga K "Tally") (.ref (ga K "Tally")) = true := T.fact 10
theorem Txt.cls (T : Txt w K mg) : Cls K (ga K "Tally") := cls_ok (T.fact 11)
theorem Txt.mk (T : Txt w K mg) : Mk K (ga K "Tally") (ma K (ga K "Tally") "__init__") := mkr_ok (T.fact 12)
theorem Txt.na (T : Txt w K mg) {f : Str} (h : f ∈ (["a", "b", "c", "e"] : List Str)) : NoAttr K (ga K "Tally") f := noat_ok (List.all_eq_true.mp (T.fact 13) f h)
theorem Txt.mt (T : Txt w K mg) {m : Str} (h : m ∈ (["terms", "__eq__"] : List Str)) : Meth K (ga K "Tally") m (ma K (ga K "Tally") m) := meth_ok (List.all_eq_true.mp (T.fact 14) m h)
theorem Txt.own (T : Txt w K mg) {m : Str} (h : m ∈ (["__add__", "__sub__", "__mul__", "__rmul__", "__neg__"] : List Str)) : OwnB K (ga K "Tally") m (ma K (ga K "Tally") m) := ownB_ok (List.all_eq_true.mp (T.fact 15) m h)
theorem Txt.bint (T : Txt w K mg) : BinT K (ga K "Tally") .Mult "int" := binTB_ok (T.fact 16)
theorem Txt.subI (T : Txt w K mg) : PySem.W.subIn K (.ref (ga K "Tally")) (.type "int") = some false := of_decide_eq_true (T.fact 17)
theorem Txt.callO (T : Txt w K mg) : StX.CallO K (ga K "Tally") (ma K (ga K "Tally") "__call__") := by
  obtain ⟨h1, h⟩ := ba (T.fact 18)
  obtain ⟨h2, h3⟩ := ba h
  exact ⟨eqO_ok h1, h2, h3⟩
theorem Txt.sta (T : Txt w K mg) : CSta K (ga K "Tally") "usual" (ma K (ga K "Tally") "usual") (rcAt K "Tally" "usual" "staticmethod") := cstaB_ok (T.fact 19)
theorem Txt.crd (T : Txt w K mg) : ClX.CRead K (ga K "Tally") (.type "type") := creadB_ok (T.fact 20)
theorem Txt.mro (T : Txt w K mg) : PySem.W.mroIn K (ga K "Tally") (.type "object") = some true := of_decide_eq_true (T.fact 21)
theorem Txt.ca (T : Txt w K mg) : PySem.W.findIn K (.ref (ga K "Tally")) "__class__" = some (some (.builtin "object.__class__")) := eqO_ok (T.fact 22)
theorem Txt.gU (T : Txt w K mg) : mg "USUAL" = some (.ref (ga K "USUAL")) := T.gl _ (T.fact 23)
theorem Txt.usual (T : Txt w K mg) {q : Str × T4} (h : q ∈ usualL) (H : Hp) : PySem.W.nsIn K (ga K "USUAL") q.1 = some (some (.ref (uAt K q.1))) ∧ SqT K H (uAt K q.1) q.2.vs := by
  obtain ⟨h1, h2⟩ := ba (List.all_eq_true.mp (T.fact 24) q h)
  exact ⟨eqO_ok h1, tupB_ok h2 H⟩
theorem Txt.noU (T : Txt w K mg) {z : Str} (h : z ∈ noNames) : PySem.W.nsIn K (ga K "USUAL") z = some none := eqO_ok (List.all_eq_true.mp (T.fact 25) z h)
theorem Txt.kind (T : Txt w K mg) {t : String} (h : t ∈ kinds) : PySem.W.kitOne K (.type t) (.ref (ga K "Tally")) = some false ∧ PySem.W.notFirst K (ga K "Tally") (.type t) = true := by
  obtain ⟨a, b⟩ := ba (List.all_eq_true.mp (T.fact 26) t h)
  exact ⟨of_decide_eq_true a, b⟩
theorem Txt.prop (T : Txt w K mg) : PropOf K (ga K "Tally") "label" (ma K (ga K "Tally") "label") (rcAt K "Tally" "label" "property") := propB_ok (T.fact 27)
theorem Txt.ents (T : Txt w K mg) {en : Array DictEntry} {n : Nat} (KD : KDict K w (ga K "USUAL") en n) : Ents en (uAt K) (usualL.map (·.1)) := entsB_ok (T.fact 28) KD
end
section
variable {P : Program} {w : World} {K : Fg} {mg : Str → Option Value} {base : Heap} {fd : Nat → FuncData}
theorem G_draw (D : DefsA fn K fd) (T : Txt w K mg) : FnOk P w K mg base CX0 1 (at_draw K) (fd_draw fd) ["_law_pen_here", "_law_many"] spDrawL := by
  have zint : mg "int" = none := T.bl (by decide +kernel)
  have zlen : mg "len" = none := T.bl (by decide +kernel)
  have zabs : mg "abs" = none := T.bl (by decide +kernel)
  refine (F_draw D).ok sc_draw (fun vs H Q E h => ?_) (fun cdv A outer s H vs Q E hr h => ?_)
  · obtain ⟨p, l, m, c, rfl, _⟩ := h
    rfl
  · obtain ⟨p, l, m, c, rfl, hm0, hm1, ⟨ns, i, g, hp, hl, hlp, hn, hi0, hic, hg0⟩, hc, k⟩ := h
    have hsp : SqL K H p [.ref l, .int i, .int g] := SqL.of hp
    have hsl : SqL K H l (ns.map V.int) := SqL.of hl
    refine ⟨_, PSs.nox (pss_cons (ps_if (pt_cmpR op_gt (pe_ix ix_list (pv 0) pe_int (fun _ _ => rfl)) pe_int (nomark _)) (pss_cons (ps_set (i := 2) sc_draw.nd rfl (Or.inl rfl) (pe_op op_mod (pe_callTy call_int1 (by rfl) zint (by decide +kernel) (pa_cons (pe_ix ix_list (pv 0) pe_int (fun _ _ => rfl)) pa_nil)) (pv 1)))
    (pss_cons (ps_asg (pe_op op_fdiv (pe_callTy call_int1 (by rfl) zint (by decide +kernel) (pa_cons (pe_ix ix_list (pv 0) pe_int (fun _ _ => rfl)) pa_nil)) (pv 1)) (pg_sub (pv 0) pe_int set_list))
    (pss_one (ps_ret (pv 2))))) pss_nil)
    (pss_cons (ps_set (i := 3) sc_draw.nd rfl (Or.inl rfl) (pe_ix ix_list (pv 0) pe_int (fun _ _ => rfl)))
    (pss_cons (ps_asg (pe_op op_add (pv 3) pe_int) (pg_sub (pv 0) pe_int set_list))
    (pss_cons (ps_set (i := 4) sc_draw.nd rfl (Or.inl rfl) (pe_op op_add (pe_op op_mul pe_int (pv 3)) pe_int))
    (pss_mid (ps_if (pt_cmpR (op_neD hr.units) (pe_ix ix_list (pv 0) pe_int (fun _ _ => rfl)) (pe_lst pa_nil) (nomark _)) (pss_one (ps_set (i := 4) sc_draw.nd rfl (Or.inl rfl) (pe_ix ix_list (pe_ix ix_list (pv 0) pe_int (fun _ _ => rfl)) (pe_op op_mod (pe_callTy call_int1 (by rfl) zint (by decide +kernel) (pa_cons (pv 3) pa_nil)) (pe_callB call_len (by rfl) zlen (by decide +kernel) (pa_cons (pe_ix ix_list (pv 0) pe_int (fun _ _ => rfl)) pa_nil))) (fun _ _ => rfl)))) pss_nil)
    (pss_mid (ps_if (PW.pt (pw_and (pt_cmpR op_lt (pv 3) (pe_callB call_len (by rfl) zlen (by decide +kernel) (pa_cons (pe_ix ix_list (pv 0) pe_int (fun _ _ => rfl)) pa_nil)) (nomark _)) (pw_and1 (pt_cmpR op_ge (pe_callB call_abs (by rfl) zabs (by decide +kernel) (pa_cons (pv 4) pa_nil)) (pe_op op_pow pe_int pe_int) (nomark _))))) (pss_cons (ps_set (i := 5) sc_draw.nd rfl (Or.inl rfl) (pe_op op_add (pe_op op_mul pe_int (pe_op op_sub (pe_callB call_abs (by rfl) zabs (by decide +kernel) (pa_cons (pv 4) pa_nil)) (pe_op op_pow pe_int pe_int))) (pe_callTy call_int1 (by rfl) zint (by decide +kernel) (pa_cons (pe_cmpR op_lt (pv 4) pe_int (nomark _)) pa_nil))))
    (pss_cons (ps_asg (pe_op op_fdiv (pe_callTy call_int1 (by rfl) zint (by decide +kernel) (pa_cons (pv 5) pa_nil)) (pv 1)) (pg_sub (pv 0) pe_int set_list))
    (pss_one (ps_ret (pe_op op_mod (pe_callTy call_int1 (by rfl) zint (by decide +kernel) (pa_cons (pv 5) pa_nil)) (pv 1)))))) pss_nil)
    (pss_mid (ps_set (i := 6) sc_draw.nd rfl (Or.inl rfl) (pe_op op_mod (pe_callTy call_int1 (by rfl) zint (by decide +kernel) (pa_cons (pe_op op_pow (pe_op op_add (pe_op op_add (pe_op op_mod (pe_callTy call_int1 (by rfl) zint (by decide +kernel) (pa_cons (pv 4) pa_nil)) pe_int) (pe_op op_mul pe_int (pv 3))) pe_int) pe_int) pa_nil)) pe_int))
    (pss_mid (ps_set (i := 6) sc_draw.nd rfl (Or.inl rfl) (pe_op op_mod (pe_callTy call_int1 (by rfl) zint (by decide +kernel) (pa_cons (pe_op op_pow (pe_op op_add (pe_op op_add (pe_op op_mul (pv 6) (pe_op op_add (pe_op op_mul pe_int (pv 3)) pe_int)) (pe_op op_mul (pe_op op_mul pe_int (pv 3)) (pv 3))) pe_int) pe_int) pa_nil)) pe_int))
    (pss_one (ps_ret (pe_op op_mod (pe_callTy call_int1 (by rfl) zint (by decide +kernel) (pa_cons (pe_op op_fdiv (pv 6) pe_int) pa_nil)) (pv 1)))))))))))), ?_⟩
    refine ⟨_, rfl, p, _, 2, .int g, rfl, rfl, hsp, rfl, _, _, rfl, rfl, _, rfl, ?_⟩
    refine ite2 (fun hgt => ?_) (fun hle => ?_)
    · refine ⟨_, rfl, p, _, 2, .int g, rfl, rfl, hsp, rfl, .inl ⟨g, rfl, _, rfl, g, m, rfl, rfl, hm0, ?_⟩⟩
      refine ⟨_, rfl, p, _, 2, .int g, rfl, rfl, hsp, rfl, .inl ⟨g, rfl, _, rfl, g, m, rfl, rfl, ⟨hm0, hm1⟩, ?_⟩⟩
      refine ⟨_, rfl, p, _, 2, 2, rfl, rfl, hp, rfl, _, rfl, ?_⟩
      refine k (g % m) _ (Int.emod_nonneg _ (by omega)) (Int.emod_lt_of_pos _ hm0) ⟨ns, i, g / m, upd_same, by rw [upd_ne hlp]; exact hl, hlp, hn, hi0, by omega, Int.ediv_nonneg hg0 (by omega)⟩ But.upd
    · refine ⟨_, rfl, p, _, 1, .int i, rfl, rfl, hsp, rfl, ?_⟩
      refine ⟨_, rfl, i, 1, rfl, rfl, _, rfl, p, _, 1, 1, rfl, rfl, hp, rfl, ?_⟩
      refine ⟨_, rfl, _, i, rfl, rfl, .inl ⟨by decide, by decide⟩, _, _, rfl, rfl, ?_⟩
      have hp1 : (upd H p (.lst ([V.ref l, .int i, .int g].set 1 (.int (i + 1))))) p = some (.lst [.ref l, .int (i + 1), .int g]) := upd_same
      have hl1 : (upd H p (.lst ([V.ref l, .int i, .int g].set 1 (.int (i + 1))))) l = some (.lst (ns.map V.int)) := by rw [upd_ne hlp]; exact hl
      have b1 : But p H (upd H p (.lst ([V.ref l, .int i, .int g].set 1 (.int (i + 1))))) := But.upd
      generalize upd H p (.lst ([V.ref l, .int i, .int g].set 1 (.int (i + 1)))) = H1 at hp1 hl1 b1 ⊢
      refine ⟨fun σ' H' => ∃ z : Int, σ' = [some (.ref p), some (.int m), none, some (.int i), some (.int z), none, none] ∧ H' p = some (.lst [.ref l, .int (i + 1), .int g]) ∧ H' l = some (.lst (ns.map V.int)) ∧ But p H H', ?_, ?_⟩
      · refine ⟨_, rfl, p, _, 0, .ref l, rfl, rfl, SqL.of hp1, rfl, (by show 0 ≤ sizeLine; decide), fun q hq => ?_⟩
        have hq1 : p ≠ q := ne_of_none hp1 hq
        have hq2 : l ≠ q := ne_of_none hl1 hq
        have hp2 : (upd H1 q (.lst [])) p = some (.lst [.ref l, .int (i + 1), .int g]) := by rw [upd_ne hq1]; exact hp1
        have hl2 : (upd H1 q (.lst [])) l = some (.lst (ns.map V.int)) := by rw [upd_ne hq2]; exact hl1
        have hq3 : (upd H1 q (.lst [])) q = some (.lst []) := upd_same
        have b2 : But p H (upd H1 q (.lst [])) := b1.trans (But.of (same_new hq))
        generalize upd H1 q (.lst []) = H2 at hp2 hl2 hq3 b2 ⊢
        refine ⟨_, _, .lst (SqL.of hl2) (dp_ints ns), .lst (SqL.of hq3) .nil, shaped_ints ns, shaped_ints [], _, rfl, ?_⟩
        refine ite2 (fun hne => ?_) (fun _ => ⟨_, rfl, hp2, hl2, b2⟩)
        have hns : 0 < ns.length := by
          cases ns with
          | nil => exact absurd hne (by decide)
          | cons n r => exact Nat.succ_pos _
        have hz : (0 : Int) < ((ns.map V.int).length : Int) := by rw [List.length_map]; omega
        have j0 := Int.emod_nonneg i (Int.ne_of_gt hz)
        have j1 := Int.emod_lt_of_pos i hz
        obtain ⟨z, ez⟩ : ∃ z, (ns.map V.int)[(i % ((ns.map V.int).length : Int)).toNat]? = some (V.int z) := by
          rw [List.length_map] at j0 j1 ⊢
          have hlt : (i % (ns.length : Int)).toNat < ns.length := by omega
          exact ⟨ns[(i % (ns.length : Int)).toNat], by rw [List.getElem?_map, List.getElem?_eq_getElem hlt]; rfl⟩
        exact ⟨_, rfl, p, _, 0, .ref l, rfl, rfl, SqL.of hp2, rfl, _, rfl, .inl ⟨i, rfl, _, rfl, p, _, 0, .ref l, rfl, rfl, SqL.of hp2, rfl, _, _, rfl, .inl ⟨_, SqL.of hl2, rfl⟩, _, _, rfl, rfl, hz, l, _, _, .int z, rfl, rfl, SqL.of hl2, atI_of j0 ez, _, rfl, hp2, hl2, b2⟩⟩
      · rintro σ2 H2 ⟨z, rfl, hp2, hl2, b2⟩
        refine ⟨fun σ' H' => σ' = [some (.ref p), some (.int m), none, some (.int i), some (.int z), none, none] ∧ H' = H2, ?_, ?_⟩
        · refine ⟨_, rfl, _, rfl, p, _, 0, .ref l, rfl, rfl, SqL.of hp2, rfl, _, _, rfl, .inl ⟨_, SqL.of hl2, rfl⟩, _, _, rfl, rfl, _, rfl, ?_⟩
          refine ite2 (fun _ => ?_) (fun _ => ⟨rfl, rfl⟩)
          refine ⟨_, rfl, _, rfl, _, _, rfl, rfl, ⟨by decide, by decide, by decide⟩, _, _, rfl, rfl, _, rfl, ?_⟩
          refine ite2 (fun hgr => ?_) (fun _ => ⟨rfl, rfl⟩)
          have hgr' := of_decide_eq_true hgr
          refine ⟨_, rfl, _, rfl, _, _, rfl, rfl, ⟨by decide, by decide, by decide⟩, _, _, rfl, rfl, _, _, rfl, rfl, .inl ⟨by decide, by decide⟩, _, rfl, _, _, rfl, rfl, .inr ⟨_, rfl, _, _, rfl, rfl, ?_⟩⟩
          refine ⟨_, rfl, .inl ⟨_, rfl, _, rfl, _, _, rfl, rfl, ⟨hm0, hm1⟩, _, rfl, p, _, 2, 2, rfl, rfl, hp2, rfl, ?_⟩⟩
          refine ⟨_, rfl, .inl ⟨_, rfl, _, rfl, _, _, rfl, rfl, hm0, ?_⟩⟩
          have hpos : (0 : Int) ≤ 2 * ((if z < 0 then -z else z) - 10 ^ (18 : Int).toNat) + (if decide (z < 0) = true then 1 else 0) := by
            have h2 : (0 : Int) ≤ (if decide (z < 0) = true then 1 else 0) := by split <;> decide
            omega
          exact k _ _ (Int.emod_nonneg _ (Int.ne_of_gt hm0)) (Int.emod_lt_of_pos _ hm0) ⟨ns, i + 1, _, upd_same, by rw [upd_ne hlp]; exact hl2, hlp, hn, by omega, by omega, Int.ediv_nonneg hpos (Int.le_of_lt hm0)⟩ (b2.trans But.upd)
        · rintro σ3 H3 ⟨rfl, rfl⟩
          refine ⟨fun σ' H' => ∃ x : Int, σ' = [some (.ref p), some (.int m), none, some (.int i), some (.int z), none, some (.int x)] ∧ H' = H3 ∧ 0 ≤ x ∧ x < 2147483648, ?_, ?_⟩
          · refine ⟨_, rfl, .inl ⟨_, rfl, _, _, rfl, rfl, (by show (0 : Int) < _; decide), _, rfl, _, _, rfl, rfl, .inl ⟨by decide, by decide⟩, _, _, rfl, rfl, _, _, rfl, rfl, _, _, rfl, rfl, ⟨by decide, by decide, ?_⟩, .inl ⟨_, rfl, _, _, rfl, rfl, (by show (0 : Int) < _; decide), _, rfl, rfl, Int.emod_nonneg _ (by decide), Int.lt_trans (Int.emod_lt_of_pos _ (by decide)) (by decide)⟩⟩⟩
            apply pow_ok <;> omega
          rintro σ4 H4 ⟨x, rfl, rfl, x0, x1⟩
          have hi6 : i ≤ 1000000 := by omega
          have q1 := mul_le' x0 (Int.le_of_lt x1) (show (0 : Int) ≤ 2 * i by omega) (show 2 * i ≤ 2000000 by omega)
          have q2 := mul_le' hi0 hi6 hi0 hi6
          refine ⟨fun σ' H' => ∃ y : Int, σ' = [some (.ref p), some (.int m), none, some (.int i), some (.int z), none, some (.int y)] ∧ H' = H4, ?_, ?_⟩
          · refine ⟨_, rfl, _, rfl, _, _, rfl, rfl, .inl ⟨by decide, by decide⟩, _, _, rfl, rfl, _, _, rfl, rfl, .inl ⟨by omega, by omega⟩, _, rfl, _, _, rfl, rfl, .inl ⟨by decide, by decide⟩, _, rfl, _, _, rfl, rfl, .inl ⟨by omega, by omega⟩, _, _, rfl, rfl, _, _, rfl, rfl, _, _, rfl, rfl, ⟨by decide, by decide, ?_⟩, .inl ⟨_, rfl, _, _, rfl, rfl, (by show (0 : Int) < _; decide), _, rfl, rfl⟩⟩
            rw [Int.mul_add, Int.mul_assoc _ i i]
            apply pow_ok <;> omega
          rintro σ5 H5 ⟨y, rfl, rfl⟩
          refine ⟨_, rfl, _, _, rfl, rfl, ⟨by decide, by decide⟩, .inl ⟨_, rfl, _, rfl, _, _, rfl, rfl, hm0, ?_⟩⟩
          exact k _ _ (Int.emod_nonneg _ (Int.ne_of_gt hm0)) (Int.emod_lt_of_pos _ hm0) ⟨ns, i + 1, g, hp2, hl2, hlp, hn, by omega, by omega, hg0⟩ b2
theorem G_pen (D : DefsA fn K fd) (T : Txt w K mg) : FnOk P w K mg base CX0 1 (at_pen K) (fd_pen fd) ["_law_script"] (spPenL K) := by
  have zlist : mg "list" = none := T.bl (by decide +kernel)
  refine (F_pen D).ok sc_pen (fun vs H Q E h => ?_) (fun cdv A outer s H vs Q E hr h => ?_)
  · obtain ⟨a, ns, rfl, _⟩ := h
    rfl
  · obtain ⟨a, ns, rfl, hS, hn, k⟩ := h
    obtain ⟨ms, em, hm⟩ := cut_ints ns none (some 63)
    refine ⟨_, PSs.nox (pss_one (ps_ret (pe_lst (pa_cons (pe_callTy call_list_of (by rfl) zlist (by decide +kernel) (pa_cons (pe_slice sl_list (pv 0) po_none (po_some pe_int)) pa_nil)) (pa_cons pe_int (pa_cons pe_int pa_nil)))))), ?_⟩
    refine ⟨_, rfl, _, rfl, a, _, rfl, hS, fun q hq => ⟨q, _, rfl, .inl (SqL.of upd_same), fun l hl => ⟨sz1000 (by show 3 ≤ 1000; decide), fun p hp => ?_⟩⟩⟩
    rw [em] at hl hp ⊢
    have s1 := same_new (o := .lst (ms.map V.int)) hq
    have s2 := same_new (o := .lst (ms.map V.int)) hl
    have s3 := same_new (o := .lst [.ref l, .int 0, .int 0]) hp
    have hl' : (upd (upd H q (.lst (ms.map V.int))) l (.lst (ms.map V.int))) l = some (.lst (ms.map V.int)) := upd_same
    exact k p l _ ((s1.trans s2).free hp) ⟨ms, 0, 0, upd_same, s3 _ _ hl', ne_of_none hl' hp, by omega, by decide, by decide, by decide⟩ ((s1.trans s2).trans s3)
theorem G_pick (D : DefsA fn K fd) (T : Txt w K mg) : FnOk P w K mg base CX0 2 (at_pick K) (fd_pick fd) ["_law_pen_here", "_law_some"] (spPickL K) := by
  have zlen : mg "len" = none := T.bl (by decide +kernel)
  have gD := T.fn (x := "_law_draw") (by decide +kernel)
  refine (F_pick D).ok sc_pick (fun vs H Q E h => ?_) (fun cdv A outer s H vs Q E hr h => ?_)
  · obtain ⟨p, l, q, xs, c, rfl, _⟩ := h
    rfl
  · obtain ⟨p, l, q, xs, c, rfl, hS, hqp, hx0, hx1, hP, hc, k⟩ := h
    refine ⟨_, PSs.nox (pss_one (ps_ret (pe_ix ix_list (pv 1) (pe_call (G_draw D T) (hr.mono (by decide)) rfl gD (k_draw D) (b_draw D) .nil pass0 (pa_cons (pv 0) (pa_cons (pe_callB call_len (by rfl) zlen (by decide +kernel) (pa_cons (pv 1) pa_nil)) pa_nil))) (fun _ _ => rfl)))), ?_⟩
    refine ⟨_, rfl, _, rfl, _, rfl, _, _, rfl, .inl ⟨xs, hS, rfl⟩, p, l, (xs.length : Int), c, rfl, by omega, by omega, hP, hc, fun r H' h0 h1 hP' hB => ?_⟩
    have hlt : r.toNat < xs.length := by omega
    exact ⟨q, xs, r, _, rfl, rfl, hB.seq hqp hS, atI_of h0 (List.getElem?_eq_getElem hlt), k _ H' (List.getElem_mem hlt) hP' hB⟩
end
end K64
namespace K64
open PySem PySem.Spec PyProof.Rows L2 He Tw
def T4.w (t : T4) (m n : Int) : Int := t.a * m + t.b * n + t.c * (if n < m then n else m) + t.e * m * n
def T4.add (t u : T4) : T4 := ⟨t.a + u.a, t.b + u.b, t.c + u.c, t.e + u.e⟩
def T4.sub (t u : T4) : T4 := ⟨t.a - u.a, t.b - u.b, t.c - u.c, t.e - u.e⟩
def T4.mul (t : T4) (k : Int) : T4 := ⟨t.a * k, t.b * k, t.c * k, t.e * k⟩
def T4.neg (t : T4) : T4 := ⟨t.b, t.a, t.c, t.e⟩
def T4.le (t : T4) (N : Int) : Prop := (-N ≤ t.a ∧ t.a ≤ N) ∧ (-N ≤ t.b ∧ t.b ≤ N) ∧ (-N ≤ t.c ∧ t.c ≤ N) ∧ (-N ≤ t.e ∧ t.e ≤ N)
theorem T4.le.mono {t : T4} {M N : Int} (h : t.le M) (hmn : M ≤ N) : t.le N := by
  obtain ⟨⟨a1, a2⟩, ⟨b1, b2⟩, ⟨c1, c2⟩, e1, e2⟩ := h
  exact ⟨⟨by omega, by omega⟩, ⟨by omega, by omega⟩, ⟨by omega, by omega⟩, by omega, by omega⟩
theorem T4.le.add {t u : T4} {M N : Int} (h : t.le M) (g : u.le N) : (t.add u).le (M + N) := by
  obtain ⟨⟨a1, a2⟩, ⟨b1, b2⟩, ⟨c1, c2⟩, e1, e2⟩ := h
  obtain ⟨⟨a3, a4⟩, ⟨b3, b4⟩, ⟨c3, c4⟩, e3, e4⟩ := g
  unfold T4.add
  exact ⟨⟨by show _ ≤ t.a + u.a; omega, by show t.a + u.a ≤ _; omega⟩, ⟨by show _ ≤ t.b + u.b; omega, by show t.b + u.b ≤ _; omega⟩, ⟨by show _ ≤ t.c + u.c; omega, by show t.c + u.c ≤ _; omega⟩, by show _ ≤ t.e + u.e; omega, by show t.e + u.e ≤ _; omega⟩
theorem T4.le.sub {t u : T4} {M N : Int} (h : t.le M) (g : u.le N) : (t.sub u).le (M + N) := by
  obtain ⟨⟨a1, a2⟩, ⟨b1, b2⟩, ⟨c1, c2⟩, e1, e2⟩ := h
  obtain ⟨⟨a3, a4⟩, ⟨b3, b4⟩, ⟨c3, c4⟩, e3, e4⟩ := g
  unfold T4.sub
  exact ⟨⟨by show _ ≤ t.a - u.a; omega, by show t.a - u.a ≤ _; omega⟩, ⟨by show _ ≤ t.b - u.b; omega, by show t.b - u.b ≤ _; omega⟩, ⟨by show _ ≤ t.c - u.c; omega, by show t.c - u.c ≤ _; omega⟩, by show _ ≤ t.e - u.e; omega, by show t.e - u.e ≤ _; omega⟩
theorem T4.le.neg {t : T4} {M : Int} (h : t.le M) : t.neg.le M := ⟨h.2.1, h.1, h.2.2.1, h.2.2.2⟩
/-- a tally -/
def Tal (K : Fg) (H : Hp) (x : Addr) (t : T4) : Prop := ∃ dx, H x = some (.ins (ga K "Tally") dx [("a", .int t.a), ("b", .int t.b), ("c", .int t.c), ("e", .int t.e)])
theorem Tal.same {K : Fg} {H H' : Hp} {x : Addr} {t : T4} (e : Same H H') (h : Tal K H x t) : Tal K H' x t := by
  obtain ⟨dx, h⟩ := h
  exact ⟨dx, e _ _ h⟩
theorem Tal.but {K : Fg} {H H' : Hp} {x p : Addr} {t : T4} (e : But p H H') (hx : x ≠ p) (h : Tal K H x t) : Tal K H' x t := by
  obtain ⟨dx, h⟩ := h
  exact ⟨dx, e _ _ h hx⟩
/-- a tally beside the pen is not the pen -/
theorem Tal.ne {K : Fg} {H : Hp} {x p l : Addr} {c : Nat} {t : T4} (h : Tal K H x t) (P : PenL H p l c) : x ≠ p := fun e => by
  obtain ⟨dx, h⟩ := h
  obtain ⟨ns, i, g, e1, _⟩ := P
  rw [e, e1] at h
  cases h
/-- what a tally is asked to equal -/
inductive Oth (K : Fg) (H : Hp) : V → Option T4 → Prop where
  | tal {b : Addr} {t : T4} (h : Tal K H b t) : Oth K H (.ref b) (some t)
  | plain {x : V} {T : String} (h : Bv H x T) : Oth K H x none
def eqTo (t : T4) : Option T4 → Bool
  | some u => decide (t = u)
  | none => false
theorem bv_kind {H : Hp} {x : V} {T : String} (h : Bv H x T) : T ∈ kinds := by
  cases h <;> decide
theorem Tal.ty {w : World} {K : Fg} {mg : Str → Option Value} (T : Txt w K mg) {H : Hp} {x : Addr} {t : T4} (h : Tal K H x t) : TyX K H (.ref x) (.ref (ga K "Tally")) := by
  obtain ⟨dx, h⟩ := h
  exact .base (.ins h T.cls T.ca T.xo.hn T.xo.ht T.mro)
theorem Oth.tyA {w : World} {K : Fg} {mg : Str → Option Value} (T : Txt w K mg) {H : Hp} {x : V} {o : Option T4} (h : Oth K H x o) : ∃ t, TyA K H x t ∧ PySem.W.notFirst K (ga K "Tally") t = true ∧ PySem.W.kitOne K t (.ref (ga K "Tally")) = some o.isSome := by
  cases h with
  | tal h => exact ⟨_, .inl (h.ty T), T.nfT, T.kitTT⟩
  | plain h => exact ⟨_, .inl h.ty, (T.kind (bv_kind h)).2, (T.kind (bv_kind h)).1⟩
theorem eqv4 (t u : T4) : PyData.eqv (.tuple [.int t.a, .int t.b, .int t.c, .int t.e]) (.tuple [.int u.a, .int u.b, .int u.c, .int u.e]) = decide (t = u) := by
  obtain ⟨a, b, c, e⟩ := t
  obtain ⟨a', b', c', e'⟩ := u
  simp only [PyData.eqv, PyData.eqvAll, Bool.and_true, T4.mk.injEq, Bool.decide_and]
  by_cases h1 : a = a' <;> by_cases h2 : b = b' <;> by_cases h3 : c = c' <;> by_cases h4 : e = e' <;> simp [h1, h2, h3, h4]
theorem shaped4 (t : T4) : SeqAt.shaped (.tuple [.int t.a, .int t.b, .int t.c, .int t.e]) = true := by
  simp [SeqAt.shaped, PyData.canLay0, PyData.canLayAll0, PyData.depth, PyData.depthAll]
def underB (t u : T4) : Bool := decide ((u.sub t).a ≥ 0) && (decide ((u.sub t).b ≥ 0) && (decide ((u.sub t).e ≥ 0) && decide ((u.sub t).a + (u.sub t).b + (u.sub t).c + (u.sub t).e ≥ 0)))
def spNum : Sp := fun vs H Q _ => ∃ (x : V) (T : String), vs = [x] ∧ Bv H x T ∧ Q (.bl (isI x)) H
def spInit (K : Fg) : Sp := fun vs H Q _ => ∃ (x dx : Addr) (t : T4), vs = .ref x :: t.vs ∧ H x = some (.ins (ga K "Tally") dx []) ∧ ∀ H', But x H H' → Tal K H' x t → Q .non H'
def spCall (K : Fg) : Sp := fun vs H Q _ => ∃ (x : Addr) (t : T4) (m n : Int), vs = [.ref x, .int m, .int n] ∧ Tal K H x t ∧ t.le (10 ^ 18) ∧ (0 ≤ m ∧ m ≤ 10 ^ 9) ∧ (0 ≤ n ∧ n ≤ 10 ^ 9) ∧ Q (.int (t.w m n)) H
def spTerms (K : Fg) : Sp := fun vs H Q _ => ∃ (x : Addr) (t : T4), vs = [.ref x] ∧ Tal K H x t ∧ ∀ p H', H p = none → Same H H' → H' p = some (.tup t.vs) → Q (.ref p) H'
def spEq (K : Fg) : Sp := fun vs H Q _ => ∃ (x : Addr) (t : T4) (y : V) (o : Option T4), vs = [.ref x, y] ∧ Tal K H x t ∧ Oth K H y o ∧ ∀ H', Same H H' → Q (.bl (eqTo t o)) H'
def spTwo (K : Fg) (f : T4 → T4 → T4) : Sp := fun vs H Q _ => ∃ (x y : Addr) (t u : T4), vs = [.ref x, .ref y] ∧ Tal K H x t ∧ Tal K H y u ∧ ∀ z H', Same H H' → Tal K H' z (f t u) → Q (.ref z) H'
def spMul (K : Fg) : Sp := fun vs H Q _ => ∃ (x : Addr) (t : T4) (k : Int), vs = [.ref x, .int k] ∧ Tal K H x t ∧ t.le (10 ^ 18) ∧ ∀ z H', Same H H' → Tal K H' z (t.mul k) → Q (.ref z) H'
def spNeg (K : Fg) : Sp := fun vs H Q _ => ∃ (x : Addr) (t : T4), vs = [.ref x] ∧ Tal K H x t ∧ ∀ z H', Same H H' → Tal K H' z t.neg → Q (.ref z) H'
def spUsual (K : Fg) : Sp := fun vs H Q E => ∃ (x : V) (T : String), vs = [x] ∧ Bv H x T ∧ ((∃ q, q ∈ usualL ∧ x = .str q.1 ∧ ∀ z H', Same H H' → Tal K H' z q.2 → Q (.ref z) H') ∨
  ((∀ z, x = .str z → z ∈ noNames) ∧ ∀ (d : Addr) (H' : Hp), Same H H' → H' d = some (.xd [("name", x)]) → E (.ref (ga K "BadName")) (some d) H'))
theorem tal_to {K : Fg} {H : Hp} {t : T4} {R : VK} {E : XK} {x dx : Addr} {vs : List V} (hv : vs = t.vs) (hx : H x = none) (hd : H dx = none) (hne : dx ≠ x) (k : ∀ H' : Hp, Tal K H' x t → Same H H' → R .non H') :
    spInit K (.ref x :: vs) (upd (upd H dx (.own x)) x (.ins (ga K "Tally") dx [])) R E := by
  subst hv
  exact ⟨x, dx, t, rfl, upd_same, fun H' b c => k H' c (same_but (same_made hd hx hne) b hx)⟩
section
variable {P : Program} {w : World} {K : Fg} {mg : Str → Option Value} {base : Heap} {fd : Nat → FuncData}
theorem b4 (D : DefsA fn K fd) : Binds K (fd_Tally_init fd) ["self", "a", "b", "c", "e"] [] := by
  obtain ⟨d, r, b⟩ := FunD.binds1 (ps := ["self", "a", "b", "c", "e"]) (F_Tally_init D) 5 2 (fun z => nomatch z) rfl fun _ _ _ _ _ _ _ us its h1 h2 => match us, h1, its, h2 with
    | [_, _, _, _, _], _, [_, _], _ => ⟨_, rfl, rfl⟩
  cases (show Vals [] d from r)
  exact b
theorem G_num (D : DefsA fn K fd) (T : Txt w K mg) : FnOk P w K mg base CX0 1 (at_is_number K) (fd_is_number fd) ["value"] spNum := by
  have zisi : mg "isinstance" = none := T.bl (by decide +kernel)
  have zint : mg "int" = none := T.bl (by decide +kernel)
  have zbool : mg "bool" = none := T.bl (by decide +kernel)
  refine (F_is_number D).ok sc_is_number (fun vs H Q E h => ?_) (fun cdv A outer s H vs Q E hr h => ?_)
  · obtain ⟨x, t, rfl, _⟩ := h
    rfl
  · obtain ⟨x, t, rfl, b, k⟩ := h
    refine ⟨_, PSs.nox (pss_one (ps_ret (pe_and (pe_callB call_isA (by rfl) zisi (by decide +kernel) (pa_cons (pv 0) (pa_cons (pe_bltn (v := .ty "int") (by rfl) zint (by decide +kernel) rfl) pa_nil))) (pe_one (pe_not (pe_callB call_isA (by rfl) zisi (by decide +kernel) (pa_cons (pv 0) (pa_cons (pe_bltn (v := .ty "bool") (by rfl) zbool (by decide +kernel) rfl) pa_nil)))))))), ?_⟩
    obtain ⟨k1, k2, k3⟩ := b.kits (K := K)
    refine ⟨_, rfl, x, .ty "int", _, _, _, rfl, .ty "int", .inl b.ty, k3, _, rfl, ?_⟩
    cases x with
    | bl y => exact ⟨_, rfl, .bl y, .ty "bool", _, _, _, rfl, .ty "bool", .inl b.ty, k2, _, rfl, k⟩
    | int i => exact ⟨_, rfl, .int i, .ty "bool", _, _, _, rfl, .ty "bool", .inl b.ty, k2, _, rfl, k⟩
    | _ => exact k
theorem G_bad (D : DefsA fn K fd) (T : Txt w K mg) : FnOk P w K mg base CX0 1 (at_BadName_init K) (fd_BadName_init fd) ["self", "name"] (spIni (ga K "BadName") "name") := by
  refine (F_BadName_init D).ok sc_BadName_init (fun vs H Q E h => ?_) (fun cdv A outer s H vs Q E hr h => ?_)
  · obtain ⟨a, v, rfl, _⟩ := h
    rfl
  · obtain ⟨a, v, rfl, ha, k⟩ := h
    refine ⟨_, PSs.nox (pss_one (ps_ost (pv 0) (pv 1))), ?_⟩
    refine ⟨_, rfl, _, rfl, a, _, rfl, T.xc.ox, T.no, .inl ⟨ha, fun d hd hda => k d _ hd hda upd_same (by rw [upd_ne hda]; exact upd_same) fun b o hb hba => ?_⟩⟩
    rw [upd_ne hba, upd_ne (ne_of_none hb hd)]
    exact hb
theorem G_init (D : DefsA fn K fd) (T : Txt w K mg) : FnOk P w K mg base CX0 1 (at_Tally_init K) (fd_Tally_init fd) ["self", "a", "b", "c", "e"] (spInit K) := by
  refine (F_Tally_init D).ok sc_Tally_init (fun vs H Q E h => ?_) (fun cdv A outer s H vs Q E hr h => ?_)
  · obtain ⟨x, dx, t, rfl, _⟩ := h
    rfl
  · obtain ⟨x, dx, t, rfl, hx, k⟩ := h
    refine ⟨_, PSs.nox (pss_cons (ps_fld (pv 0) (pv 1) rfl) (pss_cons (ps_fld (pv 0) (pv 2) rfl) (pss_cons (ps_fld (pv 0) (pv 3) rfl) (pss_one (ps_fld (pv 0) (pv 4) rfl))))), ?_⟩
    refine ⟨_, rfl, _, rfl, x, _, dx, _, rfl, hx, T.cls, T.na (by decide +kernel), (by show 0 < 1000; decide), ?_⟩
    refine ⟨_, rfl, _, rfl, x, _, dx, _, rfl, upd_same, T.cls, T.na (by decide +kernel), (by show 1 < 1000; decide), ?_⟩
    refine ⟨_, rfl, _, rfl, x, _, dx, _, rfl, upd_same, T.cls, T.na (by decide +kernel), (by show 2 < 1000; decide), ?_⟩
    refine ⟨_, rfl, _, rfl, x, _, dx, _, rfl, upd_same, T.cls, T.na (by decide +kernel), (by show 3 < 1000; decide), ?_⟩
    exact k _ (((But.upd.trans But.upd).trans But.upd).trans But.upd) ⟨dx, upd_same⟩
theorem G_call (D : DefsA fn K fd) (T : Txt w K mg) : FnOk P w K mg base CX0 1 (at_Tally_call K) (fd_Tally_call fd) ["self", "m", "n"] (spCall K) := by
  have zmin : mg "min" = none := T.bl (by decide +kernel)
  refine (F_Tally_call D).ok sc_Tally_call (fun vs H Q E h => ?_) (fun cdv A outer s H vs Q E hr h => ?_)
  · obtain ⟨x, t, m, n, rfl, _⟩ := h
    rfl
  · obtain ⟨x, t, m, n, rfl, ⟨dx, hx⟩, ⟨⟨a1, a2⟩, ⟨b1, b2⟩, ⟨c1, c2⟩, e1, e2⟩, ⟨m0, m1⟩, ⟨n0, n1⟩, k⟩ := h
    refine ⟨_, PSs.nox (pss_one (ps_ret (pe_op op_add (pe_op op_add (pe_op op_add (pe_op op_mul (pe_fld (pv 0) rfl) (pv 1)) (pe_op op_mul (pe_fld (pv 0) rfl) (pv 2))) (pe_op op_mul (pe_fld (pv 0) rfl) (pe_callB (call_min2 rfl) (by rfl) zmin (by decide +kernel) (pa_cons (pv 1) (pa_cons (pv 2) pa_nil))))) (pe_op op_mul (pe_op op_mul (pe_fld (pv 0) rfl) (pv 1)) (pv 2))))), ?_⟩
    have big : (10 : Int) ^ 18 < 2 ^ 64 := by decide
    have big9 : (10 : Int) ^ 9 < 2 ^ 64 := by decide
    refine ⟨_, rfl, x, _, dx, _, _, rfl, hx, T.cls, T.na (by decide +kernel), rfl, _, rfl, _, _, rfl, rfl, .inl ⟨by omega, by omega⟩, ?_⟩
    refine ⟨_, rfl, x, _, dx, _, _, rfl, hx, T.cls, T.na (by decide +kernel), rfl, _, rfl, _, _, rfl, rfl, .inl ⟨by omega, by omega⟩, _, _, rfl, rfl, ?_⟩
    refine ⟨_, rfl, x, _, dx, _, _, rfl, hx, T.cls, T.na (by decide +kernel), rfl, _, rfl, _, rfl, _, _, rfl, _, _, rfl, rfl, .inl ⟨by omega, by omega⟩, _, _, rfl, rfl, ?_⟩
    refine ⟨_, rfl, x, _, dx, _, _, rfl, hx, T.cls, T.na (by decide +kernel), rfl, _, rfl, _, _, rfl, rfl, .inl ⟨by omega, by omega⟩, _, rfl, _, _, rfl, rfl, .inr ⟨by omega, by omega⟩, _, _, rfl, rfl, ?_⟩
    exact k
theorem G_terms (D : DefsA fn K fd) (T : Txt w K mg) : FnOk P w K mg base CX0 1 (at_Tally_terms K) (fd_Tally_terms fd) ["self"] (spTerms K) := by
  refine (F_Tally_terms D).ok sc_Tally_terms (fun vs H Q E h => ?_) (fun cdv A outer s H vs Q E hr h => ?_)
  · obtain ⟨x, t, rfl, _⟩ := h
    rfl
  · obtain ⟨x, t, rfl, ⟨dx, hx⟩, k⟩ := h
    refine ⟨_, PSs.nox (pss_one (ps_ret (pe_tupN (pa_cons (pe_fld (pv 0) rfl) (pa_cons (pe_fld (pv 0) rfl) (pa_cons (pe_fld (pv 0) rfl) (pa_cons (pe_fld (pv 0) rfl) pa_nil))))))), ?_⟩
    refine ⟨_, rfl, x, _, dx, _, _, rfl, hx, T.cls, T.na (by decide +kernel), rfl, _, rfl, x, _, dx, _, _, rfl, hx, T.cls, T.na (by decide +kernel), rfl, _, rfl, x, _, dx, _, _, rfl, hx, T.cls, T.na (by decide +kernel), rfl, _, rfl, x, _, dx, _, _, rfl, hx, T.cls, T.na (by decide +kernel), rfl, sz1000 (by show 4 ≤ 1000; decide), fun p H1 f1 s1 g1 => k p H1 f1 s1 g1⟩
theorem G_eq (D : DefsA fn K fd) (T : Txt w K mg) : FnOk P w K mg base CX0 2 (at_Tally_eq K) (fd_Tally_eq fd) ["self", "other"] (spEq K) := by
  have zisi : mg "isinstance" = none := T.bl (by decide +kernel)
  have gT : mg "Tally" = some (.ref (ga K "Tally")) := T.cl (by decide +kernel)
  have mM := T.mt (m := "terms") (by decide +kernel)
  refine (F_Tally_eq D).ok sc_Tally_eq (fun vs H Q E h => ?_) (fun cdv A outer s H vs Q E hr h => ?_)
  · obtain ⟨x, t, y, o, rfl, _⟩ := h
    rfl
  · obtain ⟨x, t, y, o, rfl, hX, hy, k⟩ := h
    refine ⟨_, PSs.nox (pss_one (ps_ret (pe_and (pe_callB call_isA (by rfl) zisi (by decide +kernel) (pa_cons (pv 1) (pa_cons (pe_glob (v := .ref (ga K "Tally")) rfl gT rfl) pa_nil))) (pe_one (pe_cmpR (op_eqD hr.units) (pe_meth0 (E := E0) (pv 0) T.cls mM (G_terms D T) (hr.mono (by decide)) (b_Tally_terms D) .nil pass0) (pe_meth0 (E := E0) (pv 1) T.cls mM (G_terms D T) (hr.mono (by decide)) (b_Tally_terms D) .nil pass0) (nomark _)))))), ?_⟩
    obtain ⟨ty, tyA, nf, kt⟩ := hy.tyA T
    refine ⟨_, rfl, y, .ref (ga K "Tally"), ty, _, _, rfl, .own _, tyA, kt, _, rfl, ?_⟩
    cases hy with
    | tal hb =>
      rename_i b u
      obtain ⟨dx, hx⟩ := id hX
      refine ⟨_, rfl, x, dx, _, rfl, hx, rfl, x, t, rfl, hX, fun p H1 f1 s1 g1 => ?_⟩
      have hb1 := hb.same s1
      obtain ⟨dy, hy⟩ := id hb1
      refine ⟨_, rfl, b, dy, _, rfl, hy, rfl, b, u, rfl, hb1, fun q H2 f2 s2 g2 => ?_⟩
      refine ⟨_, _, .tup (.inl (.inl (s2 _ _ g1))) (.cons (.int _) (.cons (.int _) (.cons (.int _) (.cons (.int _) .nil)))), .tup (.inl (.inl g2)) (.cons (.int _) (.cons (.int _) (.cons (.int _) (.cons (.int _) .nil)))), shaped4 t, shaped4 u, ?_⟩
      rw [eqv4]
      exact k H2 (s1.trans s2)
    | plain h => exact k H fun _ _ e => e
end
end K64
namespace K64
open PySem PySem.Spec PyProof.Rows L2 He Tw
section
variable {P : Program} {w : World} {K : Fg} {mg : Str → Option Value} {base : Heap} {fd : Nat → FuncData}
theorem G_add (D : DefsA fn K fd) (T : Txt w K mg) : FnOk P w K mg base CX0 3 (at_Tally_add K) (fd_Tally_add fd) ["self", "other"] (spTwo K T4.add) := by
  have zisi : mg "isinstance" = none := T.bl (by decide +kernel)
  have gT : mg "Tally" = some (.ref (ga K "Tally")) := T.cl (by decide +kernel)
  refine (F_Tally_add D).ok sc_Tally_add (fun vs H Q E h => ?_) (fun cdv A outer s H vs Q E hr h => ?_)
  · obtain ⟨x, y, t, u, rfl, _⟩ := h
    rfl
  · obtain ⟨x, y, t, u, rfl, hX, hY, k⟩ := h
    refine ⟨_, PSs.nox (pss_cons (ps_if (pt_not (pt_val (pe_callB call_isA (by rfl) zisi (by decide +kernel) (pa_cons (pv 1) (pa_cons (pe_glob (v := .ref (ga K "Tally")) rfl gT rfl) pa_nil))))) (pss_one ps_never) pss_nil)
    (pss_one (ps_ret (pe_make (E := E0) T.mk (G_init D T) (hr.mono (by decide)) rfl gT (b4 D) .nil pass0 (pa_cons (pe_op op_add (pe_fld (pv 0) rfl) (pe_fld (pv 1) rfl)) (pa_cons (pe_op op_add (pe_fld (pv 0) rfl) (pe_fld (pv 1) rfl)) (pa_cons (pe_op op_add (pe_fld (pv 0) rfl) (pe_fld (pv 1) rfl)) (pa_cons (pe_op op_add (pe_fld (pv 0) rfl) (pe_fld (pv 1) rfl)) pa_nil)))))))), ?_⟩
    obtain ⟨dx, hx⟩ := id hX
    obtain ⟨dy, hy⟩ := id hY
    refine ⟨_, rfl, .ref y, .ref (ga K "Tally"), _, _, _, rfl, .own _, .inl (hY.ty T), T.kitTT, _, rfl, ?_⟩
    refine iteF ?_
    refine ⟨_, rfl, x, _, dx, _, _, rfl, hx, T.cls, T.na (by decide +kernel), rfl, _, rfl, y, _, dy, _, _, rfl, hy, T.cls, T.na (by decide +kernel), rfl, _, _, rfl, rfl, ?_⟩
    refine ⟨_, rfl, x, _, dx, _, _, rfl, hx, T.cls, T.na (by decide +kernel), rfl, _, rfl, y, _, dy, _, _, rfl, hy, T.cls, T.na (by decide +kernel), rfl, _, _, rfl, rfl, ?_⟩
    refine ⟨_, rfl, x, _, dx, _, _, rfl, hx, T.cls, T.na (by decide +kernel), rfl, _, rfl, y, _, dy, _, _, rfl, hy, T.cls, T.na (by decide +kernel), rfl, _, _, rfl, rfl, ?_⟩
    refine ⟨_, rfl, x, _, dx, _, _, rfl, hx, T.cls, T.na (by decide +kernel), rfl, _, rfl, y, _, dy, _, _, rfl, hy, T.cls, T.na (by decide +kernel), rfl, _, _, rfl, rfl, ?_⟩
    exact fun z dz hz hd hne => tal_to (t := t.add u) rfl hz hd hne fun H' hT s' => ⟨rfl, k z H' s' hT⟩
theorem G_sub (D : DefsA fn K fd) (T : Txt w K mg) : FnOk P w K mg base CX0 3 (at_Tally_sub K) (fd_Tally_sub fd) ["self", "other"] (spTwo K T4.sub) := by
  have zisi : mg "isinstance" = none := T.bl (by decide +kernel)
  have gT : mg "Tally" = some (.ref (ga K "Tally")) := T.cl (by decide +kernel)
  refine (F_Tally_sub D).ok sc_Tally_sub (fun vs H Q E h => ?_) (fun cdv A outer s H vs Q E hr h => ?_)
  · obtain ⟨x, y, t, u, rfl, _⟩ := h
    rfl
  · obtain ⟨x, y, t, u, rfl, hX, hY, k⟩ := h
    refine ⟨_, PSs.nox (pss_cons (ps_if (pt_not (pt_val (pe_callB call_isA (by rfl) zisi (by decide +kernel) (pa_cons (pv 1) (pa_cons (pe_glob (v := .ref (ga K "Tally")) rfl gT rfl) pa_nil))))) (pss_one ps_never) pss_nil)
    (pss_one (ps_ret (pe_make (E := E0) T.mk (G_init D T) (hr.mono (by decide)) rfl gT (b4 D) .nil pass0 (pa_cons (pe_op op_sub (pe_fld (pv 0) rfl) (pe_fld (pv 1) rfl)) (pa_cons (pe_op op_sub (pe_fld (pv 0) rfl) (pe_fld (pv 1) rfl)) (pa_cons (pe_op op_sub (pe_fld (pv 0) rfl) (pe_fld (pv 1) rfl)) (pa_cons (pe_op op_sub (pe_fld (pv 0) rfl) (pe_fld (pv 1) rfl)) pa_nil)))))))), ?_⟩
    obtain ⟨dx, hx⟩ := id hX
    obtain ⟨dy, hy⟩ := id hY
    refine ⟨_, rfl, .ref y, .ref (ga K "Tally"), _, _, _, rfl, .own _, .inl (hY.ty T), T.kitTT, _, rfl, ?_⟩
    refine iteF ?_
    refine ⟨_, rfl, x, _, dx, _, _, rfl, hx, T.cls, T.na (by decide +kernel), rfl, _, rfl, y, _, dy, _, _, rfl, hy, T.cls, T.na (by decide +kernel), rfl, _, _, rfl, rfl, ?_⟩
    refine ⟨_, rfl, x, _, dx, _, _, rfl, hx, T.cls, T.na (by decide +kernel), rfl, _, rfl, y, _, dy, _, _, rfl, hy, T.cls, T.na (by decide +kernel), rfl, _, _, rfl, rfl, ?_⟩
    refine ⟨_, rfl, x, _, dx, _, _, rfl, hx, T.cls, T.na (by decide +kernel), rfl, _, rfl, y, _, dy, _, _, rfl, hy, T.cls, T.na (by decide +kernel), rfl, _, _, rfl, rfl, ?_⟩
    refine ⟨_, rfl, x, _, dx, _, _, rfl, hx, T.cls, T.na (by decide +kernel), rfl, _, rfl, y, _, dy, _, _, rfl, hy, T.cls, T.na (by decide +kernel), rfl, _, _, rfl, rfl, ?_⟩
    exact fun z dz hz hd hne => tal_to (t := t.sub u) rfl hz hd hne fun H' hT s' => ⟨rfl, k z H' s' hT⟩
theorem G_mul (D : DefsA fn K fd) (T : Txt w K mg) : FnOk P w K mg base CX0 3 (at_Tally_mul K) (fd_Tally_mul fd) ["self", "other"] (spMul K) := by
  have gT : mg "Tally" = some (.ref (ga K "Tally")) := T.cl (by decide +kernel)
  have gN := T.fn (x := "is_number") (by decide +kernel)
  refine (F_Tally_mul D).ok sc_Tally_mul (fun vs H Q E h => ?_) (fun cdv A outer s H vs Q E hr h => ?_)
  · obtain ⟨x, t, i, rfl, _⟩ := h
    rfl
  · obtain ⟨x, t, i, rfl, hX, ⟨⟨a1, a2⟩, ⟨b1, b2⟩, ⟨c1, c2⟩, e1, e2⟩, k⟩ := h
    refine ⟨_, PSs.nox (pss_cons (ps_if (pt_not (pt_val (pe_call (G_num D T) (hr.mono (by decide)) rfl gN (k_is_number D) (b_is_number D) .nil pass0 (pa_cons (pv 1) pa_nil)))) (pss_one ps_never) pss_nil)
    (pss_one (ps_ret (pe_make (E := E0) T.mk (G_init D T) (hr.mono (by decide)) rfl gT (b4 D) .nil pass0 (pa_cons (pe_op op_mul (pe_fld (pv 0) rfl) (pv 1)) (pa_cons (pe_op op_mul (pe_fld (pv 0) rfl) (pv 1)) (pa_cons (pe_op op_mul (pe_fld (pv 0) rfl) (pv 1)) (pa_cons (pe_op op_mul (pe_fld (pv 0) rfl) (pv 1)) pa_nil)))))))), ?_⟩
    obtain ⟨dx, hx⟩ := id hX
    have big : (10 : Int) ^ 18 < 2 ^ 64 := by decide
    refine ⟨_, rfl, .int i, "int", rfl, .int i, _, rfl, ?_⟩
    refine iteF ?_
    refine ⟨_, rfl, x, _, dx, _, _, rfl, hx, T.cls, T.na (by decide +kernel), rfl, _, rfl, _, _, rfl, rfl, .inl ⟨by omega, by omega⟩, ?_⟩
    refine ⟨_, rfl, x, _, dx, _, _, rfl, hx, T.cls, T.na (by decide +kernel), rfl, _, rfl, _, _, rfl, rfl, .inl ⟨by omega, by omega⟩, ?_⟩
    refine ⟨_, rfl, x, _, dx, _, _, rfl, hx, T.cls, T.na (by decide +kernel), rfl, _, rfl, _, _, rfl, rfl, .inl ⟨by omega, by omega⟩, ?_⟩
    refine ⟨_, rfl, x, _, dx, _, _, rfl, hx, T.cls, T.na (by decide +kernel), rfl, _, rfl, _, _, rfl, rfl, .inl ⟨by omega, by omega⟩, ?_⟩
    exact fun z dz hz hd hne => tal_to (t := t.mul i) rfl hz hd hne fun H' hT s' => ⟨rfl, k z H' s' hT⟩
theorem G_rmul (D : DefsA fn K fd) (T : Txt w K mg) : FnOk P w K mg base CX0 3 (at_Tally_rmul K) (fd_Tally_rmul fd) ["self", "other"] (spMul K) := by
  have gT : mg "Tally" = some (.ref (ga K "Tally")) := T.cl (by decide +kernel)
  have gN := T.fn (x := "is_number") (by decide +kernel)
  refine (F_Tally_rmul D).ok sc_Tally_rmul (fun vs H Q E h => ?_) (fun cdv A outer s H vs Q E hr h => ?_)
  · obtain ⟨x, t, i, rfl, _⟩ := h
    rfl
  · obtain ⟨x, t, i, rfl, hX, ⟨⟨a1, a2⟩, ⟨b1, b2⟩, ⟨c1, c2⟩, e1, e2⟩, k⟩ := h
    refine ⟨_, PSs.nox (pss_cons (ps_if (pt_not (pt_val (pe_call (G_num D T) (hr.mono (by decide)) rfl gN (k_is_number D) (b_is_number D) .nil pass0 (pa_cons (pv 1) pa_nil)))) (pss_one ps_never) pss_nil)
    (pss_one (ps_ret (pe_make (E := E0) T.mk (G_init D T) (hr.mono (by decide)) rfl gT (b4 D) .nil pass0 (pa_cons (pe_op op_mul (pe_fld (pv 0) rfl) (pv 1)) (pa_cons (pe_op op_mul (pe_fld (pv 0) rfl) (pv 1)) (pa_cons (pe_op op_mul (pe_fld (pv 0) rfl) (pv 1)) (pa_cons (pe_op op_mul (pe_fld (pv 0) rfl) (pv 1)) pa_nil)))))))), ?_⟩
    obtain ⟨dx, hx⟩ := id hX
    have big : (10 : Int) ^ 18 < 2 ^ 64 := by decide
    refine ⟨_, rfl, .int i, "int", rfl, .int i, _, rfl, ?_⟩
    refine iteF ?_
    refine ⟨_, rfl, x, _, dx, _, _, rfl, hx, T.cls, T.na (by decide +kernel), rfl, _, rfl, _, _, rfl, rfl, .inl ⟨by omega, by omega⟩, ?_⟩
    refine ⟨_, rfl, x, _, dx, _, _, rfl, hx, T.cls, T.na (by decide +kernel), rfl, _, rfl, _, _, rfl, rfl, .inl ⟨by omega, by omega⟩, ?_⟩
    refine ⟨_, rfl, x, _, dx, _, _, rfl, hx, T.cls, T.na (by decide +kernel), rfl, _, rfl, _, _, rfl, rfl, .inl ⟨by omega, by omega⟩, ?_⟩
    refine ⟨_, rfl, x, _, dx, _, _, rfl, hx, T.cls, T.na (by decide +kernel), rfl, _, rfl, _, _, rfl, rfl, .inl ⟨by omega, by omega⟩, ?_⟩
    exact fun z dz hz hd hne => tal_to (t := t.mul i) rfl hz hd hne fun H' hT s' => ⟨rfl, k z H' s' hT⟩
theorem G_neg (D : DefsA fn K fd) (T : Txt w K mg) : FnOk P w K mg base CX0 3 (at_Tally_neg K) (fd_Tally_neg fd) ["self"] (spNeg K) := by
  have gT : mg "Tally" = some (.ref (ga K "Tally")) := T.cl (by decide +kernel)
  refine (F_Tally_neg D).ok sc_Tally_neg (fun vs H Q E h => ?_) (fun cdv A outer s H vs Q E hr h => ?_)
  · obtain ⟨x, t, rfl, _⟩ := h
    rfl
  · obtain ⟨x, t, rfl, hX, k⟩ := h
    refine ⟨_, PSs.nox (pss_one (ps_ret (pe_make (E := E0) T.mk (G_init D T) (hr.mono (by decide)) rfl gT (b4 D) .nil pass0 (pa_cons (pe_fld (pv 0) rfl) (pa_cons (pe_fld (pv 0) rfl) (pa_cons (pe_fld (pv 0) rfl) (pa_cons (pe_fld (pv 0) rfl) pa_nil))))))), ?_⟩
    obtain ⟨dx, hx⟩ := id hX
    refine ⟨_, rfl, x, _, dx, _, _, rfl, hx, T.cls, T.na (by decide +kernel), rfl, _, rfl, x, _, dx, _, _, rfl, hx, T.cls, T.na (by decide +kernel), rfl, _, rfl, x, _, dx, _, _, rfl, hx, T.cls, T.na (by decide +kernel), rfl, _, rfl, x, _, dx, _, _, rfl, hx, T.cls, T.na (by decide +kernel), rfl, ?_⟩
    exact fun z dz hz hd hne => tal_to (t := t.neg) rfl hz hd hne fun H' hT s' => ⟨rfl, k z H' s' hT⟩
theorem G_usual {en : Array DictEntry} {n : Nat} (D : DefsA fn K fd) (KD : KDict K w (ga K "USUAL") en n) (T : Txt w K mg) : FnOk P w K mg base (L2.CX P w) 3 (at_Tally_usual K) (fd_Tally_usual fd) ["name"] (spUsual K) := by
  have zisi : mg "isinstance" = none := T.bl (by decide +kernel)
  have zstr : mg "str" = none := T.bl (by decide +kernel)
  have gT : mg "Tally" = some (.ref (ga K "Tally")) := T.cl (by decide +kernel)
  have gB : mg "BadName" = some (.ref (ga K "BadName")) := T.cl (by decide +kernel)
  obtain ⟨iB, tB⟩ := T.ini
  refine (F_Tally_usual D).ok sc_Tally_usual (fun vs H Q E h => ?_) (fun cdv A outer s H vs Q E hr h => ?_)
  · obtain ⟨x, t, rfl, _⟩ := h
    rfl
  · obtain ⟨x, ty, rfl, bx, k⟩ := h
    refine ⟨_, (pss_cons (ps_if (PW.pt (pw_or (pt_not (pt_val (pe_callB call_isA (by rfl) zisi (by decide +kernel) (pa_cons (pv 0) (pa_cons (pe_bltn (v := .ty "str") (by rfl) zstr (by decide +kernel) rfl) pa_nil))))) (pw_or1 (pt_cmpR (op_notIn_kd KD) (pv 0) (pe_glob (v := .ref (ga K "USUAL")) rfl T.gU rfl) rfl)))) (pss_one (ps_raise rfl (takes_of rfl rfl rfl rfl) (pmk_oex T.xc.ox iB tB (G_bad D T) (hr.mono (by decide)) (b_BadName_init D) .nil pass0 rfl gB (pa_cons (pv 0) pa_nil)))) pss_nil)
    (pss_cons (ps_asg (pe_ix ix_kdict (pe_glob (v := .ref (ga K "USUAL")) rfl T.gU rfl) (pv 0) (fun _ _ => rfl)) (pg_tup (by rfl) (pgs_cons (pg_name (i := 1) sc_Tally_usual.nd rfl (Or.inl rfl)) (pgs_cons (pg_name (i := 2) sc_Tally_usual.nd rfl (Or.inl rfl)) (pgs_cons (pg_name (i := 3) sc_Tally_usual.nd rfl (Or.inl rfl)) (pgs_cons (pg_name (i := 4) sc_Tally_usual.nd rfl (Or.inl rfl)) pgs_nil))))))
    (pss_one (ps_ret (pe_make (E := E0) T.mk (G_init D T) (hr.mono (by decide)) rfl gT (b4 D) .nil pass0 (pa_cons (pv 1) (pa_cons (pv 2) (pa_cons (pv 3) (pa_cons (pv 4) pa_nil))))))))), ?_⟩
    obtain ⟨k1, k2, k3⟩ := bx.kits (K := K)
    refine ⟨_, rfl, x, .ty "str", _, _, _, rfl, .ty "str", .inl bx.ty, k1, _, rfl, ?_⟩
    rcases k with ⟨q, hq, rfl, k⟩ | ⟨hno, kx⟩
    · obtain ⟨u1, u2⟩ := T.usual hq H
      refine ⟨_, rfl, q.1, _, rfl, rfl, u1, _, rfl, ?_⟩
      refine iteF ?_
      refine ⟨_, rfl, ga K "USUAL", q.1, .ref (uAt K q.1), rfl, rfl, ⟨en, n, _, KD.at_, KD.lit, u1, rfl⟩, ?_⟩
      refine ⟨uAt K q.1, _, rfl, u2, rfl, _, _, rfl, _, _, rfl, _, _, rfl, _, _, rfl, rfl, ?_⟩
      exact ⟨_, rfl, _, rfl, _, rfl, _, rfl, fun z dz hz hd hne => tal_to (t := q.2) rfl hz hd hne fun H' hT s' => ⟨rfl, k z H' s' hT⟩⟩
    · cases x with
      | str z =>
        refine ⟨_, rfl, z, _, rfl, rfl, T.noU (hno z rfl), _, rfl, ?_⟩
        exact iteT ⟨_, rfl, bad_out kx⟩
      | _ => exact ⟨_, rfl, bad_out kx⟩
end
end K64
/-! Tw: a staticmethod called within try; == of two lists of one and the same thing; slices and == within a comprehension. -/
namespace Tw
open PySem PySem.Spec PyProof.Rows L2 He
section
variable {X : Cx} {CX : CXT} {k : Nat} {C m' p g : Addr} {fd : FuncData} {ps : List Str} {sp : Sp} {E : L2.St → XK} {m : Str} {o e : Expr} {es : List Expr} {pos apos : Pos} {ta : TE} {t : TA}
theorem pe_smethS {pl : Sem Bool} (he : PE X o ta) (r : ClX.CRead X.K C (.type "type")) (c : CSta X.K C m p g) (F : FnOk X.prog X.w X.K X.mg X.base CX k g fd ps sp) (hr : Room k X.A) (hb : Binds X.K fd ps []) (hx : ∀ σ, PassesAt CX X σ (E σ)) (ha : PA X (e :: es) t)
    (hst : starEach (e :: es) X.env = (false, eval e X.env) :: starEach es X.env := by rfl) (hpl : (backTo pos (starEach es X.env)).any (·.1) = false := by rfl)
    (ht : eval (.Call (.Attribute o m apos) (e :: es) [] pos) X.env = (do
      let ov ← eval o X.env
      standAt apos.atName
      let (f, first) ← holding [ov] (getMethod ov m pl)
      callWith pos f first (backTo pos (starEach (e :: es) X.env)) (backToKw pos (keywordEach [] X.env))) := by rfl) :
    PE X (.Call (.Attribute o m apos) (e :: es) [] pos) (fun σ H Q => ta σ H fun x H1 => x = .ref C ∧ t σ H1 fun vs H2 => sp vs H2 Q (E σ)) := by
  refine ⟨fun pins s σ H Q I h => ?_⟩
  refine PySem.W.methodCall_KW (pl := pl) (thn (he.run pins s σ H _ I h) fun u s1 ⟨x, H1, I1, rx, ex, q⟩ => ?_) ht
  subst ex
  obtain rfl : u = Value.ref C := rx
  obtain ⟨m', fr⟩ := I1.fr
  obtain ⟨rest, hp⟩ := c.rc
  refine PySem.W.method_cls I1.kIn r.ga (PySem.W.cls_sm fr I1.ok.mod.kin (typ_of r.rd) r.rd c.at_ hp rfl ?_)
  have I2 := I1.tok (s1.toks + 1)
  exact PySem.W.callWith_K (h₀ := X.base) I2.ok.mod.kin c.kp (thn (ha.run pos pins _ σ H1 _ I2 q) fun us s3 ⟨vs, H2, I3, rv, q2⟩ => ⟨I3.kIn, L2.run_fnS F hr hb (hx σ) I3 rv q2⟩) hst hpl
end
section
variable {X : Cx}
/-- xs == ys: data, or two lists of one and the same object -/
def rEqSame (K : PySem.W.Frag) : R2 := fun x y H Q => rEqD K x y H Q ∨ ∃ a b c : Addr, x = .ref a ∧ y = .ref b ∧ H a = some (.lst [.ref c]) ∧ H b = some (.lst [.ref c]) ∧ Q (.bl true) H
theorem op_eqSame (hu : X.A.units + 64 < cLine) : OpR X (compareOp .Eq) (rEqSame X.K) := by
  intro pins s σ H x y v u Q I rx ry h
  rcases h with h | ⟨a, b, c, rfl, rfl, ha, hb, q⟩
  · exact op_eqD hu pins s σ H x y v u Q I rx ry h
  · obtain rfl : v = Value.ref a := rx
    obtain rfl : u = Value.ref b := ry
    obtain ⟨i1, r1, p1, _⟩ := I.list (SqL.of ha)
    obtain ⟨i2, r2, p2, _⟩ := I.list (SqL.of hb)
    obtain ⟨u1, rfl, e1⟩ := vals1 r1
    obtain ⟨u2, rfl, e2⟩ := vals1 r2
    cases (show u1 = Value.ref c from e1)
    cases (show u2 = Value.ref c from e2)
    refine SeqAt.eq_listAt (e := fun _ => true) p1.isList p2.isList rfl (by omega) (fun j h1 h2 => ?_) ?_
    · have e : j = 0 := by
        have : j < 1 := h1
        omega
      subst e
      exact SeqAt.EqAt.same _
    · exact ⟨.bl true, H, I, rfl, q⟩
end
theorem eqDK {X : Cx} (K : PySem.W.Frag) (hu : X.A.units + 64 < cLine) (h : X.K = K := by rfl) : OpR X (compareOp .Eq) (rEqD K) := by
  subst h
  exact op_eqD hu
/-- a[lo:hi] of a list, the new list in an abstract heap -/
def rSlN (K : PySem.W.Frag) : V → Option Int → Option Int → Hp → VK → Prop := fun x lo hi H Q => ∃ a xs, x = .ref a ∧ SqL K H a xs ∧ ∀ (p : Addr) (H' : Hp), H p = none → Same H H' → H' p = some (.lst (cutV xs lo hi)) → Q (.ref p) H'
theorem sl_listN {X : Cx} : SlR X (rSlN X.K) := by
  intro pins s σ H x v vl vu lo hi sl Q I rx hs pl pu h
  obtain ⟨a, xs, ex, hx, q⟩ := h
  exact sl_list pins s σ H x v vl vu lo hi sl Q I rx hs pl pu ⟨a, xs, ex, hx, fun p hp => q p _ hp (same_new hp) upd_same⟩
theorem slK {X : Cx} (K : PySem.W.Frag) (h : X.K = K := by rfl) : SlR X (rSlN K) := by
  subst h
  exact sl_listN
theorem But.free {p q : Addr} {H H' : Hp} (B : But p H H') (h : H' q = none) (hq : q ≠ p) : H q = none := by
  cases e : H q with
  | none => rfl
  | some o =>
    have z := B q o e hq
    rw [h] at z
    cases z
end Tw
namespace Tw
open PySem PySem.Spec PyProof.Rows L2 He
theorem log_ok {i : Int} (h0 : -(10 ^ 40) ≤ i) (h1 : i ≤ 10 ^ 40) : i.natAbs.log2 < 1920 := by
  by_cases hz : i.natAbs = 0
  · rw [hz]
    decide
  · refine (Nat.log2_lt hz).mpr (Nat.lt_of_le_of_lt (show i.natAbs ≤ 10 ^ 40 by omega) ?_)
    exact Nat.lt_of_lt_of_le (show 10 ^ 40 < 2 ^ 200 by decide) (Nat.pow_le_pow_right (by decide) (by decide))
theorem min_at (m n : Int) : atI [V.int m, V.int n] (if decide (n < m) = true then 1 else 0) = some (V.int (if n < m then n else m)) := by
  by_cases h : n < m
  · simp only [h, decide_true, if_true]
    rfl
  · simp only [h, decide_false, if_false, Bool.false_eq_true]
    rfl
end Tw
namespace K64
open PySem PySem.Spec PyProof.Rows L2 He Tw
/-- which usual name has these numbers -/
def labV (t : T4) : V := match usualL.find? fun q => decide (q.2 = t) with
  | some q => .str q.1
  | none => .non
def spLab (K : Fg) : Sp := fun vs H Q _ => ∃ (x : Addr) (t : T4), vs = [.ref x] ∧ Tal K H x t ∧ ∀ H', Same H H' → Q (labV t) H'
def spPart : Sp := fun vs H Q _ => ∃ (p l : Addr) (c : Nat), vs = [.ref p] ∧ PenL H p l c ∧ c ≤ 900000 ∧ ∀ (i : Int) (H' : Hp), -(10 ^ 6) ≤ i → i ≤ 10 ^ 6 → PenL H' p l (c + 4) → But p H H' → Q (.int i) H'
def spParts : Sp := fun vs H Q _ => ∃ (p l : Addr) (c : Nat), vs = [.ref p] ∧ PenL H p l c ∧ c ≤ 800000 ∧ ∀ (q : Addr) (t : T4) (us : List V) (H' : Hp), H q = none → q ≠ p → H' q = some (.lst (t.vs ++ us)) → t.le (10 ^ 6) → PenL H' p l (c + 17) → But p H H' → Q (.ref q) H'
def spWorth : Sp := fun vs H Q _ => ∃ (q : Addr) (t : T4) (m n : Int), vs = [.ref q, .int m, .int n] ∧ H q = some (.lst t.vs) ∧ t.le (10 ^ 18) ∧ (0 ≤ m ∧ m ≤ 10 ^ 9) ∧ (0 ≤ n ∧ n ≤ 10 ^ 9) ∧ ∀ H', Same H H' → Q (.int (t.w m n)) H'
section
variable {P : Program} {w : World} {K : Fg} {mg : Str → Option Value} {base : Heap} {fd : Nat → FuncData}
theorem find_take {t : T4} : ∀ {l : List (Str × T4)} {i : Nat} {q : Str × T4}, (∀ r ∈ l.take i, r.2 ≠ t) → l[i]? = some q → q.2 = t → l.find? (fun q => decide (q.2 = t)) = some q
  | [], _, _, _, h, _ => nomatch h
  | a :: l, 0, q, _, h, e => by
    cases h
    rw [List.find?_cons_of_pos]
    exact decide_eq_true e
  | a :: l, i + 1, q, hn, h, e => by
    rw [List.find?_cons_of_neg]
    · exact find_take (fun r hr => hn r (by rw [List.take_succ_cons]; exact List.mem_cons_of_mem _ hr)) h e
    · exact fun z => hn a (by rw [List.take_succ_cons]; exact List.mem_cons_self) (of_decide_eq_true z)
theorem G_lab {en : Array DictEntry} {n : Nat} (D : DefsA fn K fd) (KD : KDict K w (ga K "USUAL") en n) (T : Txt w K mg) : FnOk P w K mg base CX0 2 (at_Tally_label K) (fd_Tally_label fd) ["self"] (spLab K) := by
  have mM := T.mt (m := "terms") (by decide +kernel)
  have N := T.ents KD
  refine (F_Tally_label D).ok sc_Tally_label (fun vs H Q E h => ?_) (fun cdv A outer s H vs Q E hr h => ?_)
  · obtain ⟨x, t, rfl, _⟩ := h
    rfl
  · obtain ⟨x, t, rfl, hX, k⟩ := h
    refine ⟨_, PSs.nox (pss_cons (ps_for PassesOwn.never rfl (pi_itemsK KD N (pe_glob (v := .ref (ga K "USUAL")) rfl T.gU rfl)) (pg_tup (by rfl) (pgs_cons (pg_name (i := 1) sc_Tally_label.nd rfl (Or.inl rfl)) (pgs_cons (pg_name (i := 2) sc_Tally_label.nd rfl (Or.inl rfl)) pgs_nil)))
    (pss_one (ps_if (pt_cmpR (op_eqD hr.units) (pv 2) (pe_meth0 (E := E0) (pv 0) T.cls mM (G_terms D T) (hr.mono (by decide)) (b_Tally_terms D) .nil pass0) (nomark _)) (pss_one (ps_ret (pv 1))) pss_nil)))
    (pss_one (ps_ret pe_non))), ?_⟩
    refine ⟨rfl, for_itemsK (fun i σ H' => ∃ nv tv : Option V, σ = [some (.ref x), nv, tv] ∧ Same H H' ∧ ∀ r ∈ usualL.take i, r.2 ≠ t) ⟨none, none, rfl, fun _ _ e => e, fun _ h => nomatch h⟩ ?_ ?_⟩
    · rintro i z σ H1 q hz ⟨nv, tv, rfl, s1, hno⟩ hq
      rw [List.getElem?_map] at hz
      obtain ⟨u, hu, rfl⟩ := Option.map_eq_some_iff.mp hz
      have hmem := List.mem_of_getElem? hu
      obtain ⟨u1, u2⟩ := T.usual hmem (upd H1 q (.tup [.str u.1, .ref (uAt K u.1)]))
      have s2 := same_new (o := .tup [.str u.1, .ref (uAt K u.1)]) hq
      refine ⟨q, _, rfl, SqT.of upd_same, rfl, _, _, rfl, _, _, rfl, rfl, ?_⟩
      have hX2 := (hX.same s1).same s2
      obtain ⟨dx, hx⟩ := id hX2
      refine ⟨_, rfl, _, rfl, x, dx, _, rfl, hx, rfl, x, t, rfl, hX2, fun p H3 f3 s3 g3 => ?_⟩
      obtain ⟨u1, u3⟩ := T.usual hmem H3
      refine ⟨.tuple [.int u.2.a, .int u.2.b, .int u.2.c, .int u.2.e], .tuple [.int t.a, .int t.b, .int t.c, .int t.e], .tup u3 (.cons (.int _) (.cons (.int _) (.cons (.int _) (.cons (.int _) .nil)))), .tup (.inl (.inl g3)) (.cons (.int _) (.cons (.int _) (.cons (.int _) (.cons (.int _) .nil)))), shaped4 _, shaped4 t, ?_⟩
      rw [eqv4]
      refine ⟨_, rfl, ?_⟩
      refine ite2 (fun h => ?_) (fun h => ?_)
      · have e := of_decide_eq_true h
        have kk := k H3 ((s1.trans s2).trans s3)
        unfold labV at kk
        rw [find_take hno hu e] at kk
        exact ⟨_, rfl, kk⟩
      · refine ⟨_, _, rfl, (s1.trans s2).trans s3, fun r hr => ?_⟩
        rw [List.take_add_one, hu] at hr
        rcases List.mem_append.mp hr with z | z
        · exact hno r z
        · have e : r = u := by simpa using z
          rw [e]
          exact fun e => h (decide_eq_true e)
    · rintro σ H1 ⟨nv, tv, rfl, s1, hno⟩
      have kk := k H1 s1
      have e : usualL.find? (fun q => decide (q.2 = t)) = none := by
        refine List.find?_eq_none.mpr fun r hr z => hno r ?_ (of_decide_eq_true z)
        rw [List.length_map, List.take_length]
        exact hr
      unfold labV at kk
      rw [e] at kk
      exact kk
theorem G_part (D : DefsA fn K fd) (T : Txt w K mg) : FnOk P w K mg base CX0 2 (at_part K) (fd_part fd) ["_law_pen_here"] spPart := by
  have gD := T.fn (x := "_law_draw") (by decide +kernel)
  refine (F_part D).ok sc_part (fun vs H Q E h => ?_) (fun cdv A outer s H vs Q E hr h => ?_)
  · obtain ⟨p, l, c, rfl, _⟩ := h
    rfl
  · obtain ⟨p, l, c, rfl, hP, hc, k⟩ := h
    refine ⟨_, PSs.nox (pss_cons (ps_set (i := 1) sc_part.nd rfl (Or.inl rfl) (pe_ix ix_list (pe_lstN (pa_cons pe_int (pa_cons pe_int (pa_cons pe_int (pa_cons (pe_call (G_draw D T) (hr.mono (by decide)) rfl gD (k_draw D) (b_draw D) .nil pass0 (pa_cons (pv 0) (pa_cons pe_int pa_nil))) (pa_cons (pe_call (G_draw D T) (hr.mono (by decide)) rfl gD (k_draw D) (b_draw D) .nil pass0 (pa_cons (pv 0) (pa_cons (pe_op op_pow pe_int pe_int) pa_nil))) (pa_cons pe_int pa_nil))))))) (pe_call (G_draw D T) (hr.mono (by decide)) rfl gD (k_draw D) (b_draw D) .nil pass0 (pa_cons (pv 0) (pa_cons pe_int pa_nil))) (fun _ _ => rfl)))
    (pss_one (ps_ret (pe_ix ix_list (pe_lstN (pa_cons (pv 1) (pa_cons (pe_op op_sub pe_int (pv 1)) pa_nil))) (pe_call (G_draw D T) (hr.mono (by decide)) rfl gD (k_draw D) (b_draw D) .nil pass0 (pa_cons (pv 0) (pa_cons pe_int pa_nil))) (fun _ _ => rfl))))), ?_⟩
    refine ⟨_, rfl, p, l, 10, c, rfl, by decide, by decide, hP, by omega, fun d1 H1 a1 b1 P1 B1 => ?_⟩
    refine ⟨_, rfl, _, _, rfl, rfl, ⟨by decide, by decide, by decide⟩, p, l, 10 ^ 6, c + 1, rfl, by decide, by decide, P1, by omega, fun d2 H2 a2 b2 P2 B2 => ?_⟩
    refine ⟨sz1000 (by show 6 ≤ 1000; decide), fun q H3 f3 m3 s3 g3 => ?_⟩
    refine ⟨_, rfl, p, l, 6, c + 2, rfl, by decide, by decide, P2.same s3, by omega, fun r H4 a4 b4 P4 B4 => ?_⟩
    have hqp : q ≠ p := (P2.new f3).1
    have g4 := B4 _ _ g3 hqp
    have hlt : r.toNat < 6 := by omega
    refine ⟨q, _, r, _, rfl, rfl, SqL.of g4, atI_gen a4 (List.getElem?_eq_getElem (by exact hlt)), ?_⟩
    obtain ⟨i, ei, hi0, hi1⟩ : ∃ i : Int, ([.int 0, .int 1, .int 2, .int d1, .int d2, .int 999999] : List V)[r.toNat] = V.int i ∧ 0 ≤ i ∧ i ≤ 10 ^ 6 := by
      have cases6 : r.toNat = 0 ∨ r.toNat = 1 ∨ r.toNat = 2 ∨ r.toNat = 3 ∨ r.toNat = 4 ∨ r.toNat = 5 := by omega
      rcases cases6 with h | h | h | h | h | h
      · exact ⟨0, by simp only [h]; rfl, by decide, by decide⟩
      · exact ⟨1, by simp only [h]; rfl, by decide, by decide⟩
      · exact ⟨2, by simp only [h]; rfl, by decide, by decide⟩
      · exact ⟨d1, by simp only [h]; rfl, a1, by omega⟩
      · exact ⟨d2, by simp only [h]; rfl, a2, by omega⟩
      · exact ⟨999999, by simp only [h]; rfl, by decide, by decide⟩
    rw [ei]
    refine ⟨_, rfl, _, rfl, _, _, rfl, rfl, sz1000 (by show 2 ≤ 1000; decide), fun q2 H5 f5 m5 s5 g5 => ?_⟩
    refine ⟨_, rfl, p, l, 2, c + 3, rfl, by decide, by decide, P4.same s5, by omega, fun r2 H6 a6 b6 P6 B6 => ?_⟩
    have hqp2 : q2 ≠ p := (P4.new f5).1
    have hlt2 : r2.toNat < 2 := by omega
    refine ⟨q2, _, r2, _, rfl, rfl, SqL.of (B6 _ _ g5 hqp2), atI_gen a6 (List.getElem?_eq_getElem (by exact hlt2)), ?_⟩
    have BB : But p H H6 := (((B1.trans B2).trans (But.of s3)).trans B4).trans ((But.of s5).trans B6)
    have c2 : r2.toNat = 0 ∨ r2.toNat = 1 := by omega
    rcases c2 with h | h
    · simp only [h]
      exact k i H6 (by omega) hi1 P6 BB
    · simp only [h]
      exact k (0 - i) H6 (by omega) (by omega) P6 BB
theorem G_parts (D : DefsA fn K fd) (T : Txt w K mg) : FnOk P w K mg base CX0 3 (at_parts K) (fd_parts fd) ["_law_pen_here"] spParts := by
  have gD := T.fn (x := "_law_draw") (by decide +kernel)
  have gP := T.fn (x := "_law_part") (by decide +kernel)
  have zr : mg "range" = none := T.bl (by decide +kernel)
  refine (F_parts D).ok sc_parts (fun vs H Q E h => ?_) (fun cdv A outer s H vs Q E hr h => ?_)
  · obtain ⟨p, l, c, rfl, _⟩ := h
    rfl
  · obtain ⟨p, l, c, rfl, hP, hc, k⟩ := h
    refine ⟨_, PSs.nox (pss_cons (ps_setLc (i := 1) (own := [("_law_k", 2)]) (g := gName 2) (tt := tYes) (by rfl) sc_parts.nd rfl rfl (sw_true rfl rfl rfl (by decide +kernel)) (pi_range1 rfl zr (pa_cons pe_int pa_nil)) (blkOk_by (own := [("_law_k", 2)]) (N := N_parts) (sc := defScope s_parts) (by decide +kernel)) (fun _ _ _ _ _ => (pg_name (i := 2) sc_parts.nd rfl (Or.inl rfl))) (fun _ _ _ _ _ => pts_nil) (fun _ _ _ _ _ => (pe_call (G_part D T) (hr.mono (by decide)) rfl gP (k_part D) (b_part D) .nil pass0 (pa_cons (pv 0) pa_nil))))
    (pss_one (ps_ret (pe_op op_catN (pe_slice sl_listN (pv 1) po_none (po_some (pe_ix ix_list (pe_lstN (pa_cons pe_int (pa_cons pe_int (pa_cons pe_int (pa_cons pe_int pa_nil))))) (pe_call (G_draw D T) (hr.mono (by decide)) rfl gD (k_draw D) (b_draw D) .nil pass0 (pa_cons (pv 0) (pa_cons pe_int pa_nil))) (fun _ _ => rfl)))) (pe_lstN (pa_cons pe_int (pa_cons pe_int pa_nil))))))), ?_⟩
    refine ⟨4, rfl, by decide, by decide, fun D1 hD => lc_range (lo := 0) (n := 4) (fun i H' => PenL H' p l (c + 4 * i) ∧ But p H H' ∧ ∃ ys : List Int, ys.length = i ∧ (∀ y ∈ ys, -(10 ^ 6) ≤ y ∧ y ≤ 10 ^ 6) ∧ H' D1 = some (.lst (ys.map V.int))) ?_ ?_ ?_⟩
    · exact ⟨hP.same (same_new hD), But.of (same_new hD), [], rfl, (fun _ h => nomatch h), upd_same⟩
    · rintro i H' hi ⟨Pi, Bi, ys, ly, sy, gD1⟩
      obtain ⟨hDp, hDl⟩ := hP.new hD
      refine ⟨rfl, _, rfl, p, l, c + 4 * i, rfl, Pi, by omega, fun d H3 d0 d1 P3 B3 => ⟨_, B3 _ _ gD1 hDp, ?_, ?_, ?_, ys ++ [d], ?_, ?_, ?_⟩⟩
      · rw [List.length_map]
        exact Nat.lt_of_lt_of_le (show ys.length < 1000 by omega) (by decide)
      · exact P3.upd hDp hDl
      · exact fun b o hb hbp => by
          rw [upd_ne (ne_of_none hb hD)]
          exact B3 b o (Bi b o hb hbp) hbp
      · rw [List.length_append, ly]
        rfl
      · intro y hy
        rcases List.mem_append.mp hy with z | z
        · exact sy y z
        · have e : y = d := by simpa using z
          rw [e]
          exact ⟨d0, d1⟩
      · rw [upd_same, List.map_append]
        rfl
    · rintro H1 ⟨P1, B1, ys, ly, sy, gD1⟩
      obtain ⟨hDp, hDl⟩ := hP.new hD
      match ys, ly, sy, gD1 with
      | [a, b, e, f], _, sy, gD1 =>
        have sa := sy a (by simp)
        have sb := sy b (by simp)
        have se := sy e (by simp)
        have sf := sy f (by simp)
        refine ⟨_, rfl, sz1000 (by show 4 ≤ 1000; decide), fun q2 H2 f2 m2 s2 g2 => ?_⟩
        refine ⟨_, rfl, p, l, 4, c + 16, rfl, by decide, by decide, P1.same s2, by omega, fun r H3 a3 b3 P3 B3 => ?_⟩
        have hqp : q2 ≠ p := (P1.new f2).1
        have g3 := B3 _ _ g2 hqp
        have hlt : r.toNat < 4 := by omega
        refine ⟨q2, _, r, _, rfl, rfl, SqL.of g3, atI_gen a3 (List.getElem?_eq_getElem (by exact hlt)), ?_⟩
        have gD3 := B3 _ _ (s2 _ _ gD1) hDp
        obtain ⟨j, ej, t, us, et, ht, hu⟩ : ∃ j : Int, ([.int 2, .int 3, .int 4, .int 4] : List V)[r.toNat] = V.int j ∧ ∃ (t : T4) (us : List V), cutV ([a, b, e, f].map V.int) none (some j) ++ [.int 0, .int 0] = t.vs ++ us ∧ t.le (10 ^ 6) ∧ us.length ≤ 10 := by
          have c4 : r.toNat = 0 ∨ r.toNat = 1 ∨ r.toNat = 2 ∨ r.toNat = 3 := by omega
          have z : -(10 ^ 6 : Int) ≤ 0 ∧ (0 : Int) ≤ 10 ^ 6 := by decide
          rcases c4 with h | h | h | h
          · exact ⟨2, by simp only [h]; rfl, ⟨a, b, 0, 0⟩, [], rfl, ⟨sa, sb, z, z⟩, by decide⟩
          · exact ⟨3, by simp only [h]; rfl, ⟨a, b, e, 0⟩, [.int 0], rfl, ⟨sa, sb, se, z⟩, by decide⟩
          · exact ⟨4, by simp only [h]; rfl, ⟨a, b, e, f⟩, [.int 0, .int 0], rfl, ⟨sa, sb, se, sf⟩, by decide⟩
          · exact ⟨4, by simp only [h]; rfl, ⟨a, b, e, f⟩, [.int 0, .int 0], rfl, ⟨sa, sb, se, sf⟩, by decide⟩
        rw [ej]
        refine ⟨j, rfl, D1, _, rfl, SqL.of gD3, fun q4 H4 f4 s4 g4 => ⟨sz1000 (by show 2 ≤ 1000; decide), fun q5 H5 f5 m5 s5 g5 => ?_⟩⟩
        have e6 : (cutV ([a, b, e, f].map V.int) none (some j)).length + ([.int 0, .int 0] : List V).length ≤ 1000 := by
          rw [← List.length_append, et, List.length_append]
          have e4 : t.vs.length = 4 := rfl
          omega
        refine ⟨q4, q5, _, _, rfl, rfl, s5 _ _ g4, g5, sz1000 e6, fun q6 H6 f6 m6 s6 g6 => ?_⟩
        have S : Same H3 H6 := (s4.trans s5).trans s6
        have BB : But p H H6 := ((B1.trans (But.of s2)).trans B3).trans (But.of S)
        rw [et] at g6
        have P6 := P3.same S
        have n6 := (P3.same (s4.trans s5)).new f6
        have z3 : H3 q6 = none := (s4.trans s5).free f6
        have z0 : H q6 = none := ((B1.trans (But.of s2)).trans B3).free z3 n6.1
        exact k q6 t us H6 z0 n6.1 g6 ht P6 BB
theorem G_worth (D : DefsA fn K fd) (T : Txt w K mg) : FnOk P w K mg base CX0 1 (at_worth K) (fd_worth fd) ["_law_parts_here", "_law_m", "_law_n"] spWorth := by
  have zint : mg "int" = none := T.bl (by decide +kernel)
  refine (F_worth D).ok sc_worth (fun vs H Q E h => ?_) (fun cdv A outer s H vs Q E hr h => ?_)
  · obtain ⟨q, t, m, n, rfl, _⟩ := h
    rfl
  · obtain ⟨q, t, m, n, rfl, hq, ⟨⟨a1, a2⟩, ⟨b1, b2⟩, ⟨c1, c2⟩, e1, e2⟩, ⟨m0, m1⟩, ⟨n0, n1⟩, k⟩ := h
    refine ⟨_, PSs.nox (pss_cons (ps_set (i := 3) sc_worth.nd rfl (Or.inl rfl) (pe_ix ix_list (pe_lstN (pa_cons (pv 1) (pa_cons (pv 2) pa_nil))) (pe_callTy call_int1 (by rfl) zint (by decide +kernel) (pa_cons (pe_cmpR op_lt (pv 2) (pv 1) (nomark _)) pa_nil)) (fun _ _ => rfl)))
    (pss_cons (ps_set (i := 4) sc_worth.nd rfl (Or.inl rfl) (pe_op op_add (pe_op op_mul (pe_ix ix_list (pv 0) pe_int (fun _ _ => rfl)) (pv 1)) (pe_op op_mul (pe_ix ix_list (pv 0) pe_int (fun _ _ => rfl)) (pv 2))))
    (pss_one (ps_ret (pe_op op_add (pe_op op_add (pv 4) (pe_op op_mul (pe_ix ix_list (pv 0) pe_int (fun _ _ => rfl)) (pv 3))) (pe_op op_mul (pe_op op_mul (pe_ix ix_list (pv 0) pe_int (fun _ _ => rfl)) (pv 1)) (pv 2))))))), ?_⟩
    have big : (10 : Int) ^ 18 < 2 ^ 64 := by decide
    have big9 : (10 : Int) ^ 9 < 2 ^ 64 := by decide
    refine ⟨_, rfl, _, rfl, sz1000 (by show 2 ≤ 1000; decide), fun q1 H1 f1 m1' s1 g1 => ?_⟩
    refine ⟨_, rfl, _, rfl, _, _, rfl, rfl, .inr ⟨_, rfl, ?_⟩⟩
    have hq1 := s1 _ _ hq
    refine ⟨q1, _, _, _, rfl, rfl, SqL.of g1, min_at m n, ?_⟩
    have hm : 0 ≤ (if n < m then n else m) ∧ (if n < m then n else m) ≤ 10 ^ 9 := by
      by_cases h : n < m
      · rw [if_pos h]
        exact ⟨n0, n1⟩
      · rw [if_neg h]
        exact ⟨m0, m1⟩
    unfold T4.w at k
    generalize (if n < m then n else m) = g at hm k ⊢
    obtain ⟨hm0, hm1⟩ := hm
    refine ⟨_, rfl, q, _, 0, _, rfl, rfl, SqL.of hq1, rfl, _, rfl, _, _, rfl, rfl, .inl ⟨by omega, by omega⟩, ?_⟩
    refine ⟨_, rfl, q, _, 1, _, rfl, rfl, SqL.of hq1, rfl, _, rfl, _, _, rfl, rfl, .inl ⟨by omega, by omega⟩, _, _, rfl, rfl, ?_⟩
    refine ⟨_, rfl, _, rfl, q, _, 2, _, rfl, rfl, SqL.of hq1, rfl, _, rfl, _, _, rfl, rfl, .inl ⟨by omega, by omega⟩, _, _, rfl, rfl, ?_⟩
    refine ⟨_, rfl, q, _, 3, _, rfl, rfl, SqL.of hq1, rfl, _, rfl, _, _, rfl, rfl, .inl ⟨by omega, by omega⟩, _, rfl, _, _, rfl, rfl, .inr ⟨by omega, by omega⟩, _, _, rfl, rfl, ?_⟩
    exact k H1 s1
end
end K64
namespace Tw
open PySem PySem.Spec PyProof.Rows L2 He
theorem mulB {x y X Y : Int} (hx : -X ≤ x ∧ x ≤ X) (hX : 0 ≤ X) (hy : 0 ≤ y ∧ y ≤ Y) : -(X * Y) ≤ x * y ∧ x * y ≤ X * Y := by
  have h1 : x * y ≤ X * y := Int.mul_le_mul_of_nonneg_right hx.2 hy.1
  have h2 : X * y ≤ X * Y := Int.mul_le_mul_of_nonneg_left hy.2 hX
  have h3 : (-X) * y ≤ x * y := Int.mul_le_mul_of_nonneg_right hx.1 hy.1
  have h4 : (-X) * y = -(X * y) := Int.neg_mul X y
  omega
end Tw
namespace K64
open PySem PySem.Spec PyProof.Rows L2 He Tw
theorem w_neg (t : T4) (m n : Int) : t.w n m = t.neg.w m n := by
  unfold T4.w T4.neg
  show t.a * n + t.b * m + t.c * (if m < n then m else n) + t.e * n * m = t.b * m + t.a * n + t.c * (if n < m then n else m) + t.e * m * n
  have h1 : t.e * n * m = t.e * m * n := Int.mul_right_comm ..
  have h2 : (if m < n then m else n) = (if n < m then n else m) := by
    by_cases h : m < n
    · rw [if_pos h, if_neg (by omega)]
    · by_cases g : n < m
      · rw [if_neg h, if_pos g]
      · rw [if_neg h, if_neg g]
        omega
  rw [h1, h2]
  omega
theorem w_small {t : T4} (h : t.le (10 ^ 13)) {m n : Int} (hm : 0 ≤ m ∧ m ≤ 10 ^ 9) (hn : 0 ≤ n ∧ n ≤ 10 ^ 9) : (t.w m n).natAbs.log2 < 1920 := by
  obtain ⟨ha, hb, hc, he⟩ := h
  have p : (0 : Int) ≤ 10 ^ 13 := by decide
  have h1 := mulB ha p hm
  have h2 := mulB hb p hn
  have hg : 0 ≤ (if n < m then n else m) ∧ (if n < m then n else m) ≤ 10 ^ 9 := by
    by_cases h : n < m
    · rw [if_pos h]
      exact hn
    · rw [if_neg h]
      exact hm
  unfold T4.w
  generalize (if n < m then n else m) = g at hg ⊢
  have h3 := mulB hc p hg
  have h4 := mulB he p hm
  have h5 := mulB h4 (by decide) hn
  have q1 : (10 ^ 13 * 10 ^ 9 : Int) = 10 ^ 22 := by decide
  have q2 : (10 ^ 13 * 10 ^ 9 * 10 ^ 9 : Int) = 10 ^ 31 := by decide
  rw [q1] at h1 h2 h3
  rw [q2] at h5
  have big : (3 * 10 ^ 22 + 10 ^ 31 : Int) ≤ 10 ^ 40 := by decide
  refine log_ok ?_ ?_ <;> omega
theorem pts_ne {H : Hp} {q p l : Addr} {c : Nat} {t : T4} (h : H q = some (.lst t.vs)) (P : PenL H p l c) : q ≠ p := fun e => by
  obtain ⟨ns, i, g, e1, _⟩ := P
  rw [e, e1] at h
  cases h
theorem dp4 {K : Fg} {H : Hp} {q : Addr} {t : T4} (h : H q = some (.lst t.vs)) : Dp K H (.ref q) (.list [.int t.a, .int t.b, .int t.c, .int t.e]) := .lst (SqL.of h) (.cons (.int _) (.cons (.int _) (.cons (.int _) (.cons (.int _) .nil))))
theorem repr4 {t : T4} (h : t.le (10 ^ 13)) : mild (.list [.int t.a, .int t.b, .int t.c, .int t.e]) = true ∧ (PyData.list [.int t.a, .int t.b, .int t.c, .int t.e]).depth ≤ 64 ∧ cap (.list [.int t.a, .int t.b, .int t.c, .int t.e]) ≤ 16777216 := by
  obtain ⟨⟨a1, a2⟩, ⟨b1, b2⟩, ⟨c1, c2⟩, e1, e2⟩ := h
  have big : (10 ^ 13 : Int) ≤ 10 ^ 40 := by decide
  have la := log_ok (i := t.a) (by omega) (by omega)
  have lb := log_ok (i := t.b) (by omega) (by omega)
  have lc := log_ok (i := t.c) (by omega) (by omega)
  have le := log_ok (i := t.e) (by omega) (by omega)
  refine ⟨?_, ?_, ?_⟩
  · simp only [mild, mildAll, Bool.and_true, Bool.and_eq_true, decide_eq_true_eq]
    exact ⟨la, lb, lc, le⟩
  · simp only [PyData.depth, PyData.depthAll]
    decide
  · simp only [cap, capAll]
    decide
def spIs (K : Fg) : Sp := fun vs H Q _ => ∃ (x q p l : Addr) (t : T4) (c : Nat), vs = [.ref x, .ref q, .ref p] ∧ Tal K H x t ∧ t.le (10 ^ 13) ∧ H q = some (.lst t.vs) ∧ PenL H p l c ∧ c ≤ 800000 ∧ ∀ H', PenL H' p l (c + 12) → But p H H' → Q (.bl true) H'
section
variable {P : Program} {w : World} {K : Fg} {mg : Str → Option Value} {base : Heap} {fd : Nat → FuncData}
theorem G_is (D : DefsA fn K fd) (T : Txt w K mg) : FnG P w K mg base CX0 4 (at_is K) (fd_is fd) ["_law_tally", "_law_parts_here", "_law_pen_here"] (spIs K) := by
  have zr : mg "range" = none := T.bl (by decide +kernel)
  have zrepr : mg "repr" = none := T.bl (by decide +kernel)
  have gD := T.fn (x := "_law_draw") (by decide +kernel)
  have gW := T.fn (x := "_law_worth") (by decide +kernel)
  have oN : OwnB K (ga K "Tally") "__neg__" _ := T.own (m := "__neg__") (by decide +kernel)
  refine (F_is D).okG sc_is (fun vs H Q E h => ?_) (fun cdv A outer s H vs Q E hr hg h => ?_)
  · obtain ⟨x, q, p, l, t, c, rfl, _⟩ := h
    rfl
  · obtain ⟨x, q, p, l, t, c, rfl, hX, ht, hq, hP, hc, k⟩ := h
    have hu := room70 hr
    refine ⟨_, PSs.nox (pss_cons (ps_if (pt_cmpR op_ne (pe_callB (call_reprD hg hu) (by rfl) zrepr Tw.boot_repr (pa_cons (pe_lstN (pa_cons (pe_fld (pv 0) rfl) (pa_cons (pe_fld (pv 0) rfl) (pa_cons (pe_fld (pv 0) rfl) (pa_cons (pe_fld (pv 0) rfl) pa_nil))))) pa_nil)) (pe_callB (call_reprD hg hu) (by rfl) zrepr Tw.boot_repr (pa_cons (pe_slice sl_listN (pv 1) po_none (po_some pe_int)) pa_nil)) (nomark _)) (pss_one (ps_ret pe_bl)) pss_nil)
    (pss_cons (ps_for PassesOwn.never rfl (pi_range1 rfl zr (pa_cons pe_int pa_nil)) (pg_name (i := 3) sc_is.nd rfl (Or.inl rfl))
    (pss_cons (ps_set (i := 4) sc_is.nd rfl (Or.inl rfl) (pe_ix ix_list (pe_lstN (pa_cons pe_int (pa_cons pe_int (pa_cons (pe_call (G_draw D T) (hr.mono (by decide)) rfl gD (k_draw D) (b_draw D) .nil pass0 (pa_cons (pv 2) (pa_cons pe_int pa_nil))) (pa_cons (pe_op op_pow pe_int pe_int) pa_nil))))) (pe_call (G_draw D T) (hr.mono (by decide)) rfl gD (k_draw D) (b_draw D) .nil pass0 (pa_cons (pv 2) (pa_cons pe_int pa_nil))) (fun _ _ => rfl)))
    (pss_cons (ps_set (i := 5) sc_is.nd rfl (Or.inl rfl) (pe_ix ix_list (pe_lstN (pa_cons pe_int (pa_cons pe_int (pa_cons (pe_call (G_draw D T) (hr.mono (by decide)) rfl gD (k_draw D) (b_draw D) .nil pass0 (pa_cons (pv 2) (pa_cons (pe_op op_pow pe_int pe_int) pa_nil))) pa_nil)))) (pe_call (G_draw D T) (hr.mono (by decide)) rfl gD (k_draw D) (b_draw D) .nil pass0 (pa_cons (pv 2) (pa_cons pe_int pa_nil))) (fun _ _ => rfl)))
    (pss_cons (ps_if (pt_cmpR op_ne (pe_callB SkE.call_repr_int (by rfl) zrepr Tw.boot_repr (pa_cons (StX.pe_callO (E := E0) (pv 0) T.callO ((G_call D T).raw (b_Tally_call D) .nil) (hr.mono (by decide)) pass0 (pa_cons (pv 4) (pa_cons (pv 5) pa_nil))) pa_nil)) (pe_callB SkE.call_repr_int (by rfl) zrepr Tw.boot_repr (pa_cons (pe_call (G_worth D T) (hr.mono (by decide)) rfl gW (k_worth D) (b_worth D) .nil pass0 (pa_cons (pv 1) (pa_cons (pv 4) (pa_cons (pv 5) pa_nil)))) pa_nil)) (nomark _)) (pss_one (ps_ret pe_bl)) pss_nil)
    (pss_one (ps_if (pt_cmpR op_ne (StX.pe_callO (E := E0) (pv 0) T.callO ((G_call D T).raw (b_Tally_call D) .nil) (hr.mono (by decide)) pass0 (pa_cons (pv 5) (pa_cons (pv 4) pa_nil))) (StX.pe_callO (E := E0) (pe_un (un_negOwn (E := E0) oN (G_neg D T) (hr.mono (by decide)) (b_Tally_neg D) pass0) (pv 0)) T.callO ((G_call D T).raw (b_Tally_call D) .nil) (hr.mono (by decide)) pass0 (pa_cons (pv 4) (pa_cons (pv 5) pa_nil))) (nomark _)) (pss_one (ps_ret pe_bl)) pss_nil))))))
    (pss_one (ps_ret pe_bl)))), ?_⟩
    obtain ⟨dx, hx⟩ := id hX
    obtain ⟨r1, r2, r3⟩ := repr4 ht
    refine ⟨_, rfl, x, _, dx, _, _, rfl, hx, T.cls, T.na (by decide +kernel), rfl, _, rfl, x, _, dx, _, _, rfl, hx, T.cls, T.na (by decide +kernel), rfl, _, rfl, x, _, dx, _, _, rfl, hx, T.cls, T.na (by decide +kernel), rfl, _, rfl, x, _, dx, _, _, rfl, hx, T.cls, T.na (by decide +kernel), rfl, sz1000 (by show 4 ≤ 1000; decide), fun q1 H1 f1 m1 s1 g1 => ?_⟩
    refine ⟨q1, _, rfl, dp4 (t := t) g1, r1, r2, r3, ?_⟩
    refine ⟨_, rfl, _, rfl, q, _, rfl, SqL.of (s1 _ _ hq), fun q2 H2 f2 s2 g2 => ?_⟩
    refine ⟨q2, _, rfl, dp4 (t := t) g2, r1, r2, r3, rfl, _, rfl, ?_⟩
    refine iteNS rfl ?_
    have P2 := hP.same (s1.trans s2)
    have B2 : But p H H2 := But.of (s1.trans s2)
    have t18 : t.le (10 ^ 18) := ht.mono (by decide)
    refine ⟨3, rfl, by decide, by decide, for_range (n := 3) (fun i σ H' => ∃ v3 v4 v5 : Option V, σ = [some (.ref x), some (.ref q), some (.ref p), v3, v4, v5] ∧ PenL H' p l (c + 4 * i) ∧ But p H H') ⟨none, none, none, rfl, P2, B2⟩ ?_ ?_⟩
    · rintro i σ G0 hi ⟨v3, v4, v5, rfl, P0, B0⟩
      refine ⟨_, rfl, p, l, 100, c + 4 * i, rfl, by decide, by decide, P0, by omega, fun d3 H3 a3 b3 P3 B3 => ?_⟩
      refine ⟨_, _, rfl, rfl, ⟨by decide, by decide, by decide⟩, sz1000 (by show 4 ≤ 1000; decide), fun q4 H4 f4 m4 s4 g4 => ?_⟩
      refine ⟨_, rfl, p, l, 4, c + 4 * i + 1, rfl, by decide, by decide, P3.same s4, by omega, fun r5 H5 a5 b5 P5 B5 => ?_⟩
      have n4 : q4 ≠ p := (P3.new f4).1
      have hlt5 : r5.toNat < 4 := by omega
      refine ⟨q4, _, r5, _, rfl, rfl, SqL.of (B5 _ _ g4 n4), atI_gen a5 (List.getElem?_eq_getElem (by exact hlt5)), ?_⟩
      obtain ⟨m, em, hm⟩ : ∃ m : Int, ([.int 0, .int 1, .int d3, .int ((10 : Int) ^ (9 : Int).toNat)] : List V)[r5.toNat] = V.int m ∧ 0 ≤ m ∧ m ≤ 10 ^ 9 := by
        have c4 : r5.toNat = 0 ∨ r5.toNat = 1 ∨ r5.toNat = 2 ∨ r5.toNat = 3 := by omega
        rcases c4 with h | h | h | h
        · exact ⟨0, by simp only [h]; rfl, by decide, by decide⟩
        · exact ⟨1, by simp only [h]; rfl, by decide, by decide⟩
        · exact ⟨d3, by simp only [h]; rfl, a3, by omega⟩
        · exact ⟨(10 : Int) ^ (9 : Int).toNat, by simp only [h]; rfl, by decide, by decide⟩
      rw [em]
      refine ⟨_, rfl, _, _, rfl, rfl, ⟨by decide, by decide, by decide⟩, p, l, _, c + 4 * i + 2, rfl, by decide, by decide, P5, by omega, fun d6 H6 a6 b6 P6 B6 => ?_⟩
      refine ⟨sz1000 (by show 3 ≤ 1000; decide), fun q7 H7 f7 m7 s7 g7 => ?_⟩
      refine ⟨_, rfl, p, l, 3, c + 4 * i + 3, rfl, by decide, by decide, P6.same s7, by omega, fun r8 H8 a8 b8 P8 B8 => ?_⟩
      have n7 : q7 ≠ p := (P6.new f7).1
      have hlt8 : r8.toNat < 3 := by omega
      refine ⟨q7, _, r8, _, rfl, rfl, SqL.of (B8 _ _ g7 n7), atI_gen a8 (List.getElem?_eq_getElem (by exact hlt8)), ?_⟩
      have z9 : d6 ≤ 10 ^ 9 := Int.le_of_lt (Int.lt_of_lt_of_le b6 (by decide))
      obtain ⟨n, en, hn⟩ : ∃ n : Int, ([.int 0, .int 2, .int d6] : List V)[r8.toNat] = V.int n ∧ 0 ≤ n ∧ n ≤ 10 ^ 9 := by
        have c3 : r8.toNat = 0 ∨ r8.toNat = 1 ∨ r8.toNat = 2 := by omega
        rcases c3 with h | h | h
        · exact ⟨0, by simp only [h]; rfl, by decide, by decide⟩
        · exact ⟨2, by simp only [h]; rfl, by decide, by decide⟩
        · exact ⟨d6, by simp only [h]; rfl, a6, z9⟩
      rw [en]
      have B8' : But p H H8 := ((((B0.trans B3).trans (But.of s4)).trans B5).trans B6).trans ((But.of s7).trans B8)
      have hX8 := hX.but B8' (hX.ne hP)
      have hq8 : H8 q = some (.lst t.vs) := B8' _ _ hq (pts_ne hq hP)
      obtain ⟨d8, h8⟩ := id hX8
      have wl := w_small ht hm hn
      refine ⟨_, rfl, x, rfl, _, rfl, _, rfl, .inr ⟨d8, _, h8⟩, x, t, m, n, rfl, hX8, t18, hm, hn, ?_⟩
      refine ⟨_, rfl, wl, ?_⟩
      refine ⟨_, rfl, _, rfl, _, rfl, q, t, m, n, rfl, hq8, t18, hm, hn, fun H9 s9 => ?_⟩
      refine ⟨_, rfl, wl, rfl, _, rfl, ?_⟩
      refine iteNS rfl ?_
      have hX9 := hX8.same s9
      obtain ⟨d9, h9⟩ := id hX9
      refine ⟨_, rfl, x, rfl, _, rfl, _, rfl, .inr ⟨d9, _, h9⟩, x, t, n, m, rfl, hX9, t18, hn, hm, ?_⟩
      refine ⟨_, rfl, x, d9, _, rfl, h9, x, t, rfl, hX9, fun z H10 s10 hZ => ?_⟩
      obtain ⟨d10, h10⟩ := id hZ
      refine ⟨z, rfl, _, rfl, _, rfl, .inr ⟨d10, _, h10⟩, z, t.neg, m, n, rfl, hZ, t18.neg, hm, hn, ?_⟩
      refine ⟨rfl, _, rfl, ?_⟩
      rw [w_neg]
      refine iteNS rfl ?_
      exact ⟨_, _, _, rfl, ((P8.same s9).same s10).mono (by omega), (B8'.trans (But.of s9)).trans (But.of s10)⟩
    · rintro σ G0 ⟨v3, v4, v5, rfl, P0, B0⟩
      exact k G0 P0 B0
end
end K64
namespace K64
open PySem PySem.Spec PyProof.Rows L2 He Tw
/-- the list of the usual words and their numbers -/
def UsL (H : Hp) (q : Addr) : Prop := ∃ ts : List V, H q = some (.lst ts) ∧ ts.length = 9 ∧ ∀ (i : Nat) (z : Str × T4), usualL[i]? = some z → ∃ a b : Addr, ts[i]? = some (.ref a) ∧ H a = some (.tup [.str z.1, .ref b]) ∧ H b = some (.lst z.2.vs)
def spUsL : Sp := fun vs H Q _ => vs = [] ∧ ∀ q H', H q = none → Same H H' → UsL H' q → Q (.ref q) H'
section
variable {P : Program} {w : World} {K : Fg} {mg : Str → Option Value} {base : Heap} {fd : Nat → FuncData}
theorem G_usL (D : DefsA fn K fd) (T : Txt w K mg) : FnOk P w K mg base CX0 1 (at_usual K) (fd_usual fd) [] spUsL := by
  refine (F_usual D).ok sc_usual (fun vs H Q E h => ?_) (fun cdv A outer s H vs Q E hr h => ?_)
  · obtain ⟨rfl, _⟩ := h
    rfl
  · obtain ⟨rfl, k⟩ := h
    refine ⟨_, PSs.nox (pss_cons (ps_set (i := 0) sc_usual.nd rfl (Or.inl rfl) (pe_lstN (pa_cons (pe_tupN (pa_cons pe_str (pa_cons (pe_lstN (pa_cons pe_int (pa_cons pe_int (pa_cons pe_int (pa_cons pe_int pa_nil))))) pa_nil))) (pa_cons (pe_tupN (pa_cons pe_str (pa_cons (pe_lstN (pa_cons pe_int (pa_cons pe_int (pa_cons (pe_un un_neg pe_int) (pa_cons pe_int pa_nil))))) pa_nil))) (pa_cons (pe_tupN (pa_cons pe_str (pa_cons (pe_lstN (pa_cons pe_int (pa_cons pe_int (pa_cons pe_int (pa_cons pe_int pa_nil))))) pa_nil))) (pa_cons (pe_tupN (pa_cons pe_str (pa_cons (pe_lstN (pa_cons pe_int (pa_cons pe_int (pa_cons (pe_un un_neg pe_int) (pa_cons pe_int pa_nil))))) pa_nil))) pa_nil))))))
    (pss_cons (ps_set (i := 0) sc_usual.nd rfl (Or.inl rfl) (pe_op op_catN (pv 0) (pe_lstN (pa_cons (pe_tupN (pa_cons pe_str (pa_cons (pe_lstN (pa_cons pe_int (pa_cons pe_int (pa_cons (pe_un un_neg pe_int) (pa_cons pe_int pa_nil))))) pa_nil))) (pa_cons (pe_tupN (pa_cons pe_str (pa_cons (pe_lstN (pa_cons pe_int (pa_cons pe_int (pa_cons pe_int (pa_cons pe_int pa_nil))))) pa_nil))) (pa_cons (pe_tupN (pa_cons pe_str (pa_cons (pe_lstN (pa_cons pe_int (pa_cons pe_int (pa_cons pe_int (pa_cons pe_int pa_nil))))) pa_nil))) pa_nil))))))
    (pss_one (ps_ret (pe_op op_catN (pv 0) (pe_lstN (pa_cons (pe_tupN (pa_cons pe_str (pa_cons (pe_lstN (pa_cons pe_int (pa_cons pe_int (pa_cons pe_int (pa_cons pe_int pa_nil))))) pa_nil))) (pa_cons (pe_tupN (pa_cons pe_str (pa_cons (pe_lstN (pa_cons pe_int (pa_cons pe_int (pa_cons pe_int (pa_cons pe_int pa_nil))))) pa_nil))) pa_nil)))))))), ?_⟩
    refine ⟨sz1000 (by show 4 ≤ 1000; decide), fun b0 X0 fb0 mb0 sb0 gb0 => ⟨sz1000 (by show 2 ≤ 1000; decide), fun a0 Y0 fa0 sa0 ga0 => ?_⟩⟩
    refine ⟨_, rfl, sz1000 (by show 4 ≤ 1000; decide), fun b1 X1 fb1 mb1 sb1 gb1 => ⟨sz1000 (by show 2 ≤ 1000; decide), fun a1 Y1 fa1 sa1 ga1 => ?_⟩⟩
    refine ⟨sz1000 (by show 4 ≤ 1000; decide), fun b2 X2 fb2 mb2 sb2 gb2 => ⟨sz1000 (by show 2 ≤ 1000; decide), fun a2 Y2 fa2 sa2 ga2 => ?_⟩⟩
    refine ⟨_, rfl, sz1000 (by show 4 ≤ 1000; decide), fun b3 X3 fb3 mb3 sb3 gb3 => ⟨sz1000 (by show 2 ≤ 1000; decide), fun a3 Y3 fa3 sa3 ga3 => ?_⟩⟩
    refine ⟨sz1000 (by show 4 ≤ 1000; decide), fun q0 L0 f0 m0 s0 g0 => ?_⟩
    refine ⟨_, rfl, _, rfl, sz1000 (by show 4 ≤ 1000; decide), fun b4 X4 fb4 mb4 sb4 gb4 => ⟨sz1000 (by show 2 ≤ 1000; decide), fun a4 Y4 fa4 sa4 ga4 => ?_⟩⟩
    refine ⟨sz1000 (by show 4 ≤ 1000; decide), fun b5 X5 fb5 mb5 sb5 gb5 => ⟨sz1000 (by show 2 ≤ 1000; decide), fun a5 Y5 fa5 sa5 ga5 => ?_⟩⟩
    refine ⟨sz1000 (by show 4 ≤ 1000; decide), fun b6 X6 fb6 mb6 sb6 gb6 => ⟨sz1000 (by show 2 ≤ 1000; decide), fun a6 Y6 fa6 sa6 ga6 => ?_⟩⟩
    refine ⟨sz1000 (by show 3 ≤ 1000; decide), fun q1 L1 f1 m1 s1 g1 => ?_⟩
    refine ⟨q0, q1, _, _, rfl, rfl, ((((((sb4.trans sa4).trans sb5).trans sa5).trans sb6).trans sa6).trans s1) _ _ g0, g1, sz1000 (by show 7 ≤ 1000; decide), fun q2 L2 f2 m2 s2 g2 => ?_⟩
    refine ⟨_, rfl, sz1000 (by show 4 ≤ 1000; decide), fun b7 X7 fb7 mb7 sb7 gb7 => ⟨sz1000 (by show 2 ≤ 1000; decide), fun a7 Y7 fa7 sa7 ga7 => ?_⟩⟩
    refine ⟨sz1000 (by show 4 ≤ 1000; decide), fun b8 X8 fb8 mb8 sb8 gb8 => ⟨sz1000 (by show 2 ≤ 1000; decide), fun a8 Y8 fa8 sa8 ga8 => ?_⟩⟩
    refine ⟨sz1000 (by show 2 ≤ 1000; decide), fun q3 L3 f3 m3 s3 g3 => ?_⟩
    refine ⟨q2, q3, _, _, rfl, rfl, ((((sb7.trans sa7).trans sb8).trans sa8).trans s3) _ _ g2, g3, sz1000 (by show 9 ≤ 1000; decide), fun q4 L4 f4 m4 s4 g4 => ?_⟩
    have t21 := s4
    have t20 := s3.trans t21
    have t19 := sa8.trans t20
    have t18 := sb8.trans t19
    have t17 := sa7.trans t18
    have t16 := sb7.trans t17
    have t15 := s2.trans t16
    have t14 := s1.trans t15
    have t13 := sa6.trans t14
    have t12 := sb6.trans t13
    have t11 := sa5.trans t12
    have t10 := sb5.trans t11
    have t9 := sa4.trans t10
    have t8 := sb4.trans t9
    have t7 := s0.trans t8
    have t6 := sa3.trans t7
    have t5 := sb3.trans t6
    have t4 := sa2.trans t5
    have t3 := sb2.trans t4
    have t2 := sa1.trans t3
    have t1 := sb1.trans t2
    have t0 := sa0.trans t1
    have tt := sb0.trans t0
    refine k q4 L4 ((((((((((((((((((((((sb0.trans sa0).trans sb1).trans sa1).trans sb2).trans sa2).trans sb3).trans sa3).trans s0).trans sb4).trans sa4).trans sb5).trans sa5).trans sb6).trans sa6).trans s1).trans s2).trans sb7).trans sa7).trans sb8).trans sa8).trans s3).free f4) tt ⟨_, g4, rfl, fun i z hz => ?_⟩
    have hi : i < 9 := (List.getElem?_eq_some_iff.mp hz).1
    have c9 : i = 0 ∨ i = 1 ∨ i = 2 ∨ i = 3 ∨ i = 4 ∨ i = 5 ∨ i = 6 ∨ i = 7 ∨ i = 8 := by omega
    rcases c9 with rfl | rfl | rfl | rfl | rfl | rfl | rfl | rfl | rfl
    · cases hz
      exact ⟨a0, b0, rfl, t1 _ _ ga0, t0 _ _ gb0⟩
    · cases hz
      exact ⟨a1, b1, rfl, t3 _ _ ga1, t2 _ _ gb1⟩
    · cases hz
      exact ⟨a2, b2, rfl, t5 _ _ ga2, t4 _ _ gb2⟩
    · cases hz
      exact ⟨a3, b3, rfl, t7 _ _ ga3, t6 _ _ gb3⟩
    · cases hz
      exact ⟨a4, b4, rfl, t10 _ _ ga4, t9 _ _ gb4⟩
    · cases hz
      exact ⟨a5, b5, rfl, t12 _ _ ga5, t11 _ _ gb5⟩
    · cases hz
      exact ⟨a6, b6, rfl, t14 _ _ ga6, t13 _ _ gb6⟩
    · cases hz
      exact ⟨a7, b7, rfl, t18 _ _ ga7, t17 _ _ gb7⟩
    · cases hz
      exact ⟨a8, b8, rfl, t20 _ _ ga8, t19 _ _ gb8⟩
end
end K64
namespace K64
open PySem PySem.Spec PyProof.Rows L2 He Tw
theorem eqvL4 (t u : T4) : PyData.eqv (.list [.int t.a, .int t.b, .int t.c, .int t.e]) (.list [.int u.a, .int u.b, .int u.c, .int u.e]) = decide (t = u) := by
  obtain ⟨a, b, c, e⟩ := t
  obtain ⟨a', b', c', e'⟩ := u
  simp only [PyData.eqv, PyData.eqvAll, Bool.and_true, T4.mk.injEq, Bool.decide_and]
  by_cases h1 : a = a' <;> by_cases h2 : b = b' <;> by_cases h3 : c = c' <;> by_cases h4 : e = e' <;> simp [h1, h2, h3, h4]
theorem shapedL4 (t : T4) : SeqAt.shaped (.list [.int t.a, .int t.b, .int t.c, .int t.e]) = true := by
  simp [SeqAt.shaped, PyData.canLay0, PyData.canLayAll0, PyData.depth, PyData.depthAll]
theorem shapedStrs (zs : List Str) (h : ∀ z ∈ zs, z ∈ usualL.map (·.1)) : SeqAt.shaped (.list (zs.map .str)) = true := by
  have h1 : ∀ zs : List Str, (∀ z ∈ zs, z ∈ usualL.map (·.1)) → PyData.canLayAll0 (zs.map .str) = true := by
    intro zs
    induction zs with
    | nil => intro _; rfl
    | cons z zs ih =>
      intro h
      have hz : PyData.canLay0 (.str z) = true := by
        have := h z List.mem_cons_self
        have all : (usualL.map (·.1)).all (fun z => PyData.canLay0 (.str z)) = true := by decide +kernel
        exact List.all_eq_true.mp all z this
      show (PyData.canLay0 (.str z) && PyData.canLayAll0 (zs.map .str)) = true
      rw [hz, ih fun y hy => h y (List.mem_cons_of_mem _ hy)]
      rfl
  have h2 : PyData.depthAll (zs.map PyData.str) = 0 := depthStrs zs
  simp only [SeqAt.shaped, PyData.canLay0, h1 zs h, PyData.depth, h2]
  decide
def spLabL : Sp := fun vs H Q _ => ∃ (q : Addr) (t : T4), vs = [.ref q] ∧ H q = some (.lst t.vs) ∧ ∀ H', Same H H' → Q (labV t) H'
def spHeard (K : Fg) : Sp := fun vs H Q _ => ∃ (x : V) (ty : String), vs = [x] ∧ Bv H x ty ∧ (∀ z, x = .str z → z ∈ noNames) ∧ ∀ q H', H q = none → Same H H' → H' q = some (.lst [x]) → Q (.ref q) H'
def words (t : T4) (j : Nat) : List Str := ((usualL.take j).filter fun o => decide (o.2 = t)).map (·.1)
theorem words_step {t : T4} {j : Nat} {z : Str × T4} (h : usualL[j]? = some z) : words t (j + 1) = words t j ++ (if decide (z.2 = t) = true then [z.1] else []) := by
  unfold words
  rw [List.take_add_one, h, List.filter_append, List.map_append]
  congr 1
  by_cases e : z.2 = t
  · simp [e]
  · simp [e]
theorem words_mem {t : T4} {j : Nat} {z : Str} (h : z ∈ words t j) : z ∈ usualL.map (·.1) := by
  unfold words at h
  obtain ⟨o, ho, rfl⟩ := List.mem_map.mp h
  exact List.mem_map_of_mem (List.mem_of_mem_take (List.mem_filter.mp ho).1)
theorem words_len {t : T4} {j : Nat} : (words t j).length ≤ 9 := by
  unfold words
  rw [List.length_map]
  exact Nat.le_trans (List.length_filter_le _ _) (Nat.le_trans (List.length_take_le' _ _) (by decide))
theorem words_nine (t : T4) : labV t = match words t 9 with
  | z :: _ => .str z
  | [] => .non := by
  unfold labV words
  have e : usualL.take 9 = usualL := rfl
  rw [e, ← List.head?_filter]
  cases (usualL.filter fun o => decide (o.2 = t)) with
  | nil => rfl
  | cons a l => rfl
theorem UsL.same {H H' : Hp} {q : Addr} (e : Same H H') (h : UsL H q) : UsL H' q := by
  obtain ⟨ts, h1, h2, h3⟩ := h
  refine ⟨ts, e _ _ h1, h2, fun i z hz => ?_⟩
  obtain ⟨a, b, c1, c2, c3⟩ := h3 i z hz
  exact ⟨a, b, c1, e _ _ c2, e _ _ c3⟩
section
variable {P : Program} {w : World} {K : Fg} {mg : Str → Option Value} {base : Heap} {fd : Nat → FuncData}
theorem G_labL (D : DefsA fn K fd) (T : Txt w K mg) : FnOk P w K mg base CX0 2 (at_label K) (fd_label fd) ["_law_parts_here"] spLabL := by
  have gU := T.fn (x := "_law_usual") (by decide +kernel)
  refine (F_label D).ok sc_label (fun vs H Q E h => ?_) (fun cdv A outer s H vs Q E hr h => ?_)
  · obtain ⟨q, t, rfl, _⟩ := h
    rfl
  · obtain ⟨q, t, rfl, hq, k⟩ := h
    refine ⟨_, PSs.nox (pss_cons (ps_setLc (i := 1) (own := [("_law_word", 2), ("_law_some", 3)]) (g := gTup K 2 (gCons (gName 2) (gCons (gName 3) gNil))) (by rfl) sc_label.nd rfl rfl (sw_true rfl rfl rfl (by decide +kernel)) (pi_list (pe_call0 (G_usL D T) (hr.mono (by decide)) rfl gU (k_usual D) (b_usual D) .nil pass0)) (blkOk_by (own := [("_law_word", 2), ("_law_some", 3)]) (N := N_label) (sc := defScope s_label) (by decide +kernel)) (fun _ _ _ _ _ => (pg_tup (by rfl) (pgs_cons (pg_name (i := 2) sc_label.nd rfl (Or.inl rfl)) (pgs_cons (pg_name (i := 3) sc_label.nd rfl (Or.inl rfl)) pgs_nil)))) (fun _ _ _ _ _ => pts_one (pt_cmpR (eqDK K hr.units) (pv 3) (pe_slice (slK K) (pv 0) po_none (po_some pe_int)) (nomark _))) (fun _ _ _ _ _ => (pv 2)))
    (pss_one (ps_ret (pe_ifExp (pt_cmpR (op_neD hr.units) (pv 1) (pe_lstN pa_nil) (nomark _)) (pe_ix ix_list (pv 1) pe_int (fun _ _ => rfl)) pe_non)))), ?_⟩
    refine ⟨rfl, fun u H1 f1 s1 U1 => ?_⟩
    obtain ⟨ts, gu, lt, hts⟩ := id U1
    have hq1 := s1 _ _ hq
    refine ⟨u, rfl, ⟨_, SqL.of gu⟩, fun L hL => lc_list (K := K) (a := u) (xs := ts) (fun j H' => Same H1 H' ∧ H' L = some (.lst ((words t j).map V.str))) ⟨same_new hL, upd_same⟩ (fun j H' _ ⟨s, _⟩ => SqL.of (s _ _ gu)) ?_ ?_⟩
    · rintro j y H5 hy ⟨s5, g5⟩
      have hj : j < 9 := by
        have := (List.getElem?_eq_some_iff.mp hy).1
        omega
      obtain ⟨z, hz⟩ : ∃ z, usualL[j]? = some z := ⟨_, List.getElem?_eq_getElem (show j < usualL.length from hj)⟩
      obtain ⟨a, b, ea, ga, gb⟩ := hts j z hz
      rw [hy] at ea
      cases ea
      have tk := words_step (t := t) hz
      refine ⟨a, _, rfl, SqT.of (s5 _ _ ga), rfl, _, _, rfl, _, _, rfl, rfl, rfl, ?_⟩
      refine ⟨_, rfl, _, rfl, _, rfl, q, _, rfl, SqL.of (s5 _ _ hq1), fun q6 H6 f6 s6 g6 => ?_⟩
      refine ⟨_, _, dp4 (t := z.2) (s6 _ _ (s5 _ _ gb)), dp4 (t := t) g6, shapedL4 _, shapedL4 _, ?_⟩
      rw [eqvL4]
      refine ⟨_, rfl, ?_⟩
      have s56 := s5.trans s6
      refine ite2 (fun h => ?_) (fun h => ?_)
      · refine ⟨_, rfl, _, s6 _ _ g5, ?_, ?_, ?_⟩
        · rw [List.length_map]
          exact Nat.lt_of_le_of_lt words_len (show 9 < sizeLine by decide)
        · exact fun b' o' hb' => by
            rw [upd_ne (ne_of_none hb' hL)]
            exact s56 b' o' hb'
        · rw [upd_same, tk, if_pos h, List.map_append]
          rfl
      · refine ⟨s56, ?_⟩
        rw [tk, if_neg h, List.append_nil]
        exact s6 _ _ g5
    · rintro H5 ⟨s5, g5⟩
      rw [lt] at g5
      have kk := fun H' s => k H' ((s1.trans s5).trans s)
      rw [words_nine] at kk
      have wm := fun z (h : z ∈ words t 9) => words_mem h
      have wl : (words t 9).length ≤ 9 := words_len
      generalize words t 9 = ws at g5 kk wm wl
      refine ⟨_, rfl, sz1000 (by show 0 ≤ 1000; decide), fun q7 H7 f7 m7 s7 g7 => ⟨.list (ws.map .str), .list [], .lst (SqL.of (s7 _ _ g5)) (dpStrs ws), .lst (SqL.of g7) .nil, shapedStrs ws wm, shapedStrs [] (fun _ h => nomatch h), ?_⟩⟩
      cases ws with
      | nil =>
        refine ⟨_, rfl, ?_⟩
        exact iteF (kk H7 s7)
      | cons z zs =>
        refine ⟨_, rfl, ?_⟩
        exact iteT ⟨_, rfl, L, _, 0, .str z, rfl, rfl, SqL.of (s7 _ _ g5), atI_gen (by decide) rfl, kk H7 s7⟩
theorem G_heard {en : Array DictEntry} {n : Nat} (D : DefsA fn K fd) (KD : KDict K w (ga K "USUAL") en n) (T : Txt w K mg) : FnOk P w K mg base CX0 5 (at_heard K) (fd_heard fd) ["_law_worth_here"] (spHeard K) := by
  have zisi : mg "isinstance" = none := T.bl (by decide +kernel)
  have gT : mg "Tally" = some (.ref (ga K "Tally")) := T.cl (by decide +kernel)
  have gH : mg "HeadsError" = some (.ref (ga K "HeadsError")) := T.cl (by decide +kernel)
  have gB : mg "BadName" = some (.ref (ga K "BadName")) := T.cl (by decide +kernel)
  refine (F_heard D).ok sc_heard (fun vs H Q E h => ?_) (fun cdv A outer s H vs Q E hr h => ?_)
  · obtain ⟨x, ty, rfl, _⟩ := h
    rfl
  · obtain ⟨x, ty, rfl, bx, no, k⟩ := h
    refine ⟨_, PSs.nox (pss_cons (ps_set (i := 1) sc_heard.nd rfl (Or.inl rfl) pe_non)
    (pss_cons (ps_tryK (i := 2) (n := "error") (c := .ref (ga K "HeadsError")) rfl rfl rfl sc_heard.nd rfl rfl ⟨rfl, by decide, .inl gH⟩ takes0 (fun W pn xe tk _ => pss_one (ps_expr (pe_smethS (pe_glob (v := .ref (ga K "Tally")) rfl gT rfl) T.crd T.sta (G_usual D KD T) (hr.mono (by decide)) (b_Tally_usual D) (fun σ => passAt tk σ) (pa_cons (pv 0) pa_nil)))) (fun a oe cls d pn hz hf => pss_one (ps_set (i := 1) sc_heard.nd rfl (Or.inl rfl) (pv 2))))
    (pss_one (ps_ret (pe_ifExp (pt_val (pe_callB call_isA (by rfl) zisi (by decide +kernel) (pa_cons (pv 1) (pa_cons (pe_glob (v := .ref (ga K "BadName")) rfl gB rfl) pa_nil)))) (pe_lstN (pa_cons (pe_xfld (pv 1)) pa_nil)) pe_non))))), ?_⟩
    refine ⟨rfl, _, rfl, x, ty, rfl, bx, .inr ⟨no, fun d H1 s1 hd1 => ?_⟩⟩
    refine ⟨ga K "BadName", true, rfl, T.exm, fun _ e he => ?_, fun z => nomatch z⟩
    have S : Same H (upd H1 e (exT e (ga K "BadName") (some d))) := s1.trans (same_new he)
    have hd2 : (upd H1 e (exT e (ga K "BadName") (some d))) d = some (.xd [("name", x)]) := same_new he _ _ hd1
    refine ⟨_, rfl, _, rfl, .ref e, .ref (ga K "BadName"), .ref (ga K "BadName"), _, _, rfl, .own _, .inr ⟨e, _, d, _, rfl, rfl, .inr upd_same, .inr hd2, T.xc, T.xo⟩, T.kitNN, _, rfl, ?_⟩
    refine ⟨_, rfl, e, _, d, _, _, rfl, .inr upd_same, T.xc, T.no, .inr hd2, rfl, sz1000 (by show 1 ≤ 1000; decide), fun q H2 f2 m2 s2 g2 => ?_⟩
    exact k q H2 (S.free f2) (S.trans s2) g2
end
end K64
namespace Tw
open PySem PySem.Spec PyProof.Rows L2 He
theorem call_strD {X : Cx} (hG : NoG X.A) (hu : X.A.units + 70 < cLine) : CallR X (.type "str") (rReprD X.K) := by
  intro pins s σ H xs us Q I r h
  obtain ⟨a, d, rfl, hd, hm, hdp, hc, q⟩ := h
  obtain ⟨u, rfl, ru⟩ := vals1 r
  obtain ⟨as, hr⟩ := Dp.reads I d _ u hd ru
  cases (show u = Value.ref a from ru)
  exact str_of_reads hr (mild_show d hm) (PyData.noDict_hsm (dp_reads I hd)) hG (by omega) (fun _ _ e => e) (fun h' u tk hk => ⟨.str d.shown, H, I.kept (t' := tk) hk, ⟨_, rfl⟩, q⟩) (Nat.le_trans (shown_le d hm) (by rw [sizeLine_eq]; exact hc))
theorem same_upd {H H1 : Hp} {a : Addr} {o : HO} (s : Same H H1) (h : H a = none) : Same H (upd H1 a o) := fun b o' hb => by
  rw [upd_ne (ne_of_none hb h)]
  exact s b o' hb
theorem at0 {xs : List V} {i : Nat} {v : V} (h : xs[i]? = some v) : atI xs (0 + (i : Int)) = some v :=
  atI_gen (by omega) (by rw [show (0 + (i : Int)).toNat = i by omega]; exact h)
end Tw
namespace K64
open PySem PySem.Spec PyProof.Rows L2 He Tw
def N1 : Int := 10 ^ 6 + 1
theorem vs_add (t u : T4) {i : Nat} (h : i < 4) : ∃ x y : Int, t.vs[i]? = some (V.int x) ∧ u.vs[i]? = some (V.int y) ∧ (t.add u).vs[i]? = some (V.int (x + y)) := by
  have c : i = 0 ∨ i = 1 ∨ i = 2 ∨ i = 3 := by omega
  rcases c with rfl | rfl | rfl | rfl <;> exact ⟨_, _, rfl, rfl, rfl⟩
theorem vs_sub (t u : T4) {i : Nat} (h : i < 4) : ∃ x y : Int, t.vs[i]? = some (V.int x) ∧ u.vs[i]? = some (V.int y) ∧ (t.sub u).vs[i]? = some (V.int (x - y)) := by
  have c : i = 0 ∨ i = 1 ∨ i = 2 ∨ i = 3 := by omega
  rcases c with rfl | rfl | rfl | rfl <;> exact ⟨_, _, rfl, rfl, rfl⟩
theorem vs_mul (t : T4) (k : Int) {N : Int} (ht : t.le N) {i : Nat} (h : i < 4) : ∃ x : Int, t.vs[i]? = some (V.int x) ∧ (-N ≤ x ∧ x ≤ N) ∧ (t.mul k).vs[i]? = some (V.int (x * k)) := by
  obtain ⟨ha, hb, hc, he⟩ := ht
  have c : i = 0 ∨ i = 1 ∨ i = 2 ∨ i = 3 := by omega
  rcases c with rfl | rfl | rfl | rfl
  · exact ⟨_, rfl, ha, rfl⟩
  · exact ⟨_, rfl, hb, rfl⟩
  · exact ⟨_, rfl, hc, rfl⟩
  · exact ⟨_, rfl, he, rfl⟩
theorem le_mul {t : T4} {N k M : Int} (h : t.le N) (hN : 0 ≤ N) (k0 : -M ≤ k) (k1 : k ≤ M) : (t.mul k).le (N * M) := by
  have g : ∀ x : Int, -N ≤ x ∧ x ≤ N → -(N * M) ≤ x * k ∧ x * k ≤ N * M := fun x hx => by
    by_cases hk : 0 ≤ k
    · exact mulB hx hN ⟨hk, k1⟩
    · have := mulB (x := x) (y := -k) (Y := M) hx hN ⟨by omega, by omega⟩
      rw [Int.mul_neg] at this
      omega
  exact ⟨g _ h.1, g _ h.2.1, g _ h.2.2.1, g _ h.2.2.2⟩
theorem eqTo_self (t : T4) : eqTo t (some t) = true := decide_eq_true rfl
theorem add_sub (t u : T4) : (t.add u).sub u = t := by
  unfold T4.add T4.sub
  simp only [Int.add_sub_cancel]
theorem scal_lab (t : T4) : scal (labV t) (labV t) = true := by
  unfold labV
  split <;> rfl
theorem bind_ce {K : Fg} {fd : Nat → FuncData} (D : DefsA fn K fd) : ∃ its : List Value, KBn K (fd_Tally_init fd) ["self", "a", "b", "c", "e"] 3 ["c", "e"] (fun us ws => us ++ ws) (fun vs zs => vs ++ zs) := by
  obtain ⟨its, h⟩ := FunD.kbindsD (ps := ["self", "a", "b", "c", "e"]) (F_Tally_init D) 3 ["c", "e"] (fun vs ds zs => vs ++ zs) (fun z => nomatch z) (fun r1 r2 r3 => r1.append r3) fun T kV doc pm an cdv ct us its ws h1 h2 h3 => match us, h1, its, h2, ws, h3 with
    | [_, _, _], _, [_, _], _, [_, _], _ => ⟨_, rfl, rfl⟩
  exact ⟨its, h⟩
theorem bind_abc {K : Fg} {fd : Nat → FuncData} (D : DefsA fn K fd) : ∃ its : List Value, KBn K (fd_Tally_init fd) ["self", "a", "b", "c", "e"] 1 ["a", "b", "c"] (fun us ws => us ++ (ws ++ its.drop 1)) (fun vs zs => vs ++ (zs ++ [.int 0])) := by
  obtain ⟨its, h⟩ := FunD.kbindsD (ps := ["self", "a", "b", "c", "e"]) (F_Tally_init D) 1 ["a", "b", "c"] (fun vs ds zs => vs ++ (zs ++ ds.drop 1)) (fun z => nomatch z) (fun r1 r2 r3 => r1.append (r3.append (match r2 with
    | .nil => .nil
    | .cons _ r => r))) fun T kV doc pm an cdv ct us its ws h1 h2 h3 => match us, h1, its, h2, ws, h3 with
    | [_], _, [_, _], _, [_, _, _], _ => ⟨_, rfl, rfl⟩
  exact ⟨its, h⟩
theorem bind_ab {K : Fg} {fd : Nat → FuncData} (D : DefsA fn K fd) : ∃ ds, Vals [.int 0, .int 0] ds ∧ Binds K (fd_Tally_init fd) ["self", "a", "b", "c", "e"] ds :=
  FunD.binds1 (ps := ["self", "a", "b", "c", "e"]) (F_Tally_init D) 3 0 (fun z => nomatch z) rfl fun _ _ _ _ _ _ _ us its h1 h2 => match us, h1, its, h2 with
    | [_, _, _], _, [_, _], _ => ⟨_, rfl, rfl⟩
end K64
namespace K64
open PySem PySem.Spec PyProof.Rows L2 He Tw
def spSigns (K : Fg) : Sp := fun vs H Q _ => ∃ (p l q1 q2 : Addr) (t u : T4) (c : Nat), vs = [.ref p, .ref q1, .ref q2] ∧ PenL H p l c ∧ c ≤ 700000 ∧ H q1 = some (.lst t.vs) ∧ H q2 = some (.lst u.vs) ∧ t.le N1 ∧ u.le N1 ∧ ∀ H', PenL H' p l (c + 76) → But p H H' → Q (.bl true) H'
section
variable {P : Program} {w : World} {K : Fg} {mg : Str → Option Value} {base : Heap} {fd : Nat → FuncData}
theorem G_signs {en : Array DictEntry} {n : Nat} (D : DefsA fn K fd) (KD : KDict K w (ga K "USUAL") en n) (T : Txt w K mg) : FnG P w K mg base CX0 7 (at_signs_right K) (fd_signs_right fd) ["_law_pen_here", "_law_first", "_law_second"] (spSigns K) := by
  have zr : mg "range" = none := T.bl (by decide +kernel)
  have ztup : mg "tuple" = none := T.bl (by decide +kernel)
  have zstr : mg "str" = none := T.bl (by decide +kernel)
  have gT : mg "Tally" = some (.ref (ga K "Tally")) := T.cl (by decide +kernel)
  have gP := T.fn (x := "_law_part") (by decide +kernel)
  have gI := T.fn (x := "_law_is") (by decide +kernel)
  have gW := T.fn (x := "_law_worth") (by decide +kernel)
  have gL := T.fn (x := "_law_label") (by decide +kernel)
  have oA : OwnB K (ga K "Tally") (PySem.dunder Operator.Add.info.2) _ := T.own (m := "__add__") (by decide +kernel)
  have oS : OwnB K (ga K "Tally") (PySem.dunder Operator.Sub.info.2) _ := T.own (m := "__sub__") (by decide +kernel)
  have oM : OwnB K (ga K "Tally") (PySem.dunder Operator.Mult.info.2) _ := T.own (m := "__mul__") (by decide +kernel)
  have oM' : OwnB K (ga K "Tally") (PySem.dunder "mul") _ := T.own (m := "__mul__") (by decide +kernel)
  have oR : OwnB K (ga K "Tally") (PySem.dunderR "mul") _ := T.own (m := "__rmul__") (by decide +kernel)
  have oN := T.own (m := "__neg__") (by decide +kernel)
  have mE := T.mt (m := "__eq__") (by decide +kernel)
  obtain ⟨its, kce⟩ := bind_ce D
  refine (F_signs_right D).okG sc_signs_right (fun vs H Q E h => ?_) (fun cdv A outer s H vs Q E hr hg h => ?_)
  · obtain ⟨p, l, q1, q2, t, u, c, rfl, _⟩ := h
    rfl
  · obtain ⟨p, l, q1, q2, t, u, c, rfl, hP, hc, h1, h2, ht, hu', k⟩ := h
    have hu := room70 hr
    refine ⟨_, PSs.nox (pss_cons (ps_set (i := 3) sc_signs_right.nd rfl (Or.inr rfl) (pe_make (E := E0) T.mk (G_init D T) (hr.mono (by decide)) rfl gT (b4 D) .nil pass0 (pa_cons (pe_ix ix_list (pv 1) pe_int (fun _ _ => rfl)) (pa_cons (pe_ix ix_list (pv 1) pe_int (fun _ _ => rfl)) (pa_cons (pe_ix ix_list (pv 1) pe_int (fun _ _ => rfl)) (pa_cons (pe_ix ix_list (pv 1) pe_int (fun _ _ => rfl)) pa_nil))))))
    (pss_cons (ps_set (i := 4) sc_signs_right.nd rfl (Or.inl rfl) (pe_makeN (E := E0) T.mk (G_init D T) (hr.mono (by decide)) rfl gT kce pass0 (pa_cons (pe_ix ix_list (pv 2) pe_int (fun _ _ => rfl)) (pa_cons (pe_ix ix_list (pv 2) pe_int (fun _ _ => rfl)) pa_nil)) (pk_cons (pe_ix ix_list (pv 2) pe_int (fun _ _ => rfl)) (pk_cons (pe_ix ix_list (pv 2) pe_int (fun _ _ => rfl)) pk_nil))))
    (pss_cons (ps_set (i := 5) sc_signs_right.nd rfl (Or.inr rfl) (pe_call (G_part D T) (hr.mono (by decide)) rfl gP (k_part D) (b_part D) .nil pass0 (pa_cons (pv 0) pa_nil)))
    (pss_cons (ps_setLc (i := 6) (own := [("_law_k", 7)]) (g := gName 7) (tt := tYes) (by rfl) sc_signs_right.nd rfl rfl (sw_true rfl rfl rfl (by decide +kernel)) (pi_range1 rfl zr (pa_cons pe_int pa_nil)) (blkOk_by (own := [("_law_k", 7)]) (N := N_signs_right) (sc := defScope s_signs_right) (by decide +kernel)) (fun _ _ _ _ _ => (pg_name (i := 7) sc_signs_right.nd rfl (Or.inl rfl))) (fun _ _ _ _ _ => pts_nil) (fun _ _ _ _ _ => (pe_op op_add (pe_ix (ixl K) (pv 1) (pv 7) (fun _ _ => rfl)) (pe_ix (ixl K) (pv 2) (pv 7) (fun _ _ => rfl)))))
    (pss_cons (ps_setLc (i := 8) (own := [("_law_k", 7)]) (g := gName 7) (tt := tYes) (by rfl) sc_signs_right.nd rfl rfl (sw_true rfl rfl rfl (by decide +kernel)) (pi_range1 rfl zr (pa_cons pe_int pa_nil)) (blkOk_by (own := [("_law_k", 7)]) (N := N_signs_right) (sc := defScope s_signs_right) (by decide +kernel)) (fun _ _ _ _ _ => (pg_name (i := 7) sc_signs_right.nd rfl (Or.inl rfl))) (fun _ _ _ _ _ => pts_nil) (fun _ _ _ _ _ => (pe_op op_sub (pe_ix (ixl K) (pv 1) (pv 7) (fun _ _ => rfl)) (pe_ix (ixl K) (pv 2) (pv 7) (fun _ _ => rfl)))))
    (pss_cons (ps_setLc (i := 9) (own := [("_law_k", 7)]) (g := gName 7) (tt := tYes) (by rfl) sc_signs_right.nd rfl rfl (sw_true rfl rfl rfl (by decide +kernel)) (pi_range1 rfl zr (pa_cons pe_int pa_nil)) (blkOk_by (own := [("_law_k", 7)]) (N := N_signs_right) (sc := defScope s_signs_right) (by decide +kernel)) (fun _ _ _ _ _ => (pg_name (i := 7) sc_signs_right.nd rfl (Or.inl rfl))) (fun _ _ _ _ _ => pts_nil) (fun _ _ _ _ _ => (pe_op op_mul (pe_ix (ixl K) (pv 1) (pv 7) (fun _ _ => rfl)) (pv 5))))
    (pss_cons (ps_if (PW.pt (pw_or (pt_not (pt_val (pe_callG (G_is D T) (hr.mono (by decide)) hg rfl gI (k_is D) (b_is D) .nil pass0 (pa_cons (pe_op (op_binOwn (op := .Add) (E := E0) oA (G_add D T) (hr.mono (by decide)) (b_Tally_add D) pass0) (pv 3) (pv 4)) (pa_cons (pv 6) (pa_cons (pv 0) pa_nil)))))) (pw_or1 (pt_not (pt_val (pe_callG (G_is D T) (hr.mono (by decide)) hg rfl gI (k_is D) (b_is D) .nil pass0 (pa_cons (pe_op (op_binOwn (op := .Sub) (E := E0) oS (G_sub D T) (hr.mono (by decide)) (b_Tally_sub D) pass0) (pv 3) (pv 4)) (pa_cons (pv 8) (pa_cons (pv 0) pa_nil))))))))) (pss_one (ps_ret pe_bl)) pss_nil)
    (pss_cons (ps_if (PW.pt (pw_or (pt_not (pt_val (pe_callG (G_is D T) (hr.mono (by decide)) hg rfl gI (k_is D) (b_is D) .nil pass0 (pa_cons (pe_op (op_binT (op := .Mult) (T := "int") (E := E0) oM T.bint (G_mul D T) (hr.mono (by decide)) (b_Tally_mul D) pass0) (pv 3) (pv 5)) (pa_cons (pv 9) (pa_cons (pv 0) pa_nil)))))) (pw_or1 (pt_not (pt_val (pe_callG (G_is D T) (hr.mono (by decide)) hg rfl gI (k_is D) (b_is D) .nil pass0 (pa_cons (pe_op (op_binRI (E := E0) oR oM' T.bint T.subI (G_rmul D T) (hr.mono (by decide)) (b_Tally_rmul D) pass0) (pv 5) (pv 3)) (pa_cons (pv 9) (pa_cons (pv 0) pa_nil))))))))) (pss_one (ps_ret pe_bl)) pss_nil)
    (pss_cons (ps_if (PW.pt (pw_or (pt_not (pt_val (pe_callG (G_is D T) (hr.mono (by decide)) hg rfl gI (k_is D) (b_is D) .nil pass0 (pa_cons (pe_un (un_negOwn (E := E0) oN (G_neg D T) (hr.mono (by decide)) (b_Tally_neg D) pass0) (pv 3)) (pa_cons (pe_lstN (pa_cons (pe_ix ix_list (pv 1) pe_int (fun _ _ => rfl)) (pa_cons (pe_ix ix_list (pv 1) pe_int (fun _ _ => rfl)) (pa_cons (pe_ix ix_list (pv 1) pe_int (fun _ _ => rfl)) (pa_cons (pe_ix ix_list (pv 1) pe_int (fun _ _ => rfl)) pa_nil))))) (pa_cons (pv 0) pa_nil)))))) (pw_or1 (pt_not (pt_val (pe_callG (G_is D T) (hr.mono (by decide)) hg rfl gI (k_is D) (b_is D) .nil pass0 (pa_cons (pv 3) (pa_cons (pv 1) (pa_cons (pv 0) pa_nil))))))))) (pss_one (ps_ret pe_bl)) pss_nil)
    (pss_cons (ps_if (PW.pt (pw_or (pt_cmpR op_ne (pe_cmpR (op_eqOwn (E := E0) mE.at_ mE.fn (G_eq D T) (hr.mono (by decide)) (b_Tally_eq D) pass0) (pv 3) (pv 4) (nomark _)) (pe_cmpR (op_eqD hr.units) (pe_slice sl_listN (pv 1) po_none (po_some pe_int)) (pe_slice sl_listN (pv 2) po_none (po_some pe_int)) (nomark _)) (nomark _)) (pw_or (pt_not (pt_cmpR (op_eqOwn (E := E0) mE.at_ mE.fn (G_eq D T) (hr.mono (by decide)) (b_Tally_eq D) pass0) (pe_op (op_binOwn (op := .Sub) (E := E0) oS (G_sub D T) (hr.mono (by decide)) (b_Tally_sub D) pass0) (pe_op (op_binOwn (op := .Add) (E := E0) oA (G_add D T) (hr.mono (by decide)) (b_Tally_add D) pass0) (pv 3) (pv 4)) (pv 4)) (pv 3) (nomark _))) (pw_or1 (pt_not (pt_cmpR (op_eqOwn (E := E0) mE.at_ mE.fn (G_eq D T) (hr.mono (by decide)) (b_Tally_eq D) pass0) (pe_un (un_negOwn (E := E0) oN (G_neg D T) (hr.mono (by decide)) (b_Tally_neg D) pass0) (pe_un (un_negOwn (E := E0) oN (G_neg D T) (hr.mono (by decide)) (b_Tally_neg D) pass0) (pv 3))) (pv 3) (nomark _))))))) (pss_one (ps_ret pe_bl)) pss_nil)
    (pss_cons (ps_set (i := 10) sc_signs_right.nd rfl (Or.inl rfl) (pe_lstN (pa_cons (pe_slice sl_listN (pv 1) po_none (po_some pe_int)) (pa_cons (pe_callTy call_tuple_of (by rfl) ztup (by decide +kernel) (pa_cons (pe_slice sl_listN (pv 1) po_none (po_some pe_int)) pa_nil)) (pa_cons pe_non (pa_cons pe_int (pa_cons (pe_callTy (call_strD hg hu) (by rfl) zstr (by decide +kernel) (pa_cons (pv 1) pa_nil)) (pa_cons (pe_call (G_worth D T) (hr.mono (by decide)) rfl gW (k_worth D) (b_worth D) .nil pass0 (pa_cons (pv 1) (pa_cons pe_int (pa_cons pe_int pa_nil)))) pa_nil))))))))
    (pss_one (ps_ret (pe_and (pe_cmpR (op_eqD hr.units) (pe_lc (own := [("_law_thing", 11)]) (g := gName 11) (by rfl) sc_signs_right.nd (pi_list (pv 10)) (blkOk_by (own := [("_law_thing", 11)]) (N := N_signs_right) (sc := defScope s_signs_right) (by decide +kernel)) (fun _ _ _ _ _ => (pg_name (i := 11) sc_signs_right.nd rfl (Or.inl rfl))) (fun _ _ _ _ _ => pts_one (pt_cmpR (eqOwnK (E := E0) P w K mg base mE.at_ mE.fn (G_eq D T) (hr.mono (by decide)) (b_Tally_eq D) pass0) (pv 3) (pv 11) (nomark _))) (fun _ _ _ _ _ => (pv 11))) (pe_lstN pa_nil) (nomark _)) (pe_one (pe_cmpR op_eq (pe_prop (E := E0) (pv 3) T.cls T.prop (G_lab D KD T) (hr.mono (by decide)) (b_Tally_label D) .nil pass0 rfl) (pe_call (G_labL D T) (hr.mono (by decide)) rfl gL (k_label D) (b_label D) .nil pass0 (pa_cons (pv 1) pa_nil)) (nomark _))))))))))))))))), ?_⟩
    have t18 : t.le (10 ^ 18) := ht.mono (by decide)
    have u18 : u.le (10 ^ 18) := hu'.mono (by decide)
    have t13 : t.le (10 ^ 13) := ht.mono (by decide)
    refine ⟨_, rfl, q1, _, 0, _, rfl, rfl, SqL.of h1, rfl, _, rfl, q1, _, 1, _, rfl, rfl, SqL.of h1, rfl, _, rfl, q1, _, 2, _, rfl, rfl, SqL.of h1, rfl, _, rfl, q1, _, 3, _, rfl, rfl, SqL.of h1, rfl, fun x dx hx hd hne => tal_to (t := t) rfl hx hd hne fun H1 hX1 s1 => ⟨rfl, ?_⟩⟩
    have g11 := s1 _ _ h1
    have g21 := s1 _ _ h2
    refine ⟨_, rfl, q2, _, 0, _, rfl, rfl, SqL.of g21, rfl, _, rfl, q2, _, 1, _, rfl, rfl, SqL.of g21, rfl, _, rfl, q2, _, 2, _, rfl, rfl, SqL.of g21, rfl, _, rfl, q2, _, 3, _, rfl, rfl, SqL.of g21, rfl, rfl, rfl, fun y dy hy hd' hne' => tal_to (t := u) rfl hy hd' hne' fun H2 hY2 s2 => ⟨rfl, ?_⟩⟩
    have hX2 := hX1.same s2
    have P2 := (hP.same s1).same s2
    have S2 := s1.trans s2
    refine ⟨_, rfl, p, l, c, rfl, P2, by omega, fun k' H3 k0 k1 P3 B3 => ?_⟩
    have hX3 := hX2.but B3 (hX2.ne P2)
    have hY3 := hY2.but B3 (hY2.ne P2)
    have BB3 : But p H H3 := (But.of S2).trans B3
    have g13 : H3 q1 = some (.lst t.vs) := BB3 _ _ h1 (pts_ne h1 hP)
    have g23 : H3 q2 = some (.lst u.vs) := BB3 _ _ h2 (pts_ne h2 hP)
    refine ⟨4, rfl, by decide, by decide, fun D1 hD1 => lc_range (lo := 0) (n := 4) (fun i H' => Same H3 H' ∧ H' D1 = some (.lst ((t.add u).vs.take i))) ⟨same_new hD1, upd_same⟩ ?_ ?_⟩
    · rintro i H' hi ⟨sD, gD⟩
      obtain ⟨a, b, ea, eb, eab⟩ := vs_add t u hi
      refine ⟨rfl, _, rfl, _, rfl, q1, _, _, .int a, rfl, rfl, SqL.of (sD _ _ g13), at0 ea, _, rfl, _, rfl, q2, _, _, .int b, rfl, rfl, SqL.of (sD _ _ g23), at0 eb, _, _, rfl, rfl, _, gD, Nat.lt_of_le_of_lt (List.length_take_le' _ _) (show 4 < sizeLine by decide), same_upd sD hD1, ?_⟩
      rw [upd_same, List.take_add_one, eab]
      rfl
    rintro H4 ⟨s4, gD14⟩
    have gD14 : H4 D1 = some (.lst (t.add u).vs) := gD14
    refine ⟨4, rfl, by decide, by decide, fun D2 hD2 => lc_range (lo := 0) (n := 4) (fun i H' => Same H4 H' ∧ H' D2 = some (.lst ((t.sub u).vs.take i))) ⟨same_new hD2, upd_same⟩ ?_ ?_⟩
    · rintro i H' hi ⟨sD, gD⟩
      obtain ⟨a, b, ea, eb, eab⟩ := vs_sub t u hi
      refine ⟨rfl, _, rfl, _, rfl, q1, _, _, .int a, rfl, rfl, SqL.of (sD _ _ (s4 _ _ g13)), at0 ea, _, rfl, _, rfl, q2, _, _, .int b, rfl, rfl, SqL.of (sD _ _ (s4 _ _ g23)), at0 eb, _, _, rfl, rfl, _, gD, Nat.lt_of_le_of_lt (List.length_take_le' _ _) (show 4 < sizeLine by decide), same_upd sD hD2, ?_⟩
      rw [upd_same, List.take_add_one, eab]
      rfl
    rintro H5 ⟨s5, gD25⟩
    have gD25 : H5 D2 = some (.lst (t.sub u).vs) := gD25
    have s45 := s4.trans s5
    refine ⟨4, rfl, by decide, by decide, fun D3 hD3 => lc_range (lo := 0) (n := 4) (fun i H' => Same H5 H' ∧ H' D3 = some (.lst ((t.mul k').vs.take i))) ⟨same_new hD3, upd_same⟩ ?_ ?_⟩
    · rintro i H' hi ⟨sD, gD⟩
      obtain ⟨a, ea, ba, eab⟩ := vs_mul t k' ht hi
      have bN : N1 = 10 ^ 6 + 1 := rfl
      refine ⟨rfl, _, rfl, _, rfl, q1, _, _, .int a, rfl, rfl, SqL.of (sD _ _ (s45 _ _ g13)), at0 ea, _, rfl, _, _, rfl, rfl, .inl ⟨by omega, by omega⟩, _, gD, Nat.lt_of_le_of_lt (List.length_take_le' _ _) (show 4 < sizeLine by decide), same_upd sD hD3, ?_⟩
      rw [upd_same, List.take_add_one, eab]
      rfl
    rintro H6 ⟨s6, gD36⟩
    have gD36 : H6 D3 = some (.lst (t.mul k').vs) := gD36
    have S36 : Same H3 H6 := s45.trans s6
    have P6 := P3.same S36
    have gD26 := s6 _ _ gD25
    have gD16 := (s5.trans s6) _ _ gD14
    have nD1 := pts_ne gD16 P6
    have nD2 := pts_ne gD26 P6
    have nD3 := pts_ne gD36 P6
    have nq1 := pts_ne h1 hP
    have nq2 := pts_ne h2 hP
    have hX6 := hX3.same S36
    have hY6 := hY3.same S36
    have nx := hX6.ne P6
    have ny := hY6.ne P6
    have BB6 : But p H H6 := BB3.trans (But.of S36)
    obtain ⟨dx6, hx6⟩ := id hX6
    obtain ⟨dy6, hy6⟩ := id hY6
    refine ⟨_, rfl, _, rfl, x, y, dx6, dy6, _, _, rfl, rfl, hx6, hy6, x, y, t, u, rfl, hX6, hY6, fun z7 H7 s7 hZ7 => ?_⟩
    refine ⟨_, rfl, _, rfl, z7, D1, p, l, t.add u, c + 4, rfl, hZ7, (ht.add hu').mono (by decide), s7 _ _ gD16, P6.same s7, by omega, fun H8 P8 B8 => ⟨_, rfl, ?_⟩⟩
    refine iteF ?_
    have B68 : But p H6 H8 := (But.of s7).trans B8
    have hX8 := hX6.but B68 nx
    have hY8 := hY6.but B68 ny
    obtain ⟨dx8, hx8⟩ := id hX8
    obtain ⟨dy8, hy8⟩ := id hY8
    refine ⟨_, rfl, _, rfl, x, y, dx8, dy8, _, _, rfl, rfl, hx8, hy8, x, y, t, u, rfl, hX8, hY8, fun z9 H9 s9 hZ9 => ?_⟩
    refine ⟨_, rfl, _, rfl, z9, D2, p, l, t.sub u, c + 16, rfl, hZ9, (ht.sub hu').mono (by decide), s9 _ _ (B68 _ _ gD26 nD2), P8.same s9, by omega, fun H10 P10 B10 => ⟨_, rfl, ?_⟩⟩
    refine iteF ?_
    have B610 : But p H6 H10 := B68.trans ((But.of s9).trans B10)
    have hX10 := hX6.but B610 nx
    obtain ⟨dx10, hx10⟩ := id hX10
    have lm : (t.mul k').le (10 ^ 13) := (le_mul (M := 10 ^ 6) ht (by decide) k0 k1).mono (by decide)
    refine ⟨_, rfl, _, rfl, x, dx10, _, rfl, hx10, rfl, x, t, k', rfl, hX10, t18, fun z11 H11 s11 hZ11 => ?_⟩
    refine ⟨_, rfl, _, rfl, z11, D3, p, l, t.mul k', c + 28, rfl, hZ11, lm, s11 _ _ (B610 _ _ gD36 nD3), P10.same s11, by omega, fun H12 P12 B12 => ⟨_, rfl, ?_⟩⟩
    refine iteF ?_
    have B612 : But p H6 H12 := B610.trans ((But.of s11).trans B12)
    have hX12 := hX6.but B612 nx
    obtain ⟨dx12, hx12⟩ := id hX12
    refine ⟨_, rfl, _, rfl, k', x, dx12, _, rfl, rfl, hx12, x, t, k', rfl, hX12, t18, fun z13 H13 s13 hZ13 => ?_⟩
    refine ⟨_, rfl, _, rfl, z13, D3, p, l, t.mul k', c + 40, rfl, hZ13, lm, s13 _ _ (B612 _ _ gD36 nD3), P12.same s13, by omega, fun H14 P14 B14 => ⟨_, rfl, ?_⟩⟩
    refine iteF ?_
    have B614 : But p H6 H14 := B612.trans ((But.of s13).trans B14)
    have hX14 := hX6.but B614 nx
    obtain ⟨dx14, hx14⟩ := id hX14
    have g16 : H6 q1 = some (.lst t.vs) := S36 _ _ g13
    have g26 : H6 q2 = some (.lst u.vs) := S36 _ _ g23
    refine ⟨_, rfl, x, dx14, _, rfl, hx14, x, t, rfl, hX14, fun z15 H15 s15 hZ15 => ?_⟩
    have g115 : H15 q1 = some (.lst t.vs) := s15 _ _ (B614 _ _ g16 nq1)
    refine ⟨_, rfl, q1, _, 1, _, rfl, rfl, SqL.of g115, rfl, _, rfl, q1, _, 0, _, rfl, rfl, SqL.of g115, rfl, _, rfl, q1, _, 2, _, rfl, rfl, SqL.of g115, rfl, _, rfl, q1, _, 3, _, rfl, rfl, SqL.of g115, rfl, sz1000 (by show 4 ≤ 1000; decide), fun q16 H16 f16 m16 s16 g16' => ?_⟩
    refine ⟨_, rfl, z15, q16, p, l, t.neg, c + 52, rfl, hZ15.same s16, t13.neg, g16', (P14.same s15).same s16, by omega, fun H17 P17 B17 => ⟨_, rfl, ?_⟩⟩
    refine iteF ?_
    have B617 : But p H6 H17 := B614.trans ((But.of (s15.trans s16)).trans B17)
    refine ⟨_, rfl, _, rfl, _, rfl, x, q1, p, l, t, c + 64, rfl, hX6.but B617 nx, t13, B617 _ _ g16 nq1, P17, by omega, fun H18 P18 B18 => ⟨_, rfl, ?_⟩⟩
    refine iteF ?_
    have B618 : But p H6 H18 := B617.trans B18
    have hX18 := hX6.but B618 nx
    have hY18 := hY6.but B618 ny
    have g118 : H18 q1 = some (.lst t.vs) := B618 _ _ g16 nq1
    have g218 : H18 q2 = some (.lst u.vs) := B618 _ _ g26 nq2
    have BB18 : But p H H18 := BB6.trans B618
    obtain ⟨dx18, hx18⟩ := id hX18
    refine ⟨_, rfl, _, rfl, x, dx18, _, .ref (ga K "Tally"), rfl, hx18, .inl (hY18.ty T), T.nfT, x, t, .ref y, some u, rfl, hX18, .tal hY18, fun H19 s19 => ?_⟩
    refine ⟨_, rfl, _, rfl, q1, _, rfl, SqL.of (s19 _ _ g118), fun qa H20 f20 s20 g20 => ?_⟩
    refine ⟨_, rfl, _, rfl, q2, _, rfl, SqL.of (s20 _ _ (s19 _ _ g218)), fun qb H21 f21 s21 g21' => ?_⟩
    refine ⟨_, _, dp4 (t := t) (s21 _ _ g20), dp4 (t := u) g21', shapedL4 t, shapedL4 u, ?_⟩
    rw [eqvL4]
    refine ⟨rfl, _, rfl, ?_⟩
    refine iteNS rfl ?_
    have S21 : Same H18 H21 := (s19.trans s20).trans s21
    have hX21 := hX18.same S21
    have hY21 := hY18.same S21
    obtain ⟨dx21, hx21⟩ := id hX21
    obtain ⟨dy21, hy21⟩ := id hY21
    refine ⟨_, rfl, _, rfl, x, y, dx21, dy21, _, _, rfl, rfl, hx21, hy21, x, y, t, u, rfl, hX21, hY21, fun z22 H22 s22 hZ22 => ?_⟩
    have hY22 := hY21.same s22
    obtain ⟨dy22, hy22⟩ := id hY22
    obtain ⟨dz22, hz22⟩ := id hZ22
    refine ⟨_, rfl, z22, y, dz22, dy22, _, _, rfl, rfl, hz22, hy22, z22, y, t.add u, u, rfl, hZ22, hY22, fun z23 H23 s23 hZ23 => ?_⟩
    have hX23 := (hX21.same s22).same s23
    obtain ⟨dz23, hz23⟩ := id hZ23
    refine ⟨_, rfl, z23, dz23, _, .ref (ga K "Tally"), rfl, hz23, .inl (hX23.ty T), T.nfT, z23, (t.add u).sub u, .ref x, some t, rfl, hZ23, .tal hX23, fun H24 s24 => ?_⟩
    rw [add_sub, eqTo_self]
    refine ⟨_, rfl, ?_⟩
    refine iteF ?_
    have S24 : Same H18 H24 := ((S21.trans s22).trans s23).trans s24
    have hX24 := hX18.same S24
    obtain ⟨dx24, hx24⟩ := id hX24
    refine ⟨_, rfl, x, dx24, _, rfl, hx24, x, t, rfl, hX24, fun z25 H25 s25 hZ25 => ?_⟩
    obtain ⟨dz25, hz25⟩ := id hZ25
    refine ⟨z25, dz25, _, rfl, hz25, z25, t.neg, rfl, hZ25, fun z26 H26 s26 hZ26 => ?_⟩
    obtain ⟨dz26, hz26⟩ := id hZ26
    have hX26 := (hX24.same s25).same s26
    refine ⟨_, rfl, z26, dz26, _, .ref (ga K "Tally"), rfl, hz26, .inl (hX26.ty T), T.nfT, z26, t, .ref x, some t, rfl, hZ26, .tal hX26, fun H27 s27 => ?_⟩
    rw [eqTo_self]
    refine ⟨_, rfl, ?_⟩
    refine iteF ?_
    have S27 : Same H18 H27 := ((S24.trans s25).trans s26).trans s27
    have g127 := S27 _ _ g118
    refine ⟨_, rfl, _, rfl, q1, _, rfl, SqL.of g127, fun qc H28 f28 s28 g28 => ?_⟩
    refine ⟨_, rfl, _, rfl, q1, _, rfl, SqL.of (s28 _ _ g127), fun qd H29 f29 s29 g29 => ?_⟩
    refine ⟨qd, _, rfl, .inl ⟨SqL.of g29, fun tp htp => ?_⟩⟩
    have s30 := same_new (o := .tup (cutV t.vs none (some 4))) htp
    have g30 : (upd H29 tp (.tup (cutV t.vs none (some 4)))) tp = some (.tup t.vs) := upd_same
    generalize upd H29 tp (.tup (cutV t.vs none (some 4))) = H30 at s30 g30 ⊢
    have S30 : Same H27 H30 := (s28.trans s29).trans s30
    obtain ⟨r1, r2, r3⟩ := repr4 t13
    refine ⟨_, rfl, q1, _, rfl, dp4 (t := t) (S30 _ _ g127), r1, r2, r3, ?_⟩
    generalize PyData.shown _ = txt
    refine ⟨_, rfl, q1, t, 1, 1, rfl, S30 _ _ g127, t18, by decide, by decide, fun H31 s31 => ?_⟩
    refine ⟨sz1000 (by show 6 ≤ 1000; decide), fun ql H32 f32 m32 s32 g32 => ?_⟩
    have hX32 := ((hX18.same S27).same S30).same (s31.trans s32)
    have gc32 : H32 qc = some (.lst t.vs) := (s31.trans s32) _ _ ((s29.trans s30) _ _ g28)
    have gt32 : H32 tp = some (.tup t.vs) := (s31.trans s32) _ _ g30
    have oth : ∀ (i : Nat) (v : V), ([.ref qc, .ref tp, .non, .int 0, .str txt, .int (t.w 1 1)] : List V)[i]? = some v → ∃ ty, Bv H32 v ty := fun i v hv => by
      have hi : i < 6 := (List.getElem?_eq_some_iff.mp hv).1
      have c6 : i = 0 ∨ i = 1 ∨ i = 2 ∨ i = 3 ∨ i = 4 ∨ i = 5 := by omega
      rcases c6 with rfl | rfl | rfl | rfl | rfl | rfl <;> cases hv
      · exact ⟨_, .lst gc32⟩
      · exact ⟨_, .tup gt32⟩
      · exact ⟨_, .non⟩
      · exact ⟨_, .int _⟩
      · exact ⟨_, .str _⟩
      · exact ⟨_, .int _⟩
    refine ⟨_, rfl, ql, rfl, ⟨_, SqL.of g32⟩, fun L hL => lc_list (K := K) (a := ql) (xs := [.ref qc, .ref tp, .non, .int 0, .str txt, .int (t.w 1 1)]) (fun j H' => Same H32 H' ∧ H' L = some (.lst [])) ⟨same_new hL, upd_same⟩ (fun j H' _ ⟨s, _⟩ => SqL.of (s _ _ g32)) ?_ ?_⟩
    · rintro j v H33 hv ⟨s33, g33⟩
      obtain ⟨ty, bv⟩ := oth j v hv
      have hX33 := hX32.same s33
      obtain ⟨dx33, hx33⟩ := id hX33
      have o33 : Oth K H33 v none := .plain (bv.same s33)
      obtain ⟨tv, tyv, nfv, _⟩ := o33.tyA T
      refine ⟨rfl, _, rfl, _, rfl, x, dx33, _, tv, rfl, hx33, tyv, nfv, x, t, v, none, rfl, hX33, o33, fun H34 s34 => ⟨_, rfl, ?_⟩⟩
      exact iteF ⟨s33.trans s34, s34 _ _ g33⟩
    rintro H33 ⟨s33, g33⟩
    refine ⟨sz1000 (by show 0 ≤ 1000; decide), fun q34 H34 f34 m34 s34 g34 => ?_⟩
    refine ⟨.list [], .list [], .lst (SqL.of (s34 _ _ g33)) .nil, .lst (SqL.of g34) .nil, shapedStrs [] (fun _ h => nomatch h), shapedStrs [] (fun _ h => nomatch h), ?_⟩
    have e0 : PyData.eqv (.list []) (.list []) = true := by simp [PyData.eqv, PyData.eqvAll]
    rw [e0]
    have S34 : Same H32 H34 := s33.trans s34
    have hX34 := hX32.same S34
    obtain ⟨dx34, hx34⟩ := id hX34
    refine ⟨_, rfl, _, rfl, x, dx34, _, rfl, hx34, x, t, rfl, hX34, fun H35 s35 => ?_⟩
    have S135 : Same H27 H35 := ((S30.trans (s31.trans s32)).trans S34).trans s35
    refine ⟨_, rfl, q1, t, rfl, S135 _ _ g127, fun H36 s36 => ⟨scal_lab t, ?_⟩⟩
    rw [decide_eq_true rfl]
    have S36' : Same H18 H36 := S27.trans (S135.trans s36)
    exact k H36 ((P18.same S36').mono (by omega)) (BB18.trans (But.of S36'))

end
end K64
namespace K64
open PySem PySem.Spec PyProof.Rows L2 He Tw
def spLaw (K : Fg) : Sp := fun vs H Q _ => ∃ (a : Addr) (ns : List Int), vs = [.ref a] ∧ SqL K H a (ns.map V.int) ∧ ns.length ≤ 63 ∧ ∀ H', Q (.bl true) H'
theorem cut4 (t : T4) (us : List V) : cutV (t.vs ++ us) none (some 4) = t.vs := by
  have e4 : t.vs.length = 4 := rfl
  have m4 : min 4 (t.vs ++ us).length = 4 := by
    rw [List.length_append]
    omega
  unfold cutV
  rw [show (some (4 : Int)) = some ((4 : Nat) : Int) from rfl, HT.sIx_nat, m4, HT.sIx_none]
  rfl
theorem pm_at (e : Int) : ∃ j : Int, atI [V.int 1, V.int (-1)] (if decide (e > 0) = true then 1 else 0) = some (.int j) ∧ -1 ≤ j ∧ j ≤ 1 := by
  by_cases h : e > 0
  · rw [if_pos (decide_eq_true h)]
    exact ⟨-1, rfl, by decide, by decide⟩
  · rw [if_neg (fun z => h (of_decide_eq_true z))]
    exact ⟨1, rfl, by decide, by decide⟩
theorem usual_ok : ∀ z ∈ usualL, True ∧ labV z.2 = .str z.1 ∧ z.2.le (10 ^ 13) := by
  intro z hz
  simp only [usualL, List.mem_cons, List.not_mem_nil, or_false] at hz
  rcases hz with rfl | rfl | rfl | rfl | rfl | rfl | rfl | rfl | rfl <;> exact ⟨trivial, rfl, ⟨by decide, by decide⟩, ⟨by decide, by decide⟩, ⟨by decide, by decide⟩, by decide, by decide⟩
section
variable {P : Program} {w : World} {K : Fg} {mg : Str → Option Value} {base : Heap} {fd : Nat → FuncData}
theorem G_law {en : Array DictEntry} {n : Nat} (D : DefsA fn K fd) (KD : KDict K w (ga K "USUAL") en n) (T : Txt w K mg) : FnG P w K mg base CX0 9 (at_law K) (fd_law fd) ["_law_script"] (spLaw K) := by
  have zr : mg "range" = none := T.bl (by decide +kernel)
  have zlist : mg "list" = none := T.bl (by decide +kernel)
  have zint : mg "int" = none := T.bl (by decide +kernel)
  have gT : mg "Tally" = some (.ref (ga K "Tally")) := T.cl (by decide +kernel)
  have gP := T.fn (x := "_law_pen") (by decide +kernel)
  have gD := T.fn (x := "_law_draw") (by decide +kernel)
  have gPk := T.fn (x := "_law_pick") (by decide +kernel)
  have gPs := T.fn (x := "_law_parts") (by decide +kernel)
  have gI := T.fn (x := "_law_is") (by decide +kernel)
  have gU := T.fn (x := "_law_usual") (by decide +kernel)
  have gH := T.fn (x := "_law_heard") (by decide +kernel)
  have gS := T.fn (x := "_law_signs_right") (by decide +kernel)
  have mE := T.mt (m := "__eq__") (by decide +kernel)
  obtain ⟨dab, bab, rab⟩ : ∃ ds, Binds K (fd_Tally_init fd) ["self", "a", "b", "c", "e"] ds ∧ Vals [.int 0, .int 0] ds := let ⟨ds, r, b⟩ := bind_ab D; ⟨ds, b, r⟩
  obtain ⟨its, kabc⟩ := bind_abc D
  refine (F_law D).okG sc_law (fun vs H Q E h => ?_) (fun cdv A outer s H vs Q E hr hg h => ?_)
  · obtain ⟨a, ns, rfl, _⟩ := h
    rfl
  · obtain ⟨a, ns, rfl, hS, hn, k⟩ := h
    have hu := room70 hr
    refine ⟨_, PSs.nox (pss_cons (ps_set (i := 1) sc_law.nd rfl (Or.inl rfl) (pe_call (G_pen D T) (hr.mono (by decide)) rfl gP (k_pen D) (b_pen D) .nil pass0 (pa_cons (pv 0) pa_nil)))
    (pss_cons (ps_for PassesOwn.never rfl (pi_range1 rfl zr (pa_cons pe_int pa_nil)) (pg_name (i := 2) sc_law.nd rfl (Or.inl rfl))
    (pss_cons (ps_par (i := 3) (j := 4) (by rfl) sc_law.nd rfl rfl (by decide) rfl rfl (pa_cons (pe_slice sl_listN (pe_call (G_parts D T) (hr.mono (by decide)) rfl gPs (k_parts D) (b_parts D) .nil pass0 (pa_cons (pv 1) pa_nil)) po_none (po_some pe_int)) (pa_cons (pe_slice sl_listN (pe_call (G_parts D T) (hr.mono (by decide)) rfl gPs (k_parts D) (b_parts D) .nil pass0 (pa_cons (pv 1) pa_nil)) po_none (po_some pe_int)) pa_nil)) (by rfl))
    (pss_cons (ps_set (i := 4) sc_law.nd rfl (Or.inl rfl) (pe_ix ix_list (pe_lstN (pa_cons (pv 4) (pa_cons (pv 4) (pa_cons (pe_callTy call_list_of (by rfl) zlist (by decide +kernel) (pa_cons (pv 3) pa_nil)) (pa_cons (pe_op op_catN (pe_slice sl_listN (pv 3) po_none (po_some pe_int)) (pe_lstN (pa_cons (pe_op op_add (pe_ix ix_list (pv 3) pe_int (fun _ _ => rfl)) (pe_ix ix_list (pe_lstN (pa_cons pe_int (pa_cons (pe_un un_neg pe_int) pa_nil))) (pe_callTy call_int1 (by rfl) zint (by decide +kernel) (pa_cons (pe_cmpR op_gt (pe_ix ix_list (pv 3) pe_int (fun _ _ => rfl)) pe_int (nomark _)) pa_nil)) (fun _ _ => rfl))) pa_nil))) pa_nil))))) (pe_call (G_draw D T) (hr.mono (by decide)) rfl gD (k_draw D) (b_draw D) .nil pass0 (pa_cons (pv 1) (pa_cons pe_int pa_nil))) (fun _ _ => rfl)))
    (pss_cons (ps_if (pt_not (pt_val (pe_callG (G_signs D KD T) (hr.mono (by decide)) hg rfl gS (k_signs_right D) (b_signs_right D) .nil pass0 (pa_cons (pv 1) (pa_cons (pv 3) (pa_cons (pv 4) pa_nil)))))) (pss_one (ps_ret pe_bl)) pss_nil)
    (pss_cons (ps_if (pt_not (pt_val (pe_callG (G_is D T) (hr.mono (by decide)) hg rfl gI (k_is D) (b_is D) .nil pass0 (pa_cons (pe_make (E := E0) T.mk (G_init D T) (hr.mono (by decide)) rfl gT bab rab pass0 (pa_cons (pe_ix ix_list (pv 3) pe_int (fun _ _ => rfl)) (pa_cons (pe_ix ix_list (pv 3) pe_int (fun _ _ => rfl)) pa_nil))) (pa_cons (pe_lstN (pa_cons (pe_ix ix_list (pv 3) pe_int (fun _ _ => rfl)) (pa_cons (pe_ix ix_list (pv 3) pe_int (fun _ _ => rfl)) (pa_cons pe_int (pa_cons pe_int pa_nil))))) (pa_cons (pv 1) pa_nil)))))) (pss_one (ps_ret pe_bl)) pss_nil)
    (pss_one (ps_if (pt_not (pt_val (pe_callG (G_is D T) (hr.mono (by decide)) hg rfl gI (k_is D) (b_is D) .nil pass0 (pa_cons (pe_makeK0 (E := E0) T.mk (G_init D T) (hr.mono (by decide)) rfl gT kabc pass0 (pk_cons (pe_ix ix_list (pv 3) pe_int (fun _ _ => rfl)) (pk_cons (pe_ix ix_list (pv 3) pe_int (fun _ _ => rfl)) (pk_cons (pe_ix ix_list (pv 3) pe_int (fun _ _ => rfl)) pk_nil)))) (pa_cons (pe_op op_catN (pe_slice sl_listN (pv 3) po_none (po_some pe_int)) (pe_lstN (pa_cons pe_int pa_nil))) (pa_cons (pv 1) pa_nil)))))) (pss_one (ps_ret pe_bl)) pss_nil)))))))
    (pss_cons (ps_for PassesOwn.never rfl (pi_list (pe_call0 (G_usL D T) (hr.mono (by decide)) rfl gU (k_usual D) (b_usual D) .nil pass0)) (pg_tup (by rfl) (pgs_cons (pg_name (i := 5) sc_law.nd rfl (Or.inl rfl)) (pgs_cons (pg_name (i := 6) sc_law.nd rfl (Or.inl rfl)) pgs_nil)))
    (pss_cons (ps_set (i := 7) sc_law.nd rfl (Or.inl rfl) (pe_smeth (E := E0) (pe_glob (v := .ref (ga K "Tally")) rfl gT rfl) T.crd T.sta (G_usual D KD T) (hr.mono (by decide)) (b_Tally_usual D) .nil passL (pa_cons (pv 5) pa_nil)))
    (pss_cons (ps_if (PW.pt (pw_or (pt_not (pt_val (pe_callG (G_is D T) (hr.mono (by decide)) hg rfl gI (k_is D) (b_is D) .nil pass0 (pa_cons (pv 7) (pa_cons (pv 6) (pa_cons (pv 1) pa_nil)))))) (pw_or1 (pt_cmpR op_ne (pe_prop (E := E0) (pv 7) T.cls T.prop (G_lab D KD T) (hr.mono (by decide)) (b_Tally_label D) .nil pass0 rfl) (pv 5) (nomark _))))) (pss_one (ps_ret pe_bl)) pss_nil)
    (pss_one (ps_if (pt_not (pt_cmpR (op_eqOwn (E := E0) mE.at_ mE.fn (G_eq D T) (hr.mono (by decide)) (b_Tally_eq D) pass0) (pv 7) (pe_make (E := E0) T.mk (G_init D T) (hr.mono (by decide)) rfl gT (b4 D) .nil pass0 (pa_cons (pe_ix ix_list (pv 6) pe_int (fun _ _ => rfl)) (pa_cons (pe_ix ix_list (pv 6) pe_int (fun _ _ => rfl)) (pa_cons (pe_ix ix_list (pv 6) pe_int (fun _ _ => rfl)) (pa_cons (pe_ix ix_list (pv 6) pe_int (fun _ _ => rfl)) pa_nil))))) (nomark _))) (pss_one (ps_ret pe_bl)) pss_nil)))))
    (pss_cons (ps_set (i := 8) sc_law.nd rfl (Or.inl rfl) (pe_lstN (pa_cons pe_non (pa_cons pe_bl (pa_cons pe_int (pa_cons pe_str (pa_cons pe_str (pa_cons pe_str (pa_cons pe_str (pa_cons (pe_tupN (pa_cons pe_str pa_nil)) (pa_cons (pe_lstN (pa_cons pe_str pa_nil)) (pa_cons pe_dnewN (pa_cons pe_str (pa_cons (pe_op op_pow pe_int pe_int) pa_nil))))))))))))))
    (pss_cons (ps_set (i := 9) sc_law.nd rfl (Or.inl rfl) (pe_call (G_pick D T) (hr.mono (by decide)) rfl gPk (k_pick D) (b_pick D) .nil pass0 (pa_cons (pv 1) (pa_cons (pv 8) pa_nil))))
    (pss_one (ps_ret (pe_cmpR (op_eqSame hr.units) (pe_call (G_heard D KD T) (hr.mono (by decide)) rfl gH (k_heard D) (b_heard D) .nil pass0 (pa_cons (pv 9) pa_nil)) (pe_lstN (pa_cons (pv 9) pa_nil)) (nomark _))))))))), ?_⟩
    refine ⟨_, rfl, a, ns, rfl, hS, hn, fun p l H1 f1 P1 s1 => ?_⟩
    refine ⟨4, rfl, by decide, by decide, for_range (n := 4) (fun i σ H' => ∃ v2 v3 v4 : Option V, σ = [some (.ref a), some (.ref p), v2, v3, v4, none, none, none, none, none] ∧ PenL H' p l (150 * i)) ⟨none, none, none, rfl, P1⟩ ?_ ?_⟩
    · rintro i σ G0 hi ⟨v2, v3, v4, rfl, P0⟩
      refine ⟨_, rfl, p, l, 150 * i, rfl, P0, by omega, fun qA t us2 H2 f2 n2 g2 ht P2 B2 => ?_⟩
      refine ⟨_, rfl, qA, _, rfl, SqL.of g2, fun qa H3 f3 s3 gA => ?_⟩
      rw [cut4] at gA
      have P3 := P2.same s3
      refine ⟨_, rfl, p, l, 150 * i + 17, rfl, P3, by omega, fun qB u us4 H4 f4 n4 g4 hu4 P4 B4 => ?_⟩
      have gA4 := B4 _ _ gA (pts_ne gA P3)
      refine ⟨_, rfl, qB, _, rfl, SqL.of g4, fun qb H5 f5 s5 gB => ?_⟩
      rw [cut4] at gB
      have gA5 : H5 qa = some (.lst t.vs) := s5 _ _ gA4
      have P5 := P4.same s5
      refine ⟨_, _, rfl, ?_⟩
      refine ⟨_, rfl, _, rfl, _, rfl, qa, _, rfl, .inl (SqL.of gA5), fun qc hqc => ?_⟩
      have s6 := same_new (o := .lst t.vs) hqc
      have gC6 : (upd H5 qc (.lst t.vs)) qc = some (.lst t.vs) := upd_same
      generalize upd H5 qc (.lst t.vs) = H6 at s6 gC6 ⊢
      have gA6 := s6 _ _ gA5
      refine ⟨_, rfl, _, rfl, qa, _, rfl, SqL.of gA6, fun qs H7 f7 s7 gs7 => ?_⟩
      have gA7 := s7 _ _ gA6
      refine ⟨_, rfl, qa, _, 3, _, rfl, rfl, SqL.of gA7, rfl, _, rfl, sz1000 (by show 2 ≤ 1000; decide), fun qm H8 f8 m8 s8 gm8 => ?_⟩
      have gA8 := s8 _ _ gA7
      refine ⟨_, rfl, qa, _, 3, _, rfl, rfl, SqL.of gA8, rfl, _, _, rfl, rfl, .inr ⟨_, rfl, ?_⟩⟩
      obtain ⟨j, ej, hj0, hj1⟩ := pm_at t.e
      refine ⟨qm, _, _, .int j, rfl, rfl, SqL.of gm8, ej, _, _, rfl, rfl, sz1000 (by show 1 ≤ 1000; decide), fun qn H9 f9 m9 s9 gn9 => ?_⟩
      refine ⟨qs, qn, _, _, rfl, rfl, s9 _ _ (s8 _ _ gs7), gn9, sz1000 (by show 4 ≤ 1000; decide), fun qx H10 f10 m10 s10 gx10 => ?_⟩
      have gx10 : H10 qx = some (.lst (T4.mk t.a t.b t.c (t.e + j)).vs) := gx10
      refine ⟨sz1000 (by show 4 ≤ 1000; decide), fun ql H11 f11 m11 s11 gl11 => ?_⟩
      have S11 : Same H5 H11 := ((((s6.trans s7).trans s8).trans s9).trans s10).trans s11
      refine ⟨_, rfl, p, l, 4, 150 * i + 34, rfl, by decide, by decide, P5.same S11, by omega, fun r H12 a12 b12 P12 B12 => ?_⟩
      have nl : ql ≠ p := ((P5.same ((((s6.trans s7).trans s8).trans s9).trans s10)).new f11).1
      have hlt : r.toNat < 4 := by omega
      refine ⟨ql, _, r, _, rfl, rfl, SqL.of (B12 _ _ gl11 nl), atI_gen a12 (List.getElem?_eq_getElem (by exact hlt)), ?_⟩
      have P11 := P5.same S11
      have gA12 := B12 _ _ (S11 _ _ gA5) (pts_ne (S11 _ _ gA5) P11)
      have gB11 := S11 _ _ gB
      have gC11 := (((((s7.trans s8).trans s9).trans s10).trans s11)) _ _ gC6
      have gX11 := s11 _ _ gx10
      have tN : t.le N1 := ht.mono (by decide)
      have uN : u.le N1 := hu4.mono (by decide)
      obtain ⟨q, u', eq, gq, hq⟩ : ∃ (q : Addr) (u' : T4), ([.ref qb, .ref qb, .ref qc, .ref qx] : List V)[r.toNat] = V.ref q ∧ H12 q = some (.lst u'.vs) ∧ u'.le N1 := by
        have c4 : r.toNat = 0 ∨ r.toNat = 1 ∨ r.toNat = 2 ∨ r.toNat = 3 := by omega
        rcases c4 with h | h | h | h
        · exact ⟨qb, u, by simp only [h]; rfl, B12 _ _ gB11 (pts_ne gB11 P11), uN⟩
        · exact ⟨qb, u, by simp only [h]; rfl, B12 _ _ gB11 (pts_ne gB11 P11), uN⟩
        · exact ⟨qc, t, by simp only [h]; rfl, B12 _ _ gC11 (pts_ne gC11 P11), tN⟩
        · refine ⟨qx, ⟨t.a, t.b, t.c, t.e + j⟩, by simp only [h]; rfl, B12 _ _ gX11 (pts_ne gX11 P11), tN.1, tN.2.1, tN.2.2.1, ?_⟩
          have e4 := ht.2.2.2
          have n1 : N1 = 10 ^ 6 + 1 := rfl
          show -N1 ≤ t.e + j ∧ t.e + j ≤ N1
          rw [n1]
          omega
      rw [eq]
      refine ⟨_, rfl, _, rfl, _, rfl, p, l, qa, q, t, u', 150 * i + 35, rfl, P12, by omega, gA12, gq, tN, hq, fun H13 P13 B13 => ⟨_, rfl, ?_⟩⟩
      refine iteF ?_
      have gA13 := B13 _ _ gA12 (pts_ne gA12 P12)
      have z13 : -(10 ^ 13 : Int) ≤ 0 ∧ (0 : Int) ≤ 10 ^ 13 := by decide
      have t13 : t.le (10 ^ 13) := ht.mono (by decide)
      refine ⟨_, rfl, qa, _, 0, _, rfl, rfl, SqL.of gA13, rfl, _, rfl, qa, _, 1, _, rfl, rfl, SqL.of gA13, rfl, fun z dz hz hd hne => tal_to (t := ⟨t.a, t.b, 0, 0⟩) rfl hz hd hne fun H14 hZ14 s14 => ⟨rfl, ?_⟩⟩
      have gA14 := s14 _ _ gA13
      refine ⟨_, rfl, qa, _, 0, _, rfl, rfl, SqL.of gA14, rfl, _, rfl, qa, _, 1, _, rfl, rfl, SqL.of gA14, rfl, sz1000 (by show 4 ≤ 1000; decide), fun q15 H15 f15 m15 s15 g15 => ?_⟩
      refine ⟨_, rfl, z, q15, p, l, ⟨t.a, t.b, 0, 0⟩, 150 * i + 111, rfl, hZ14.same s15, ⟨t13.1, t13.2.1, z13, z13⟩, g15, (P13.same s14).same s15, by omega, fun H16 P16 B16 => ⟨_, rfl, ?_⟩⟩
      refine iteF ?_
      have P15 := (P13.same s14).same s15
      have gA15 := s15 _ _ gA14
      have gA16 := B16 _ _ gA15 (pts_ne gA15 P15)
      refine ⟨_, rfl, qa, _, 0, _, rfl, rfl, SqL.of gA16, rfl, _, rfl, qa, _, 1, _, rfl, rfl, SqL.of gA16, rfl, _, rfl, qa, _, 2, _, rfl, rfl, SqL.of gA16, rfl, rfl, rfl, fun z2 dz2 hz2 hd2 hne2 => tal_to (t := ⟨t.a, t.b, t.c, 0⟩) rfl hz2 hd2 hne2 fun H17 hZ17 s17 => ⟨rfl, ?_⟩⟩
      have gA17 := s17 _ _ gA16
      refine ⟨_, rfl, _, rfl, qa, _, rfl, SqL.of gA17, fun q18 H18 f18 s18 g18 => ?_⟩
      refine ⟨sz1000 (by show 1 ≤ 1000; decide), fun q19 H19 f19 m19 s19 g19 => ?_⟩
      refine ⟨q18, q19, _, _, rfl, rfl, s19 _ _ g18, g19, sz1000 (by show 4 ≤ 1000; decide), fun q20 H20 f20 m20 s20 g20 => ?_⟩
      have S20 := (s18.trans s19).trans s20
      refine ⟨_, rfl, z2, q20, p, l, ⟨t.a, t.b, t.c, 0⟩, 150 * i + 123, rfl, hZ17.same S20, ⟨t13.1, t13.2.1, t13.2.2.1, z13⟩, g20, (P16.same s17).same S20, by omega, fun H21 P21 B21 => ⟨_, rfl, ?_⟩⟩
      refine iteF ?_
      exact ⟨_, _, _, rfl, P21.mono (by omega)⟩
    rintro σ G0 ⟨v2, v3, v4, rfl, P0⟩
    refine ⟨rfl, fun uu H2 f2 s2 U2 => ?_⟩
    obtain ⟨ts, gu, lt, hts⟩ := id U2
    have P2 := P0.same s2
    have nu : uu ≠ p := (P0.new f2).1
    refine ⟨uu, rfl, ⟨_, SqL.of gu⟩, for_list (K := K) (a := uu) (xs := ts) (fun i σ H' => ∃ w5 w6 w7 : Option V, σ = [some (.ref a), some (.ref p), v2, v3, v4, w5, w6, w7, none, none] ∧ PenL H' p l (600 + 12 * i) ∧ But p H2 H') ⟨none, none, none, rfl, P2, fun _ _ e _ => e⟩ (fun i σ H' _ ⟨_, _, _, _, _, b⟩ => SqL.of (b _ _ gu nu)) ?_ ?_⟩
    · rintro i y σ H3 hy ⟨w5, w6, w7, rfl, P3, B3⟩
      have hi : i < 9 := by
        have := (List.getElem?_eq_some_iff.mp hy).1
        omega
      obtain ⟨z, hz⟩ : ∃ z, usualL[i]? = some z := ⟨_, List.getElem?_eq_getElem (show i < usualL.length from hi)⟩
      obtain ⟨ta, b, ea, gta, gb⟩ := hts i z hz
      rw [hy] at ea
      cases ea
      have hmem := List.mem_of_getElem? hz
      obtain ⟨zl, zlab, zle⟩ := usual_ok z hmem
      have nta : ta ≠ p := fun e => by
        obtain ⟨ns', i', g', q1, _⟩ := P2
        rw [e, q1] at gta
        cases gta
      have gb3 := B3 _ _ gb (pts_ne gb P2)
      refine ⟨ta, _, rfl, SqT.of (B3 _ _ gta nta), rfl, _, _, rfl, _, _, rfl, rfl, ?_⟩
      refine ⟨rfl, _, rfl, .str z.1, "str", rfl, .str z.1, .inl ⟨z, hmem, rfl, fun x H4 s4 hT4 => ?_⟩⟩
      have gb4 := s4 _ _ gb3
      have P4 := P3.same s4
      refine ⟨_, rfl, _, rfl, _, rfl, x, b, p, l, z.2, 600 + 12 * i, rfl, hT4, zle, gb4, P4, by omega, fun H5 P5 B5 => ⟨_, rfl, ?_⟩⟩
      refine iteF ?_
      have hT5 := hT4.but B5 (hT4.ne P4)
      have gb5 := B5 _ _ gb4 (pts_ne gb4 P4)
      obtain ⟨dx5, hx5⟩ := id hT5
      refine ⟨_, rfl, x, dx5, _, rfl, hx5, x, z.2, rfl, hT5, fun H6 s6 => ?_⟩
      rw [zlab]
      refine ⟨_, rfl, rfl, _, rfl, ?_⟩
      refine iteNS rfl ?_
      have gb6 := s6 _ _ gb5
      refine ⟨_, rfl, _, rfl, b, _, 0, _, rfl, rfl, SqL.of gb6, rfl, _, rfl, b, _, 1, _, rfl, rfl, SqL.of gb6, rfl, _, rfl, b, _, 2, _, rfl, rfl, SqL.of gb6, rfl, _, rfl, b, _, 3, _, rfl, rfl, SqL.of gb6, rfl, fun y2 dy hy2 hd hne => tal_to (t := z.2) rfl hy2 hd hne fun H7 hY7 s7 => ⟨rfl, ?_⟩⟩
      have hT7 := (hT5.same s6).same s7
      obtain ⟨dx7, hx7⟩ := id hT7
      refine ⟨x, dx7, _, .ref (ga K "Tally"), rfl, hx7, .inl (hY7.ty T), T.nfT, x, z.2, .ref y2, some z.2, rfl, hT7, .tal hY7, fun H8 s8 => ?_⟩
      rw [eqTo_self]
      refine ⟨_, rfl, ?_⟩
      refine iteF ?_
      have S8 := (s6.trans s7).trans s8
      exact ⟨_, _, _, rfl, (P5.same S8).mono (by omega), ((B3.trans (But.of s4)).trans B5).trans (But.of S8)⟩
    rintro σ H3 ⟨w5, w6, w7, rfl, P3, B3⟩
    rw [lt] at P3
    refine ⟨sz1000 (by show 1 ≤ 1000; decide), fun tp H4 f4 s4 g4 => ?_⟩
    refine ⟨sz1000 (by show 1 ≤ 1000; decide), fun lp H5 f5 m5 s5 g5 => ?_⟩
    refine fun dp H6 f6 m6 s6 g6 => ?_
    refine ⟨_, _, rfl, rfl, ⟨by decide, by decide, by decide⟩, sz1000 (by show 12 ≤ 1000; decide), fun ql H7 f7 m7 s7 g7 => ?_⟩
    have P6 := ((P3.same s4).same s5).same s6
    have P7 := P6.same s7
    refine ⟨_, rfl, _, rfl, p, l, ql, _, _, rfl, SqL.of g7, (P6.new f7).1, by show 0 < 12; decide, by show 12 < 1000; decide, P7, by omega, fun v H8 hv P8 B8 => ?_⟩
    have gt7 := (s5.trans (s6.trans s7)) _ _ g4
    have gl7 := (s6.trans s7) _ _ g5
    have gd7 := s7 _ _ g6
    have nt : tp ≠ p := (P3.new f4).1
    have nlp : lp ≠ p := ((P3.same s4).new f5).1
    have ndp : dp ≠ p := (((P3.same s4).same s5).new f6).1
    have fact : ∃ ty, Bv H8 v ty ∧ (∀ z, v = .str z → z ∈ noNames) ∧ ((∃ d, (∀ H, Dp K H v d) ∧ SeqAt.shaped (.list [d]) = true ∧ PyData.eqv (.list [d]) (.list [d]) = true) ∨ ∃ c, v = .ref c) := by
      simp only [List.mem_cons, List.not_mem_nil, or_false] at hv
      rcases hv with rfl | rfl | rfl | rfl | rfl | rfl | rfl | rfl | rfl | rfl | rfl | rfl
      · exact ⟨_, .non, fun z e => (nomatch e), .inl ⟨.none, fun _ => .non, by decide +kernel, by decide +kernel⟩⟩
      · exact ⟨_, .bl _, fun z e => (nomatch e), .inl ⟨.bool true, fun _ => .bl _, by decide +kernel, by decide +kernel⟩⟩
      · exact ⟨_, .int _, fun z e => (nomatch e), .inl ⟨.int 0, fun _ => .int _, by decide +kernel, by decide +kernel⟩⟩
      · exact ⟨_, .str _, fun z e => (by cases e; decide +kernel), .inl ⟨.str "", fun _ => .str _, by decide +kernel, by decide +kernel⟩⟩
      · exact ⟨_, .str _, fun z e => (by cases e; decide +kernel), .inl ⟨.str "Sum", fun _ => .str _, by decide +kernel, by decide +kernel⟩⟩
      · exact ⟨_, .str _, fun z e => (by cases e; decide +kernel), .inl ⟨.str "sums", fun _ => .str _, by decide +kernel, by decide +kernel⟩⟩
      · exact ⟨_, .str _, fun z e => (by cases e; decide +kernel), .inl ⟨.str "sum ", fun _ => .str _, by decide +kernel, by decide +kernel⟩⟩
      · exact ⟨_, .tup (B8 _ _ gt7 nt), fun z e => (nomatch e), .inr ⟨_, rfl⟩⟩
      · exact ⟨_, .lst (B8 _ _ gl7 nlp), fun z e => (nomatch e), .inr ⟨_, rfl⟩⟩
      · exact ⟨_, .dK (B8 _ _ gd7 ndp), fun z e => (nomatch e), .inr ⟨_, rfl⟩⟩
      · exact ⟨_, .str _, fun z e => (by cases e; decide +kernel), .inl ⟨.str "keeps left", fun _ => .str _, by decide +kernel, by decide +kernel⟩⟩
      · exact ⟨_, .int _, fun z e => (nomatch e), .inl ⟨.int ((10 : Int) ^ (50 : Int).toNat), fun _ => .int _, by decide +kernel, by decide +kernel⟩⟩
    obtain ⟨ty, bv, no, same⟩ := fact
    refine ⟨_, rfl, v, ty, rfl, bv, no, fun q9 H9 f9 s9 g9 => ?_⟩
    refine ⟨_, rfl, sz1000 (by show 1 ≤ 1000; decide), fun q10 H10 f10 m10 s10 g10 => ?_⟩
    rcases same with ⟨d, hd, hsh, heq⟩ | ⟨cc, rfl⟩
    · refine .inl ⟨.list [d], .list [d], .lst (SqL.of (s10 _ _ g9)) (.cons (hd _) .nil), .lst (SqL.of g10) (.cons (hd _) .nil), hsh, hsh, ?_⟩
      rw [heq]
      exact k H10
    · exact .inr ⟨q9, q10, cc, rfl, rfl, s10 _ _ g9, g10, k H10⟩

end
end K64
namespace K64
open PySem PySem.Spec PyProof.Rows L2 He Tw
abbrev R : PySem.W.OpenRow := PySem.W.OpenLaw.row PySem.Challenge.rw_twoheads_k64_tallies
abbrev hk : PySem.W.Hook := hookA 6 fs fn ts
def ob (s : PySem.W.SharedT) : AlA := obsAG 6 fs fn ts (HandSHeadRun.getT s)
theorem ob_eq (s : PySem.W.SharedT) : ob s = hk.obs s.abs := obsAG_eq (HandSHeadRun.getT_eq s)
theorem run_f (w : World) : HandSHeadRun.RunEq R (PySem.W.view R.prog [22]) hk ob 9000 others (w.withFollow "special-get-raises" false) := by
  intro os
  kernel_rfl
theorem run_t (w : World) : HandSHeadRun.RunEq R (PySem.W.view R.prog [22]) hk ob 9000 others (w.withFollow "special-get-raises" true) := by
  intro os
  kernel_rfl
theorem run (w : World) : HandSHeadRun.RunEq R (PySem.W.view R.prog [22]) hk ob 9000 others w := PySem.W.byRow2 "special-get-raises" run_f run_t w
theorem facts {P : Program} {w : World} {K : Fg} {h : Heap} {mg : Str → Option Value} (X : K.In h) (G : h.Ns mainGlobals mg) (c : SaysA fs fn ts w K) :
    ∃ u : FuncData, (∀ (s : Shared) (v : Value), BindsTo s u ⟨[v], []⟩ [("_law_script", v)]) ∧ ∀ base : Heap, K.In base → base.Ns mainGlobals mg → FnG P w K mg base CX0 9 (ga K "law") u ["_law_script"] (spLaw K) := by
  obtain ⟨fd, D⟩ := c.defs (d0 := fn.headD (dF "law" 22)) rfl
  have T : Txt w K mg := ⟨c, fun x hx => He.glo_ok X G hx, fun x hx => He.free_ok X G hx, fun x i hx => He.int_ok X G hx, fun x z hx => He.str_ok X G hx⟩
  obtain ⟨e0, n0, KD0⟩ := c.tab 0 rfl
  have b : ∀ (s : Shared) (us : List Value), us.length = (["_law_script"] : List Str).length → BindsTo s (fd_law fd) ⟨us, []⟩ ((["_law_script"] : List Str).zip us) := FunD.bindsA (ps := ["_law_script"]) (F_law D) fun _ _ _ _ _ _ us hl => match us, hl with | [_], _ => rfl
  exact ⟨fd_law fd, fun s v => b s [v] rfl, fun base _ _ => G_law D KD0 T⟩
end K64
open PySem PySem.W PySem.Calls PyProof.Rows
set_option maxHeartbeats 0 in
theorem PySem.Challenge.cw_twoheads_k64_tallies_holds : PySem.Challenge.rw_twoheads_k64_tallies.Holds := by
  w_on; o_law
  refine HandSHeadRun.head_any (r := OpenLaw.row PySem.Challenge.rw_twoheads_k64_tallies) (q := view (OpenLaw.row PySem.Challenge.rw_twoheads_k64_tallies).prog [22]) (H := K64.hk) (ob := K64.ob) (M := 9000) (loose := K64.others) (d := HandSHeadRun.topDef (OpenLaw.row PySem.Challenge.rw_twoheads_k64_tallies).prog 22) (kwd := []) K64.ob_eq
    (by kernel_rfl) (fun s => by kernel_rfl) K64.run (by kernel_rfl) (by kernel_rfl) (by kernel_rfl) (by rfl) (by first | assumption | decide +kernel) (by decide +kernel) ⟨rfl, rfl, rfl, rfl, rfl, by decide +kernel⟩ ?hw ?hc
  case hw => w_witness2
  case hc =>
    refine Tw.walk_ofEG (l := PySem.Challenge.rw_twoheads_k64_tallies) (n := 63) (k := 9) (x := "_law_script") (CX := L2.CX0) rfl (by decide) (by kernel_rfl) ⟨rfl, by decide, by decide⟩ ?F (fun _ _ _ _ z => z)
    intro w mg fa h Y G hmg0
    obtain ⟨K, KX, c⟩ := Y
    have hmg : mg ("law" : PySem.Str) = some (.ref fa) := by
      have e : (HandSHeadRun.topDef (OpenLaw.row PySem.Challenge.rw_twoheads_k64_tallies).prog 22).name = ("law" : PySem.Str) := by kernel_rfl
      rw [← e]
      exact hmg0
    obtain ⟨fd, hb, hF⟩ := K64.facts (P := (PySem.Challenge.rw_twoheads_k64_tallies).prog) (w := w) KX G c
    have T0 : mg ("law" : PySem.Str) = some (.ref (He.ga K "law")) := He.glo_ok KX G (Tw.of_all (f := fun x => (He.Fa.glo x).ok K) (c.fact 1 rfl) (by decide +kernel))
    have ef : fa = He.ga K "law" := by
      rw [hmg] at T0
      exact Value.ref.inj (Option.some.inj T0)
    subst ef
    exact ⟨K, fd, K64.spLaw K, KX, hb, fun H a ns hl _ hS => ⟨a, ns, rfl, hS, hl, fun _ => rfl⟩, hF⟩
#print axioms PySem.Challenge.cw_twoheads_k64_tallies_holds
