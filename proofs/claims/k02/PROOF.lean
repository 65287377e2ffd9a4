import PyProof.Rows.All
import Wide.All
import OpenK.AllK
import Wide.FinOn
import HandS.Defaults
import HandS.Head0
import HandS.Head1
import HandS.Head2
import HandS.HeadEnd
import HandS.HeadHook1
import HandS.HeadHook2
import PyProof.StrLawsRepr
import PyProof.EqAt
import PyProof.EqKinds
import PyProof.TupleCall
import PyProof.ReprRoads
import KE.KExcIs
import HandS.ForMost
import HandS.Exc
import HandS.ExcInit
import HandS.ExcValue
import HandS.IsInst
import HandS.WordsExc
import HandS.SlotsOwn
import HandS.MakeKw
import HandS.MakeKwOnly
import KE.KCallOwn
import KE.KFmtOwn
import PyProof.Rows.StrMul
import HandS.FStr
import PySem.Challenge.RW_twoheads_k02_items
set_option Elab.async false
set_option linter.all false
set_option maxRecDepth 100000
set_option maxHeartbeats 8000000
/-! Tw, part 1: calls where no repr runs around; errors as values; errors kept behind their except suite. -/
namespace Tw
open PySem PySem.Spec PyProof.Rows L2

/-! ### no repr is running around -/
abbrev NoG (A : Around) : Prop := A.guards = some []
structure FnG (P : Program) (w : World) (K : PySem.W.Frag) (mg : Str → Option Value) (base : Heap) (CX : CXT) (k : Nat) (f : Addr) (fd : FuncData) (ps : List Str) (sp : Sp) : Prop where
  len : ∀ vs H Q E, sp vs H Q E → vs.length = ps.length
  run : ∀ (A : Around) (outer : List Env) (s : Shared) (H : Hp) (args : Args) (us : List Value) (vs : List V) (Q : VK) (E : XK), Room k A → NoG A → Env0 P w K mg base A outer s H →
    BindsTo s fd args (ps.zip us) → Vals vs us → sp vs H Q E → codeAny (model P w) A (.call (.ref f) args) (CR CX outer P w H s Q E) s
section
variable {P : Program} {w : World} {K : PySem.W.Frag} {mg : Str → Option Value} {base : Heap} {CX : CXT}
theorem FnG.of {k : Nat} {f : Addr} {fd : FuncData} {ps : List Str} {sp : Sp} (F : FnOk P w K mg base CX k f fd ps sp) : FnG P w K mg base CX k f fd ps sp :=
  ⟨F.len, fun A outer s H args us vs Q E hr _ => F.run A outer s H args us vs Q E hr⟩
theorem FnG.mono {j k : Nat} {f : Addr} {fd : FuncData} {ps : List Str} {sp : Sp} (F : FnG P w K mg base CX j f fd ps sp) (h : j ≤ k) : FnG P w K mg base CX k f fd ps sp :=
  ⟨F.len, fun A outer s H args us vs Q E hr => F.run A outer s H args us vs Q E (hr.mono h)⟩
/-- a def by its body, where no repr runs around -/
theorem fng {k : Nat} {f : Addr} {name qual : Str} {params : Arguments} {body : List Stmt} {scope : Scope} {dV kV doc pm cdv ct oc : Value} {an od : Option Addr} {osl : Array (Option Value)} {N ps : List Str} {sp : Sp}
    (lk : K.lookup f = some ⟨oc, od, .func (PySem.W.fnOf name qual params body scope dV kV doc pm an cdv ct), osl⟩) (hcd : PySem.W.codeIn K cdv qual = true) (S : FnScope N ps scope) (len : ∀ vs H Q E, sp vs H Q E → vs.length = ps.length)
    (hbody : ∀ (A : Around) (outer : List Env) (s : Shared) (H : Hp) (vs : List V) (Q : VK) (E : XK), Room k (A.deeper (envOfC qual scope s.heap.objs.size f cdv)) → NoG (A.deeper (envOfC qual scope s.heap.objs.size f cdv)) → sp vs H Q E →
      ∃ t, PSs (cxOf CX P w K mg base N qual scope f cdv A outer s H E) body t ∧ t { nx := fun _ H' => Q .non H', rt := Q } (start N vs) H) :
    FnG P w K mg base CX (k + 1) f (PySem.W.fnOf name qual params body scope dV kV doc pm an cdv ct) ps sp := by
  refine ⟨len, fun A outer s H args us vs Q E hr hg e0 hb r hsp => ?_⟩
  have at0 : ∀ b o, base.get? b = some o → s.heap.get? b = some o := fun b o e => (e0.bs b o e).1
  have hkind : ∀ y ∈ ps.zip us, scope.names.lookup y.1 = some .local ∨ (scope.names.lookup y.1 = some .cell ∧ ((cellsFrom (s.heap.objs.size + 1) scope.names []).lookup y.1).isSome = true) := by
    rintro ⟨n, v⟩ hy
    rcases S.par n (List.of_mem_zip hy).1 with q | q
    · exact .inl q
    · exact .inr ⟨q, PySem.W.cellsFrom_some _ _ _ (.inl q)⟩
  refine codeAny_call_function hr.depth ((e0.mod.kin.keeps at0) _ _ lk) rfl S.co S.gen rfl (PySem.W.codeRec_of (e0.mod.kin.keeps at0) hcd) (hb _ _ _ _ ?_)
  refine wpAny_newFunctionEnv_cells S.kind hkind fun env he s1 x => ?_
  subst he
  refine ⟨(e0.mod.nolimit.keeps at0).keeps x.toInCall.keep, codeAny_func ?_⟩
  obtain ⟨t, ht, hq⟩ := hbody A outer s H vs Q E (hr.deeper _) hg hsp
  refine wpAny_mono (ht.run [] s1 (start N vs) H _ (inv_start S hr.hd e0 (len _ _ _ _ hsp) r x) hq) (fun fl s' hs => ?_) fun e s' hs => hs
  cases fl with
  | ret u =>
    obtain ⟨v, σ', H', J, rv, q⟩ := hs
    exact ⟨v, H', J.os, J.bare, J.base, J.hok, rv, q⟩
  | next =>
    obtain ⟨σ', H', J, q⟩ := hs
    exact ⟨.non, H', J.os, J.bare, J.base, J.hok, rfl, q⟩
  | brk => exact hs.elim fun _ z => z.elim fun _ z => z.2.elim
  | cont => exact hs.elim fun _ z => z.elim fun _ z => z.2.elim
/-- the same for a def as the text has it -/
theorem _root_.L2.Fun.okG {x qual : Str} {st : Stmt} {f : Addr} {fd : FuncData} {N ps : List Str} {k : Nat} {sp : Sp} (F : Fun K x qual st f fd) (S : FnScope N ps (defScope st)) (len : ∀ vs H Q E, sp vs H Q E → vs.length = ps.length)
    (hbody : ∀ (cdv : Value) (A : Around) (outer : List Env) (s : Shared) (H : Hp) (vs : List V) (Q : VK) (E : XK), Room k (A.deeper (envOfC qual (defScope st) s.heap.objs.size f cdv)) → NoG (A.deeper (envOfC qual (defScope st) s.heap.objs.size f cdv)) → sp vs H Q E →
      ∃ t, PSs (cxOf CX0 P w K mg base N qual (defScope st) f cdv A outer s H E).nox (defBody st) t ∧ t { nx := fun _ H' => Q .non H', rt := Q } (start N vs) H) : FnG P w K mg base CX0 (k + 1) f fd ps sp := by
  obtain ⟨oc, od, kV, doc, pm, an, cdv, ct, osl, rfl, lk, hcd⟩ := F.ex
  refine fng lk hcd S len fun A outer s H vs Q E hr hg hsp => ?_
  obtain ⟨t, h, q⟩ := hbody cdv A outer s H vs Q E hr hg hsp
  exact ⟨t, h.nox, q⟩
end
section
variable {X : Cx} {CX : CXT} {k : Nat} {f : Addr} {fd : FuncData} {ps : List Str} {sp : Sp} {dvs : List V} {ds : List Value} {E : XK} {x : Str} {p pos : Pos} {e : Expr} {es : List Expr} {t : TA}
theorem run_fnG {pins : List (Addr × Obj)} {σ : L2.St} {H : Hp} {s : Shared} {Q : VK} {us : List Value} {vs : List V} (F : FnG X.prog X.w X.K X.mg X.base CX k f fd ps sp) (hr : Room k X.A) (hG : NoG X.A) (hb : Binds X.K fd ps ds) (hd : Vals dvs ds) (hx : Passes CX X E)
    (I : Inv X pins σ H s) (r : Vals vs us) (h : sp (vs ++ dvs) H Q E) : wpAny (model X.prog X.w) X.A (call (.ref f) us) (EP X pins σ Q) X.xe s := by
  have r2 : Vals (vs ++ dvs) (us ++ ds) := r.append hd
  have hl : (us ++ ds).length = ps.length := r2.length.symm.trans (F.len _ _ _ _ h)
  refine wpAny_call (codeAny_mono (F.run X.A X.stack s H ⟨us, []⟩ (us ++ ds) (vs ++ dvs) Q E hr hG I.env0 (hb s us I.kIn hl) r2 h) fun r s' hq => ?_)
  match r, hq with
  | .error e, hq => exact hx pins σ H s e s' I hq
  | .ok (.ret u), hq => exact I.after hq
/-- f(e, ..) -/
theorem pe_callG (F : FnG X.prog X.w X.K X.mg X.base CX k f fd ps sp) (hr : Room k X.A) (hG : NoG X.A) (hg : Gl X x) (hm : X.mg x = some (.ref f)) (hk : PySem.W.keepIn X.K (.ref f) = true) (hb : Binds X.K fd ps ds) (hd : Vals dvs ds) (hx : Passes CX X E)
    (ha : PA X (e :: es) t) (hdb : (x == ("__debug__" : Str)) = false := by decide) (he : starEach (e :: es) X.env = (false, eval e X.env) :: starEach es X.env := by rfl) (hpl : (backTo pos (starEach es X.env)).any (·.1) = false := by rfl) :
    PE X (.Call (.Name x p) (e :: es) [] pos) (tCall sp dvs E t) :=
  ⟨fun pins s σ H Q I h => wpAny_Call_Name_kw (ld_glob I hg hm (PySem.W.callWith_K (h₀ := X.base) I.ok.mod.kin hk (thn (ha.run pos pins s σ H _ I h) fun us s1 ⟨vs, H1, I1, r, q⟩ => ⟨I1.kIn, run_fnG F hr hG hb hd hx I1 r q⟩) he hpl) hdb)⟩
end
end Tw

/-! ### the law's end -/
namespace Tw
open PySem PySem.Spec PyProof.Rows L2
theorem law_endG {P : Program} {w : World} {K : PySem.W.Frag} {mg mb : Str → Option Value} {CX : CXT} {k : Nat} {fa a : Addr} {fd : FuncData} {x : Str} {sp : Sp} {s : Shared} {vs : List Value} {ns : List Int}
    (KX : K.In s.heap) (hns : s.heap.Ns mainGlobals mg) (hb : s.heap.Ns builtinsNs mb) (hbb : ∀ x : Str, x ≠ "__name__" → mb x = bootBuiltins x) (hlim : s.heap.NoLimit) (hg : s.gens = #[])
    (ha : s.heap.get? a = some { cls := .type "list", data := .seq vs.toArray }) (hi : IntsAre vs ns) (hl : ns.length ≤ sizeLine) (hr : Room k callerA)
    (F : ∀ base : Heap, K.In base → base.Ns mainGlobals mg → FnG P w K mg base CX k fa fd [x] sp) (hbind : ∀ (s : Shared) (u : Value), BindsTo s fd ⟨[u], []⟩ [(x, u)])
    (hsp : ∀ H : Hp, Only H → SqL K H a (ns.map V.int) → sp [.ref a] H (fun v _ => v = .bl true) fun _ _ _ => False)
    (hCX : ∀ H e s', CX [] H s (fun _ _ _ => False) e s' → False) :
    codeAny (model P w) callerA (.call (.ref fa) ⟨[.ref a], []⟩) (fun r s' => r = .ok (.ret (.bool true)) ∧ OldK s.heap s'.heap ∧ s'.os = s.os ∧ AllBare s'.gens) s := by
  have rv := vals_ints hi
  have lv := hi.length
  have go : ∀ H : Hp, Only H → SqL K H a (ns.map V.int) → HOk P w H s.heap → (∀ b, H b ≠ none → b = a) → (H a ≠ none → K.lookup a = none) →
      codeAny (model P w) callerA (.call (.ref fa) ⟨[.ref a], []⟩) (fun r s' => r = .ok (.ret (.bool true)) ∧ OldK s.heap s'.heap ∧ s'.os = s.os ∧ AllBare s'.gens) s := by
    intro H hO hS hok hA hK
    have none_of : ∀ {b : Addr}, b ≠ a → H b = none := fun {b} hb => by
      cases q : H b with
      | none => rfl
      | some u => exact absurd (hA b (by rw [q]; exact Option.some_ne_none u)) hb
    have noD : ∀ {b : Addr} {o : Obj} {es : Array DictEntry} {ep : Nat}, s.heap.get? b = some o → o.data = .dict es ep → H b = none := fun {b o es ep} e d => none_of fun z => by
      rw [z, ha] at e
      have e2 := Option.some.inj e
      rw [← e2] at d
      cases d
    have nsK : ∀ {b : Addr} {m : Str → Option Value}, s.heap.Ns b m → (hidT s.heap H).Ns b m := fun {b m} ⟨o, es, ep, e, d, r⟩ => ⟨o, es, ep, hidT_get e (noD e d), d, r⟩
    have hKb : K.In (hidT s.heap H) := fun b o e => hidT_get (KX b o e) (by
      by_cases hb : b = a
      · cases q : H b with
        | none => rfl
        | some u =>
          subst hb
          have z := hK (by rw [q]; exact Option.some_ne_none u)
          rw [z] at e
          cases e
      · exact none_of hb)
    have hM : Mod K mg (hidT s.heap H) := ⟨hKb, nsK hns, ⟨mb, nsK hb, hbb⟩, hlim.elim fun mc z => ⟨mc, nsK z.1, z.2⟩⟩
    have e0 : Env0 P w K mg (hidT s.heap H) callerA [] s H := ⟨rfl, hM, fun b o e => of_hidT e, Nat.le_of_eq (hidT_size _ _), trivial, (fun b hb => nomatch hb), hok, .of_eq hg⟩
    refine codeAny_mono ((F _ hKb (nsK hns)).run callerA [] s H ⟨[.ref a], []⟩ [.ref a] [.ref a] _ _ hr rfl e0 (hbind s (.ref a)) (.cons rfl .nil) (hsp H hO hS)) fun r s' h => ?_
    match r, h with
    | .error e, h => exact (hCX H e s' h).elim
    | .ok (.ret u), h =>
      obtain ⟨v, H', os, bare, un, hok', rv', q⟩ := h
      have q' : v = .bl true := q
      subst q'
      obtain rfl : u = Value.bool true := rv'
      refine ⟨rfl, OldK.of_keep fun b o e => ?_, os, bare⟩
      cases q : H b with
      | none => exact un.keep b o e q (fun z => nomatch z) (fun z => nomatch z)
      | some u =>
        rcases hO b with z | ⟨ob, xs, z⟩
        · rw [q] at z
          cases z
        · obtain ⟨e1, _⟩ := hok b _ z
          obtain ⟨e2, _⟩ := hok' b _ (un.frzs b ob _ z)
          rw [e] at e1
          cases e1
          exact e2
  cases hk : K.lookup a with
  | some o =>
    have e := KX a o hk
    rw [ha] at e
    cases e
    exact go (fun _ => none) (fun _ => .inl rfl) (.inr ⟨_, vs.toArray, _, hk, rfl, rfl, rfl, by rw [List.size_toArray, lv]; exact hl, by simpa using rv⟩) (fun b u z => nomatch z) (fun b z => absurd rfl z) fun z => absurd rfl z
  | none =>
    have at1 : (fun b => if b = a then some (HO.frz { cls := .type "list", data := .seq vs.toArray } (.lst (ns.map V.int))) else none : Hp) a = some (HO.frz { cls := .type "list", data := .seq vs.toArray } (.lst (ns.map V.int))) := if_pos rfl
    refine go (fun b => if b = a then some (.frz { cls := .type "list", data := .seq vs.toArray } (.lst (ns.map V.int))) else none) (fun b => ?_) (.inl (.inr ⟨_, at1⟩)) (fun b u z => ?_) (fun b z => ?_) fun _ => hk
    · by_cases hb : b = a
      · exact .inr ⟨_, _, if_pos hb⟩
      · exact .inl (if_neg hb)
    · by_cases hb : b = a
      · subst hb
        rw [at1] at z
        cases z
        exact ⟨ha, by rw [List.length_map]; exact hl, vs, _, rv, ha⟩
      · have z' := (if_neg hb).symm.trans z
        cases z'
    · by_cases hb : b = a
      · exact hb
      · exact absurd (if_neg hb) z
theorem walk_ofG {l : PySem.W.OpenLaw} {n k : Nat} {q : Program} {loose : List Str} {XP : (Str → Option Value) → Heap → Prop} {YP : World → Heap → Prop} {d : DefRec} {K : Params → PySem.W.Frag} {CX : World → CXT} {sp : World → Sp} {x : Str}
    (hn : l.most = some n) (hn2 : n ≤ sizeLine) (hdf : d.params.defaults = []) (hr : Room k callerA) (hY : ∀ (w : World) (h : Heap), YP w h → (K w.params).In h)
    (F : ∀ (w : World) (mg : Str → Option Value) (fa : Addr) (h : Heap), (K w.params).In h → h.Ns mainGlobals mg → mg d.name = some (.ref fa) →
      ∃ fd : FuncData, (∀ (s : Shared) (u : Value), BindsTo s fd ⟨[u], []⟩ [(x, u)]) ∧ ∀ base : Heap, (K w.params).In base → base.Ns mainGlobals mg → FnG l.prog w (K w.params) mg base (CX w) k fa fd [x] (sp w))
    (hsp : ∀ (w : World) (H : Hp) (a : Addr) (ns : List Int), ns.length ≤ n → Only H → SqL (K w.params) H a (ns.map V.int) → sp w [.ref a] H (fun v _ => v = .bl true) fun _ _ _ => False)
    (hCX : ∀ (w : World) (H : Hp) (s : Shared) (e : Value) (s' : Shared), CX w [] H s (fun _ _ _ => False) e s' → False) :
    PySem.W.WalkO q loose XP YP l.row.toRowW d [] (fun f vs => PySem.call f vs) := by
  refine Att.attach_call hn hdf fun w s₀ s₁ mg mb fa o pm cd doc a vs ns G Y ho hd hcd hmg hobj hints hlen hg => ?_
  obtain ⟨fd, hb, hF⟩ := F w mg fa _ (hY w _ Y) G.T.g hmg
  exact law_endG (hY w _ Y) G.T.g G.T.b G.T.builtins G.T.nolimit hg hobj hints (Nat.le_trans hlen hn2) hr hF hb (fun H hO hS => hsp w H a ns hlen hO hS) fun H e s' => hCX w H s₁ e s'
end Tw
/-! Tw, part 2: repr of data. -/
namespace Tw
open PySem PySem.Spec PyProof.Rows L2

/-! ### how long a repr may be -/
mutual
def cap : PyData → Nat
  | .none => 4
  | .bool _ => 5
  | .int _ => 1921
  | .str x => 10 * x.length + 2
  | .list xs => 2 + capAll xs
  | .tuple xs => 3 + capAll xs
  | .dict kvs => 2 + capKv kvs
def capAll : List PyData → Nat
  | [] => 0
  | x :: xs => cap x + 2 + capAll xs
def capKv : List (PyData × PyData) → Nat
  | [] => 0
  | (k, v) :: r => cap k + 4 + cap v + capKv r
end
mutual
/-- ints of moderate size, texts of plain signs -/
def mild : PyData → Bool
  | .none | .bool _ => true
  | .int i => decide (i.natAbs.log2 < 1920)
  | .str x => x.cps.toList.all fun c => decide (c < 16 ^ 8)
  | .list xs | .tuple xs => mildAll xs
  | .dict kvs => mildKv kvs
def mildAll : List PyData → Bool
  | [] => true
  | x :: xs => mild x && mildAll xs
def mildKv : List (PyData × PyData) → Bool
  | [] => true
  | (k, v) :: r => mild k && (mild v && mildKv r)
end
mutual
theorem mild_show : ∀ d : PyData, mild d = true → d.showable = true
  | .none, _ => rfl
  | .bool _, _ => rfl
  | .str _, _ => rfl
  | .int i, h => by simpa [mild, PyData.showable] using h
  | .list xs, h => by
    simp only [PyData.showable]
    exact mild_showAll xs (by simpa [mild] using h)
  | .tuple xs, h => by
    simp only [PyData.showable]
    exact mild_showAll xs (by simpa [mild] using h)
  | .dict kvs, h => by
    simp only [PyData.showable]
    exact mild_showKv kvs (by simpa [mild] using h)
theorem mild_showAll : ∀ xs : List PyData, mildAll xs = true → PyData.showableAll xs = true
  | [], _ => rfl
  | x :: xs, h => by
    have h2 := Bool.and_eq_true_iff.mp (show (mild x && mildAll xs) = true by simpa [mildAll] using h)
    simp only [PyData.showableAll, mild_show x h2.1, mild_showAll xs h2.2, Bool.and_self]
theorem mild_showKv : ∀ kvs : List (PyData × PyData), mildKv kvs = true → PyData.showableKv kvs = true
  | [], _ => rfl
  | (k, v) :: r, h => by
    have h2 := Bool.and_eq_true_iff.mp (show (mild k && (mild v && mildKv r)) = true by simpa [mildKv] using h)
    have h3 := Bool.and_eq_true_iff.mp h2.2
    simp only [PyData.showableKv, mild_show k h2.1, mild_show v h3.1, mild_showKv r h3.2, Bool.and_self]
end
theorem textFrom_le : ∀ (ts : List Str) (k : Nat) (acc : Str), (textFrom k acc ts).length ≤ acc.length + piled ts
  | [], k, acc => by
    show acc.length ≤ acc.length + _
    omega
  | t :: r, k, acc => by
    have ih := textFrom_le r (k + 1) (acc ++ (if k > 0 then ", " else "" : String) ++ t)
    rw [piled_cons]
    show (textFrom (k + 1) (acc ++ (if k > 0 then ", " else "" : String) ++ t) r).length ≤ _
    rw [strLen_append, strLen_append] at ih
    have e : (Str.ofString (if k > 0 then ", " else "" : String)).length ≤ 2 := by
      by_cases hk : k > 0
      · rw [if_pos hk]; decide
      · rw [if_neg hk]; decide
    have e' : ((if k > 0 then ", " else "" : String) : Str).length ≤ 2 := e
    omega
theorem join_le (ts : List Str) : (Str.join ", " ts).length ≤ piled ts := by
  by_cases h : ts = []
  · subst h
    decide
  · have := join_length_add ts h
    omega
theorem piled_le : ∀ (xs : List PyData) (ts : List Str), ts.length = xs.length → (∀ (i : Nat) (x : PyData) (t : Str), xs[i]? = some x → ts[i]? = some t → t.length ≤ cap x) → piled ts ≤ capAll xs
  | [], [], _, _ => Nat.le_refl _
  | x :: xs, t :: ts, hl, h => by
    have h1 := h 0 x t rfl rfl
    have h2 := piled_le xs ts (by simpa using hl) fun i y u e1 e2 => h (i + 1) y u (by simpa using e1) (by simpa using e2)
    rw [piled_cons]
    simp only [capAll]
    omega
  | [], _ :: _, hl, _ => by simp at hl
  | _ :: _, [], hl, _ => by simp at hl
mutual
theorem shown_le : ∀ d : PyData, mild d = true → d.shown.length ≤ cap d
  | .none, _ => by simp only [PyData.shown, cap]; decide
  | .bool b, _ => by
    simp only [PyData.shown, cap]
    cases b <;> decide
  | .int i, h => by
    have h2 : i.natAbs.log2 < 1920 := by simpa [mild] using h
    have e := int_text_length_le (a := i) (k := 1920) (by decide) h2
    simp only [PyData.shown, cap]
    show (Str.ofString (toString i)).length ≤ 1921
    rw [PySem.ofString_length]
    exact e
  | .str x, h => by
    simp only [PyData.shown, cap]
    exact PySem.StrLaws.reprText_len x fun c hc => of_decide_eq_true (List.all_eq_true.mp (show (x.cps.toList.all fun c => decide (c < 16 ^ 8)) = true by simpa [mild] using h) c hc)
  | .list xs, h => by
    have h2 := shownAll_le xs (by simpa [mild] using h)
    simp only [PyData.shown, cap]
    have e := textFrom_le (PyData.shownAll xs) 0 "["
    unfold listText
    rw [strLen_append]
    have e1 : ("[" : Str).length = 1 := by decide
    have e2 : ("]" : Str).length = 1 := by decide
    omega
  | .tuple xs, h => by
    have h2 := shownAll_le xs (by simpa [mild] using h)
    simp only [PyData.shown, cap]
    have e := join_le (PyData.shownAll xs)
    unfold tupleText
    rw [strLen_append, strLen_append]
    have e1 : ("(" : Str).length = 1 := by decide
    have e2 : ((if (PyData.shownAll xs).length == 1 then ",)" else ")" : String) : Str).length ≤ 2 := by
      cases (PyData.shownAll xs).length == 1 <;> decide
    omega
  | .dict kvs, h => by
    have h2 := shownKv_le kvs (by simpa [mild] using h)
    simp only [PyData.shown, cap]
    have e := join_le (PyData.shownKv kvs)
    unfold dictText
    rw [strLen_append, strLen_append]
    have e1 : ("{" : Str).length = 1 := by decide
    have e2 : ("}" : Str).length = 1 := by decide
    omega
theorem shownAll_le : ∀ xs : List PyData, mildAll xs = true → piled (PyData.shownAll xs) ≤ capAll xs
  | [], _ => by simp only [PyData.shownAll, capAll]; decide
  | x :: xs, h => by
    have h2 := Bool.and_eq_true_iff.mp (show (mild x && mildAll xs) = true by simpa [mildAll] using h)
    have a := shown_le x h2.1
    have b := shownAll_le xs h2.2
    simp only [PyData.shownAll, capAll, piled_cons]
    omega
theorem shownKv_le : ∀ kvs : List (PyData × PyData), mildKv kvs = true → piled (PyData.shownKv kvs) ≤ capKv kvs
  | [], _ => by simp only [PyData.shownKv, capKv]; decide
  | (k, v) :: r, h => by
    have h2 := Bool.and_eq_true_iff.mp (show (mild k && (mild v && mildKv r)) = true by simpa [mildKv] using h)
    have h3 := Bool.and_eq_true_iff.mp h2.2
    have a := shown_le k h2.1
    have b := shown_le v h3.1
    have c := shownKv_le r h3.2
    simp only [PyData.shownKv, capKv, piled_cons]
    rw [strLen_append, strLen_append]
    have e1 : (": " : Str).length = 2 := by decide
    omega
end

/-! ### data in the abstract heap, with flat dicts -/
def keyD : Key → PyData
  | .inl i => .int i
  | .inr x => .str x
mutual
inductive Dx (K : PySem.W.Frag) (H : Hp) : V → PyData → Prop
  | non : Dx K H .non .none
  | bl (b : Bool) : Dx K H (.bl b) (.bool b)
  | int (i : Int) : Dx K H (.int i) (.int i)
  | str (x : Str) : Dx K H (.str x) (.str x)
  | lst {a : Addr} {xs : List V} {ds : List PyData} : SqL K H a xs → a ≠ sysModules → DxAll K H xs ds → Dx K H (.ref a) (.list ds)
  | tup {a : Addr} {xs : List V} {ds : List PyData} : SqT K H a xs → DxAll K H xs ds → Dx K H (.ref a) (.tuple ds)
  | dic {a : Addr} {kvs : List (Key × V)} {ds : List PyData} : H a = some (.dK kvs) → DxAll K H (kvs.map (·.2)) ds → Dx K H (.ref a) (.dict ((kvs.map fun p => keyD p.1).zip ds))
inductive DxAll (K : PySem.W.Frag) (H : Hp) : List V → List PyData → Prop
  | nil : DxAll K H [] []
  | cons {v : V} {vs : List V} {d : PyData} {ds : List PyData} : Dx K H v d → DxAll K H vs ds → DxAll K H (v :: vs) (d :: ds)
end
section
variable {X : Cx} {pins : List (Addr × Obj)} {σ : L2.St} {H : Hp} {s : Shared}
theorem DxAll.len : ∀ {vs : List V} {ds : List PyData}, DxAll X.K H vs ds → vs.length = ds.length
  | [], _, .nil => rfl
  | _ :: _, _, .cons _ t => by
    have := DxAll.len t
    simp [this]
theorem readsAll_keys {h : Heap} : ∀ {kvs : List (Key × V)} {ws : List (Key × Value)} {es : List DictEntry}, KV kvs ws → Pairs (mixKind X.prog X.w) es ws → ReadsAll h (es.map (·.key)) (kvs.map fun p => keyD p.1) []
  | [], _, _, .nil, .nil => .nil
  | (k, v) :: kvs, (k', u) :: ws, e :: es, .cons r t, .cons a b q => by
    obtain ⟨r1, r2⟩ := r
    have ih := readsAll_keys (h := h) t q
    have hk : keyIs k' e.key = true := a
    have r1' : k = k' := r1
    subst r1'
    rcases keyIs_shape hk with ⟨i, tk, e1, e2⟩ | ⟨x, tk, e1, e2⟩
    · subst e1
      show ReadsAll h (e.key :: es.map (·.key)) (PyData.int i :: _) ([] ++ [])
      rw [e2]
      exact .cons (.int i tk) ih
    · subst e1
      show ReadsAll h (e.key :: es.map (·.key)) (PyData.str x :: _) ([] ++ [])
      rw [e2]
      exact .cons (.str x tk) ih
theorem vals_of_pairs : ∀ {kvs : List (Key × V)} {ws : List (Key × Value)} {es : List DictEntry}, KV kvs ws → Pairs (mixKind X.prog X.w) es ws → Vals (kvs.map (·.2)) (es.map (·.val))
  | [], _, _, .nil, .nil => .nil
  | (k, v) :: kvs, (k', u) :: ws, e :: es, .cons r t, .cons a b q => by
    obtain ⟨r1, r2⟩ := r
    refine .cons ?_ (vals_of_pairs t q)
    have b' : e.val = u := b
    show RelV v e.val
    rw [b']
    exact r2
theorem map_fst_zip' {α β : Type} : ∀ {l : List α} {m : List β}, l.length = m.length → (l.zip m).map (·.1) = l
  | [], [], _ => rfl
  | _ :: l, _ :: m, h => by
    have := map_fst_zip' (l := l) (m := m) (by simpa using h)
    simp [this]
  | [], _ :: _, h => by simp at h
  | _ :: _, [], h => by simp at h
theorem map_snd_zip' {α β : Type} : ∀ {l : List α} {m : List β}, l.length = m.length → (l.zip m).map (·.2) = m
  | [], [], _ => rfl
  | _ :: l, _ :: m, h => by
    have := map_snd_zip' (l := l) (m := m) (by simpa using h)
    simp [this]
  | [], _ :: _, h => by simp at h
  | _ :: _, [], h => by simp at h
mutual
theorem Dx.reads (I : Inv X pins σ H s) : ∀ {v : V} {d : PyData} {u : Value}, Dx X.K H v d → RelV v u → ∃ as, Reads s.heap u d as ∧ sysModules ∉ as
  | _, _, _, .non, r => by
    cases r
    exact ⟨_, Reads.none, fun z => nomatch z⟩
  | _, _, _, .bl b, r => by
    cases r
    exact ⟨_, Reads.bool b, fun z => nomatch z⟩
  | _, _, _, .int i, r => by
    obtain ⟨t, rfl⟩ := r
    exact ⟨_, Reads.int i t, fun z => nomatch z⟩
  | _, _, _, .str x, r => by
    obtain ⟨t, rfl⟩ := r
    exact ⟨_, Reads.str x t, fun z => nomatch z⟩
  | _, _, _, .lst (a := a) hs hne ha, r => by
    cases r
    obtain ⟨its, rv, ⟨o, n, ho, hc, _, hd⟩, _⟩ := I.list hs
    obtain ⟨as, hr, hn⟩ := DxAll.reads I ha rv
    refine ⟨_, Reads.list ho hc hd hr, fun z => ?_⟩
    rcases List.mem_cons.mp z with z | z
    · exact hne z.symm
    · exact hn z
  | _, _, _, .tup hs ha, r => by
    cases r
    obtain ⟨its, rv, ⟨o, ho, hc, n, hd⟩, _⟩ := I.tuple hs
    obtain ⟨as, hr, hn⟩ := DxAll.reads I ha rv
    exact ⟨_, Reads.tuple ho hc hd hr, hn⟩
  | _, _, _, .dic (kvs := kvs) hs ha, r => by
    cases r
    obtain ⟨_, hsys, ws, hkv, o, es, ep, ho, hx, hd, _, hp, _⟩ := I.hok _ _ hs
    have hl := DxAll.len (X := X) ha
    have rv := vals_of_pairs (X := X) hkv hp
    obtain ⟨as, hr, hn⟩ := DxAll.reads I ha rv
    have hk := readsAll_keys (h := s.heap) hkv hp
    refine ⟨_, Reads.dict ho hx.1 hd (as := []) (bs := as) (by rw [map_fst_zip' (by rw [List.length_map, ← hl, List.length_map])]; exact hk) (by rw [map_snd_zip' (by rw [List.length_map, ← hl, List.length_map])]; exact hr), fun z => ?_⟩
    rcases List.mem_cons.mp (by simpa using z) with z | z
    · rw [← z] at hsys
      simp at hsys
    · exact hn z
theorem DxAll.reads (I : Inv X pins σ H s) : ∀ {vs : List V} {ds : List PyData} {us : List Value}, DxAll X.K H vs ds → Vals vs us → ∃ as, ReadsAll s.heap us ds as ∧ sysModules ∉ as
  | _, _, _, .nil, .nil => ⟨_, .nil, fun z => nomatch z⟩
  | _, _, _, .cons h t, .cons r q => by
    obtain ⟨as, h1, n1⟩ := Dx.reads I h r
    obtain ⟨bs, h2, n2⟩ := DxAll.reads I t q
    exact ⟨_, .cons h1 h2, fun z => (List.mem_append.mp z).elim n1 n2⟩
end
end
end Tw

/-! ### the rules -/
namespace Tw
open PySem PySem.Spec PyProof.Rows L2
theorem boot_repr : bootBuiltins "repr" = some (.builtin "repr") := by decide +kernel
section
variable {X : Cx}
/-- repr(x), x a list or a tuple of data -/
def rRepr (K : PySem.W.Frag) : List V → Hp → VK → Prop := fun xs H Q => ∃ (a : Addr) (d : PyData), xs = [.ref a] ∧ Dx K H (.ref a) d ∧ mild d = true ∧ d.depth ≤ 64 ∧ cap d ≤ 16777216 ∧ Q (.str d.shown) H
theorem call_repr (hG : NoG X.A) (hu : X.A.units + 70 < cLine) : CallR X (.builtin "repr") (rRepr X.K) := by
  intro pins s σ H xs us Q I r h
  obtain ⟨a, d, rfl, hd, hm, hdp, hc, q⟩ := h
  obtain ⟨u, rfl, ru⟩ := vals1 r
  obtain ⟨as, hr, hn⟩ := Dx.reads I hd ru
  cases (show u = Value.ref a from ru)
  exact repr_of_reads' hr (mild_show d hm) (fun _ => hn) hG (by omega) (fun _ _ e => e) (fun h' u tk hk => ⟨.str d.shown, H, I.kept (t' := tk) hk, ⟨_, rfl⟩, q⟩) (Nat.le_trans (shown_le d hm) (by rw [sizeLine_eq]; exact hc))
mutual
theorem dp_reads {pins : List (Addr × Obj)} {σ : L2.St} {H : Hp} {s : Shared} (I : Inv X pins σ H s) : ∀ {v : V} {d : PyData}, Dp X.K H v d → d.hasDict = false
  | _, _, .non => by simp only [PyData.hasDict]
  | _, _, .bl _ => by simp only [PyData.hasDict]
  | _, _, .int _ => by simp only [PyData.hasDict]
  | _, _, .str _ => by simp only [PyData.hasDict]
  | _, _, .lst _ ha => by
    simp only [PyData.hasDict]
    exact dpAll_reads I ha
  | _, _, .tup _ ha => by
    simp only [PyData.hasDict]
    exact dpAll_reads I ha
theorem dpAll_reads {pins : List (Addr × Obj)} {σ : L2.St} {H : Hp} {s : Shared} (I : Inv X pins σ H s) : ∀ {vs : List V} {ds : List PyData}, DpAll X.K H vs ds → PyData.hasDictAll ds = false
  | _, _, .nil => by simp only [PyData.hasDictAll]
  | _, _, .cons h t => by simp only [PyData.hasDictAll, dp_reads I h, dpAll_reads I t, Bool.or_self]
end
def rReprD (K : PySem.W.Frag) : List V → Hp → VK → Prop := fun xs H Q => ∃ (a : Addr) (d : PyData), xs = [.ref a] ∧ Dp K H (.ref a) d ∧ mild d = true ∧ d.depth ≤ 64 ∧ cap d ≤ 16777216 ∧ Q (.str d.shown) H
theorem call_reprD (hG : NoG X.A) (hu : X.A.units + 70 < cLine) : CallR X (.builtin "repr") (rReprD X.K) := by
  intro pins s σ H xs us Q I r h
  obtain ⟨a, d, rfl, hd, hm, hdp, hc, q⟩ := h
  obtain ⟨u, rfl, ru⟩ := vals1 r
  obtain ⟨as, hr⟩ := Dp.reads I d _ u hd ru
  cases (show u = Value.ref a from ru)
  exact repr_of_reads' hr (mild_show d hm) (PyData.noDict_hsm (dp_reads I hd)) hG (by omega) (fun _ _ e => e) (fun h' u tk hk => ⟨.str d.shown, H, I.kept (t' := tk) hk, ⟨_, rfl⟩, q⟩) (Nat.le_trans (shown_le d hm) (by rw [sizeLine_eq]; exact hc))
/-! ### lists that are known to stand elsewhere than the table of modules -/
variable {es : List Expr} {t : TA} {pos : Pos}
def tLstB (t : TA) : TE := fun σ H Q => t σ H fun xs H1 => xs.length ≤ sizeLine ∧ ∀ p, H1 p = none → p ≠ sysModules → Q (.ref p) (upd H1 p (.lst xs))
theorem pe_lstB (h : PA X es t) : PE X (.List es pos) (tLstB t) := by
  refine ⟨fun pins s σ H Q I hq => wpAny_List_spliced (thn (h.run pos pins s σ H _ I hq) fun us s1 ⟨xs, H1, I1, r, z, q⟩ => ⟨by rw [← r.length]; exact z, ?_⟩)⟩
  exact ⟨.ref s1.heap.objs.size, upd H1 s1.heap.objs.size (.lst xs), I1.laid (t' := s1.toks) (fun b u e => Heap.get?_push_of_some _ e) (Nat.le_refl _) ⟨z, us, 0, r, Heap.get?_push_size _ rfl⟩, rfl, q _ (I1.hok.fresh (Nat.le_refl _)) (Nat.ne_of_gt I1.big)⟩
def rCatB : R2 := fun x y H Q => ∃ l b xs zs, x = .ref l ∧ y = .ref b ∧ H l = some (.lst xs) ∧ H b = some (.lst zs) ∧ xs.length + zs.length ≤ sizeLine ∧ ∀ p, H p = none → p ≠ sysModules → Q (.ref p) (upd H p (.lst (xs ++ zs)))
theorem op_catB : OpR X (binaryOp .Add) rCatB := by
  intro pins s σ H x y v u Q I rx ry h
  obtain ⟨l, b, xs, zs, rfl, rfl, hH, hB, hz, q⟩ := h
  cases rx
  cases ry
  obtain ⟨z, its, n, r, hl, e⟩ := I.lstM hH
  obtain ⟨z2, its2, n2, r2, hl2, e2⟩ := I.lstM hB
  refine PySem.P.add_list e e2 ?_ (by rw [List.size_toArray, List.size_toArray]; omega)
  rw [show its.toArray ++ its2.toArray = (its ++ its2).toArray by simp]
  exact ⟨.ref _, _, I.lnew (t' := s.toks) (r.append r2) (by rw [List.length_append]; omega), rfl, q _ I.fresh (Nat.ne_of_gt I.big)⟩
end
end Tw
/-! Tw, part 3: errors of own classes as values. -/
namespace Tw
open PySem PySem.Spec PyProof.Rows L2

/-- at a: an error of the class at C (made or caught), its own dict at d -/
def exT (a C : Addr) (d : Option Addr) : HO := .ext fun h => ∃ (oe : Obj) (vs : Array Value), h.get? a = some oe ∧ Zc (.ref C) d oe ∧ oe.data = .fields vs
theorem exT_ok {P : Program} {w : World} {H : Hp} {h : Heap} {a C : Addr} {d : Option Addr} {oe : Obj} {vs : Array Value} (e : h.get? a = some oe) (z : Zc (.ref C) d oe) (hd : oe.data = .fields vs) : ObjOk P w H h a (exT a C d) :=
  ⟨⟨oe, vs, e, z, hd⟩, ⟨oe, e⟩, fun _ _ ⟨o, v, q, r⟩ k => ⟨o, v, k o q, r⟩⟩
def IsX (H : Hp) (a C : Addr) (d : Option Addr) : Prop := H a = some (exo a C d) ∨ H a = some (exT a C d)
def IsXd (H : Hp) (d : Addr) (fs : List (Str × V)) : Prop := H d = some (exd d fs) ∨ H d = some (.xd fs)
theorem IsX.get {P : Program} {w : World} {H : Hp} {h : Heap} {a C : Addr} {d : Option Addr} (hok : HOk P w H h) (x : IsX H a C d) : ∃ (oe : Obj) (vs : Array Value), h.get? a = some oe ∧ Zc (.ref C) d oe ∧ oe.data = .fields vs := by
  rcases x with e | e
  · obtain ⟨t1, q⟩ := exo_at hok e
    exact ⟨_, _, q, ⟨rfl, rfl⟩, rfl⟩
  · have x : ObjOk P w H h a (.ext fun h => ∃ (oe : Obj) (vs : Array Value), h.get? a = some oe ∧ Zc (.ref C) d oe ∧ oe.data = .fields vs) := hok a _ e
    exact x.1
theorem IsXd.get {P : Program} {w : World} {H : Hp} {h : Heap} {d : Addr} {fs : List (Str × V)} (hok : HOk P w H h) (x : IsXd H d fs) : ∃ mA, h.Ns1 d mA ∧ ∀ f, RelO (fs.lookup f) (mA f) := by
  rcases x with e | e
  · exact exd_at hok e
  · exact (show ObjOk P w H h d (.xd fs) from hok d _ e)
theorem IsX.same {H H' : Hp} {a C : Addr} {d : Option Addr} (e : Same H H') (x : IsX H a C d) : IsX H' a C d := x.imp (e _ _) (e _ _)
theorem IsXd.same {H H' : Hp} {d : Addr} {fs : List (Str × V)} (e : Same H H') (x : IsXd H d fs) : IsXd H' d fs := x.imp (e _ _) (e _ _)

/-- what the written part says of an error class -/
structure XC (K : PySem.W.Frag) (C : Addr) : Prop where
  ox : OexC K C
  ga : PySem.W.findIn K (.ref C) "__getattribute__" = some (some (.builtin "BaseException.__getattribute__"))
  gg : PySem.W.findIn K (.ref C) "__getattr__" = some none
  hd : PySem.W.hasDictIn K C = true
  ca : PySem.W.findIn K (.ref C) "__class__" = some (some (.builtin "object.__class__"))
  cm : PySem.W.mroIn K C (.type "object") = some true
/-- what it says of object.__class__ -/
structure XO (K : PySem.W.Frag) : Prop where
  hn : PySem.W.specialIn K (.builtin "object.__class__") "__get__" = some (some (.builtin "getset_descriptor.__get__"))
  ht : PySem.W.takesIn K (.builtin "object.__class__") = some true
theorem oexC_cl {K : PySem.W.Frag} {C : Addr} (T : OexC K C) : (PySem.W.clsIn K C).isSome = true := by
  obtain ⟨nm, q, N, bs, bm, sn, sub, ab, col, dd, k0, k1, k2, k3, k5, hC, _⟩ := T.cls
  unfold PySem.W.clsIn
  rw [hC]
  rfl
section
variable {X : Cx} {CX : CXT} {k : Nat} {fI C : Addr} {fd : FuncData} {ps : List Str} {sp : Sp} {dvs : List V} {ds : List Value} {E : XK} {x f : Str} {p pos : Pos} {e : Expr} {es : List Expr} {ta : TA} {te : TE}
/-- C(e, ..) as a value, C an error class whose __init__ keeps sp -/
def tMkX (C : Addr) (sp : Sp) (dvs : List V) (ta : TA) : TE := fun σ H Q => ta σ H fun vs H1 => vs.length ≤ 1000 ∧ ∀ a, H1 a = none → sp (.ref a :: (vs ++ dvs)) (upd H1 a (exo a C none)) (fun v H2 => v = .non ∧ Q (.ref a) H2) (fun _ _ _ => False)
theorem pe_mkX (T : OexC X.K C) (iC : PySem.W.findIn X.K (.ref C) "__init__" = some (some (.ref fI))) (tI : PySem.W.typeIn X.K (.ref fI) = some (.type "function"))
    (F1 : FnOk X.prog X.w X.K X.mg X.base CX k fI fd ps sp) (hr : Room (k + 1) X.A) (hb : Binds X.K fd ps ds) (hd : Vals dvs ds) (hx : Passes CX X (fun _ _ _ => False)) (hg : Gl X x) (hm : X.mg x = some (.ref C)) (ha : PA X (e :: es) ta)
    (hdb : (x == ("__debug__" : Str)) = false := by decide) (he : starEach (e :: es) X.env = (false, eval e X.env) :: starEach es X.env := by rfl) (hpl : (backTo pos (starEach es X.env)).any (·.1) = false := by rfl) :
    PE X (.Call (.Name x p) (e :: es) [] pos) (tMkX C sp dvs ta) := by
  refine ⟨fun pins s σ H Q I h => ?_⟩
  obtain ⟨nm, q, N, bs, bm, sn, sub, ab, col, dd, k0, k1, k2, k3, k5, hC, hbm⟩ := T.cls
  refine wpAny_Call_Name_kw (ld_glob I hg hm ?_ hdb)
  refine PySem.W.callWith_K (h₀ := X.base) I.ok.mod.kin T.kC (thn (ha.run pos pins s σ H _ I h) fun us s1 ⟨vs, H1, I1, r1, hz, q1⟩ => ⟨I1.kIn, ?_⟩) he hpl
  show wpAny _ _ (call (.ref C) us) _ _ _
  obtain ⟨hp, g, dr, tk, os⟩ := s1
  have hsz : hp.objs.size ≤ hp.objs.size + 1 := Nat.le_succ _
  have hq := q1 (hp.objs.size + 1) (I1.hok.fresh hsz)
  have kk : ∀ b o, hp.get? b = some o → ((hp.push (PySem.W.kdv_tup us)).push (PySem.HandSPX.excO C hp.objs.size)).get? b = some o := fun b o z => Heap.get?_push_of_some _ (Heap.get?_push_of_some _ z)
  have hget : ((hp.push (PySem.W.kdv_tup us)).push (PySem.HandSPX.excO C hp.objs.size)).get? (hp.objs.size + 1) = some (PySem.HandSPX.excO C hp.objs.size) := by heap_get
  have I2 := I1.laid (t' := tk) (a := hp.objs.size + 1) (o := exo (hp.objs.size + 1) C none) (h' := (hp.push (PySem.W.kdv_tup us)).push (PySem.HandSPX.excO C hp.objs.size)) kk hsz (exo_ok hget)
  have r2 : Vals (V.ref (hp.objs.size + 1) :: (vs ++ dvs)) (Value.ref (hp.objs.size + 1) :: (us ++ ds)) := .cons rfl (r1.append hd)
  have hl : (Value.ref (hp.objs.size + 1) :: us ++ ds).length = ps.length := r2.length.symm.trans (F1.len _ _ _ _ hq)
  have hus : us.length ≤ sizeLine := by
    rw [← Paired.length r1, sizeLine_eq]
    omega
  refine wpAny_call (PySem.HandSPX.call_own F.excBase_ValueError (fun Y => PySem.HandSPX.refsVE_contains Y bm hbm) (I1.kIn _ _ hC) (PySem.W.looks_findIn I1.kIn iC) (fun self => PySem.W.bind_fn I1.kIn self tI) hus
    (codeAny_mono (F1.run _ X.stack _ _ ⟨Value.ref (hp.objs.size + 1) :: us, []⟩ (Value.ref (hp.objs.size + 1) :: (us ++ ds)) _ _ (fun _ _ _ => False) (hr.make C us []) (I2.env0.make C us []) (hb _ (Value.ref (hp.objs.size + 1) :: us) I2.kIn hl) r2 hq) fun r s' hq' => ?_))
  match r, hq' with
  | .error er, hq' => exact hx pins σ _ _ er s' I2 hq'
  | .ok (.ret u), hq' =>
    obtain ⟨v, H2, os2, bare2, un2, hok2, rv, ev, q2⟩ := hq'
    subst ev
    obtain ⟨h2, g2, d2, t2, os'⟩ := s'
    obtain rfl : os' = os := os2
    exact ⟨rv, .ref (hp.objs.size + 1), H2, I2.call (h' := h2) (g' := g2) (d' := d2) (t' := t2) (ch := []) un2 hok2 bare2 (fun b z => nomatch z), rfl, q2⟩
/-- e.f, e an error -/
def tXfld (K : PySem.W.Frag) (f : Str) (te : TE) : TE := fun σ H Q => te σ H fun x H1 => ∃ (a C d : Addr) (fs : List (Str × V)) (v : V), x = .ref a ∧ IsX H1 a C (some d) ∧ XC K C ∧ PySem.W.findIn K (.ref C) f = some none ∧ IsXd H1 d fs ∧ fs.lookup f = some v ∧ Q v H1
theorem pe_xfld (he : PE X e te) (hb : attributeBase e f X.env (eval e X.env) = eval e X.env := by rfl) : PE X (.Attribute e f pos) (tXfld X.K f te) := by
  refine ⟨fun pins s σ H Q I h => attr_of hb (thn (he.run pins s σ H _ I h) fun u s1 hh => ?_)⟩
  obtain ⟨x, H1, I1, rx, a, C, d, fs, v, ex, ia, T, hno, idd, hl, q⟩ := hh
  subst ex
  obtain rfl : u = Value.ref a := rx
  obtain ⟨oe, vs, ho, hz, hdt⟩ := ia.get I1.hok
  obtain ⟨mA, hns, hr⟩ := idd.get I1.hok
  obtain ⟨od, hod, hlk⟩ := lookIn_ns hns
  obtain ⟨u, hu, ru⟩ := RelO.some_of (v := v) (o := mA f) (by rw [← hl]; exact hr f)
  have J : PySem.W.InstAt s1.heap a oe C (some od) := ⟨ho, hz.1, by unfold PySem.W.notCls; rw [hdt] <;> rfl, by rw [hz.2]; exact hod⟩
  exact HandSPX.exc_get I1.kIn J T.ga T.gg T.ox.exC (PySem.W.findObj_own T.hd hno rfl (by rw [hlk, hu])) (handed_of ru) ⟨v, H1, I1.tok _, ru, q⟩
/-- isinstance(x, c), x anything that is known, errors too -/
def rIsA (K : PySem.W.Frag) : List V → Hp → VK → Prop := fun xs H Q => ∃ (x c : V) (t u : Value) (b : Bool), xs = [x, c] ∧ ClsV c u ∧ (TyX K H x t ∨ ∃ (a C : Addr) (d : Addr) (fs : List (Str × V)), x = .ref a ∧ t = .ref C ∧ IsX H a C (some d) ∧ IsXd H d fs ∧ XC K C ∧ XO K) ∧ PySem.W.kitOne K t u = some b ∧ Q (.bl b) H
theorem call_isA : CallR X (.builtin "isinstance") (rIsA X.K) := by
  intro pins s σ H xs us Q I r h
  obtain ⟨x, c, t, u, b, rfl, k, ty, e, q⟩ := h
  obtain ⟨u1, u2, rfl, r1, r2⟩ := vals2 r
  have e2 := k.eq r2
  subst e2
  rcases ty with ty | ⟨a, C, d, fs, rfl, rfl, ia, idd, T, O⟩
  · obtain ⟨P, Z, p, hx⟩ := kit_of I r1 ty
    exact PySem.W.kia_one Z I.kIn p e hx fun tk => ⟨.bl b, H, I.tok tk, rfl, q⟩
  · cases (show u1 = Value.ref a from r1)
    obtain ⟨oe, vs, ho, hz, hdt⟩ := ia.get I.hok
    obtain ⟨mA, hns, hr⟩ := idd.get I.hok
    obtain ⟨od, hod, hlk⟩ := lookIn_ns hns
    have J : PySem.W.InstAt s.heap a oe C (some od) := ⟨ho, hz.1, by unfold PySem.W.notCls; rw [hdt] <;> rfl, by rw [hz.2]; exact hod⟩
    exact PySem.W.kia_one (PySem.W.kitx_exc (od := some od) (oexC_cl T.ox) T.ga T.gg T.ox.exC T.ca O.hn O.ht T.cm) I.kIn J e (fun z => nomatch z) fun tk => ⟨.bl b, H, I.tok tk, rfl, q⟩
end
end Tw
/-! Tw, part 4: the head's facts by names, error classes too. -/
namespace Tw
open PySem PySem.Spec PyProof.Rows L2 He
abbrev Fg := PySem.W.Frag
def excB (K : Fg) (C : Addr) : Bool := match K.lookup C with
  | some ⟨.type t, _, .cls cd, sl⟩ => (match cd.mro, sl.toList with
    | .ref C' :: bm, [_, _, _, _, some (.builtin n), _] => decide (t = "type") && (decide (C' = C) && (decide (n = "ValueError.__new__") && (!cd.hasDel && (cd.hasDict && PySem.HandSPX.refsVE bm))))
    | _, _ => false)
  | _ => false
theorem excB_ok {K : Fg} {C : Addr} (h : excB K C = true) : ∃ nm q N bs bm sn sub ab col dd k0 k1 k2 k3 k5, K.lookup C = some (excClassObj nm q C N bs bm true sn sub ab col dd k0 k1 k2 k3 k5 "ValueError.__new__") ∧ PySem.HandSPX.refsVE bm = true := by
  unfold excB at h
  cases e : K.lookup C with
  | none =>
    rw [e] at h
    cases h
  | some o =>
    rw [e] at h
    obtain ⟨oc, od, dt, sl⟩ := o
    cases oc with
    | type t =>
      cases dt with
      | cls cd =>
        obtain ⟨nm, bs, mro, ns, q, hd, sn, sb, ab, col, del⟩ := cd
        dsimp only at h
        obtain ⟨sl⟩ := sl
        dsimp only at h
        match mro, sl, h with
        | .ref C' :: bm, [k0, k1, k2, k3, some (.builtin n), k5], h =>
          obtain ⟨h1, h⟩ := ba h
          obtain ⟨h2, h⟩ := ba h
          obtain ⟨h3, h⟩ := ba h
          obtain ⟨h4, h⟩ := ba h
          obtain ⟨h5, h6⟩ := ba h
          have e1 := of_decide_eq_true h1
          have e2 := of_decide_eq_true h2
          have e3 := of_decide_eq_true h3
          subst e1 e2 e3
          have e4 : del = false := by simpa using h4
          subst e4
          subst h5
          exact ⟨_, _, _, _, _, _, _, _, _, _, _, _, _, _, _, rfl, h6⟩
      | _ => cases h
    | _ => cases h
inductive Fy where
  | fa (f : Fa)
  | xc (x : Str)
  | xo
  | ini (x : Str)
  | kit (x y : Str) (b : Bool)
  | kitT (x : Str) (T : String) (b : Bool)
  | names (x : Str) (zs : List Str)
def Fy.ok (K : Fg) : Fy → Bool
  | .fa f => f.ok K
  | .xc x => excB K (ga K x) && (eqO (PySem.W.findIn K (.ref (ga K x)) "__setattr__") (some (some (.builtin "object.__setattr__"))) && (decide (PySem.W.subIn K (.ref (ga K x)) (.type "BaseException") = some true) && (decide (PySem.W.typeIn K (.ref (ga K x)) = some (.type "type")) &&
      (PySem.W.keepIn K (.ref (ga K x)) && (eqO (PySem.W.findIn K (.ref (ga K x)) "__getattribute__") (some (some (.builtin "BaseException.__getattribute__"))) && (eqO (PySem.W.findIn K (.ref (ga K x)) "__getattr__") (some none) &&
      (PySem.W.hasDictIn K (ga K x) && (eqO (PySem.W.findIn K (.ref (ga K x)) "__class__") (some (some (.builtin "object.__class__"))) && decide (PySem.W.mroIn K (ga K x) (.type "object") = some true)))))))))
  | .xo => eqO (PySem.W.specialIn K (.builtin "object.__class__") "__get__") (some (some (.builtin "getset_descriptor.__get__"))) && decide (PySem.W.takesIn K (.builtin "object.__class__") = some true)
  | .ini x => eqO (PySem.W.findIn K (.ref (ga K x)) "__init__") (some (some (.ref (ma K (ga K x) "__init__")))) && decide (PySem.W.typeIn K (.ref (ma K (ga K x) "__init__")) = some (.type "function"))
  | .kit x y b => decide (PySem.W.kitOne K (.ref (ga K x)) (.ref (ga K y)) = some b)
  | .kitT x T b => decide (PySem.W.kitOne K (.ref (ga K x)) (.type T) = some b)
  | .names x zs => zs.all fun z => eqO (PySem.W.findIn K (.ref (ga K x)) z) (some none)
section
variable {K : Fg} {h : Heap} {mg : Str → Option Value}
theorem xc_ok {x : Str} (c : (Fy.xc x).ok K = true) : XC K (ga K x) := by
  obtain ⟨c1, c⟩ := ba c
  obtain ⟨c2, c⟩ := ba c
  obtain ⟨c3, c⟩ := ba c
  obtain ⟨c4, c⟩ := ba c
  obtain ⟨c5, c⟩ := ba c
  obtain ⟨c6, c⟩ := ba c
  obtain ⟨c7, c⟩ := ba c
  obtain ⟨c8, c⟩ := ba c
  obtain ⟨c9, c10⟩ := ba c
  exact ⟨⟨excB_ok c1, eqO_ok c2, of_decide_eq_true c3, of_decide_eq_true c4, c5⟩, eqO_ok c6, eqO_ok c7, c8, eqO_ok c9, of_decide_eq_true c10⟩
theorem xo_ok (c : Fy.xo.ok K = true) : XO K := by
  unfold Fy.ok at c
  obtain ⟨c1, c2⟩ := ba c
  exact ⟨eqO_ok c1, of_decide_eq_true c2⟩
theorem ini_ok {x : Str} (c : (Fy.ini x).ok K = true) : PySem.W.findIn K (.ref (ga K x)) "__init__" = some (some (.ref (ma K (ga K x) "__init__"))) ∧ PySem.W.typeIn K (.ref (ma K (ga K x) "__init__")) = some (.type "function") := by
  obtain ⟨c1, c2⟩ := ba c
  exact ⟨eqO_ok c1, of_decide_eq_true c2⟩
theorem kit_ok {x y : Str} {b : Bool} (c : (Fy.kit x y b).ok K = true) : PySem.W.kitOne K (.ref (ga K x)) (.ref (ga K y)) = some b := of_decide_eq_true c
theorem kitT_ok {x : Str} {T : String} {b : Bool} (c : (Fy.kitT x T b).ok K = true) : PySem.W.kitOne K (.ref (ga K x)) (.type T) = some b := of_decide_eq_true c
theorem names_ok {x : Str} {zs : List Str} (c : (Fy.names x zs).ok K = true) {z : Str} (hz : z ∈ zs) : PySem.W.findIn K (.ref (ga K x)) z = some none := eqO_ok (List.all_eq_true.mp c z hz)
end
/-! ### the hook: any truths of the written part, in groups -/
abbrev Fz := List (Fg → Bool)
def obsY (fs : Fz) (fn : List DefD) (K : Fg) : AlD := ((fs.all fun f => f K) && fn.all fun d => d.ok K, fn.map fun d => fnW K d.at_)
def SaysY (fs : Fz) (fn : List DefD) (K : Fg) : Prop := obsY fs fn K = valD fn
def obsYG (n : Nat) (fs : Fz) (fn : List DefD) (g : Addr → Option Obj) : AlD := obsY fs fn (frG g (asD g n))
def hookY (n : Nat) (fs : Fz) (fn : List DefD) : PySem.W.Hook where
  α := AlD
  obs := fun s => obsYG n fs fn s.heap.get?
  val := fun _ => valD fn
  says := fun _ h => ∃ K : Fg, K.In h ∧ SaysY fs fn K
  of := fun _ _ e => ⟨_, frG_in, e⟩
  keeps := fun _ _ _ ⟨K, hK, c⟩ k => ⟨K, PySem.W.Frag.In.keeps hK k, c⟩
theorem obsYG_eq {n : Nat} {fs : Fz} {fn : List DefD} {g : Addr → Option Obj} {s : Shared} (h : ∀ a, g a = s.heap.get? a) : obsYG n fs fn g = (hookY n fs fn).obs s := by
  have e : g = s.heap.get? := funext h
  rw [e] <;> rfl
section
variable {fs : Fz} {fn : List DefD} {K : Fg}
theorem SaysY.fact (c : SaysY fs fn K) (i : Nat) {f : Fg → Bool} (h : fs[i]? = some f := by rfl) : f K = true := by
  have c1 := (ba (show ((fs.all fun f => f K) && fn.all fun d => d.ok K) = true from congrArg (fun z : AlD => z.1) c)).1
  exact List.all_eq_true.mp c1 f (List.mem_of_getElem? h)
theorem SaysY.def_ (c : SaysY fs fn K) (i : Nat) {d : DefD} (h : fn[i]? = some d := by rfl) : ∃ fd, FunD K d.name d.qual d.params d.body d.scope (d.dvs K) (d.kws K) (fAd K d.at_) fd := by
  have c2 := (ba (show ((fs.all fun f => f K) && fn.all fun d => d.ok K) = true from congrArg (fun z : AlD => z.1) c)).2
  have e : fn.map (fun d => fnW K d.at_) = fn.map DefD.val := congrArg (fun z : AlD => z.2) c
  have e2 : (fn.map fun d => fnW K d.at_)[i]? = (fn.map DefD.val)[i]? := by rw [e]
  rw [List.getElem?_map, List.getElem?_map, h] at e2
  exact DefD.funD (Option.some.inj e2) (List.all_eq_true.mp c2 d (List.mem_of_getElem? h))
/-- a group told of each item of a list -/
theorem of_all {α : Type} {l : List α} {f : α → Bool} (h : l.all f = true) {x : α} (hx : x ∈ l) : f x = true := List.all_eq_true.mp h x hx
end
/-! ### defs as data -/
abbrev FnP (K : Fg) (x qual : Str) (st : Stmt) (f : Addr) (fd : FuncData) : Prop := FunD K x qual (defArgs st) (defBody st) (defScope st) [] [] f fd
theorem _root_.L2.FunD.okG {P : Program} {w : World} {K : Fg} {mg : Str → Option Value} {base : Heap} {CX : CXT} {x qual : Str} {params : Arguments} {body : List Stmt} {scope : Scope} {dvs : List V} {kws : List (Str × V)} {f : Addr} {fd : FuncData} {N ps : List Str} {k : Nat} {sp : Sp}
    (F : FunD K x qual params body scope dvs kws f fd) (S : FnScope N ps scope) (len : ∀ vs H Q E, sp vs H Q E → vs.length = ps.length)
    (hbody : ∀ (cdv : Value) (A : Around) (outer : List Env) (s : Shared) (H : Hp) (vs : List V) (Q : VK) (E : XK), Room k (A.deeper (envOfC qual scope s.heap.objs.size f cdv)) → NoG (A.deeper (envOfC qual scope s.heap.objs.size f cdv)) → sp vs H Q E →
      ∃ t, PSs (cxOf CX P w K mg base N qual scope f cdv A outer s H E) body t ∧ t { nx := fun _ H' => Q .non H', rt := Q } (start N vs) H) : FnG P w K mg base CX (k + 1) f fd ps sp := by
  obtain ⟨oc, od, dV, kV, doc, pm, an, cdv, ct, osl, rfl, lk, hcd, _, _⟩ := F.ex
  exact fng lk hcd S len fun A outer s H vs Q E hr hg hsp => hbody cdv A outer s H vs Q E hr hg hsp
/-! ### the law's end over facts -/
theorem walk_ofEG {l : PySem.W.OpenLaw} {n k : Nat} {q : Program} {loose : List Str} {XP : (Str → Option Value) → Heap → Prop} {YP : World → Heap → Prop} {d : DefRec} {CX : CXT} {x : Str}
    (hn : l.most = some n) (hn2 : n ≤ sizeLine) (hdf : d.params.defaults = []) (hr : Room k callerA)
    (F : ∀ (w : World) (mg : Str → Option Value) (fa : Addr) (h : Heap), YP w h → h.Ns mainGlobals mg → mg d.name = some (.ref fa) →
      ∃ (K : Fg) (fd : FuncData) (sp : Sp), K.In h ∧ (∀ (s : Shared) (u : Value), BindsTo s fd ⟨[u], []⟩ [(x, u)]) ∧
        (∀ (H : Hp) (a : Addr) (ns : List Int), ns.length ≤ n → Only H → SqL K H a (ns.map V.int) → sp [.ref a] H (fun v _ => v = .bl true) fun _ _ _ => False) ∧
        ∀ base : Heap, K.In base → base.Ns mainGlobals mg → FnG l.prog w K mg base CX k fa fd [x] sp)
    (hCX : ∀ (H : Hp) (s : Shared) (e : Value) (s' : Shared), CX [] H s (fun _ _ _ => False) e s' → False) :
    PySem.W.WalkO q loose XP YP l.row.toRowW d [] (fun f vs => PySem.call f vs) := by
  refine Att.attach_call hn hdf fun w s₀ s₁ mg mb fa o pm cd doc a vs ns G Y ho hd hcd hmg hobj hints hlen hg => ?_
  obtain ⟨K, fd, sp, KX, hb, hsp, hF⟩ := F w mg fa _ Y G.T.g hmg
  exact law_endG KX G.T.g G.T.b G.T.builtins G.T.nolimit hg hobj hints (Nat.le_trans hlen hn2) hr hF hb (fun H hO hS => hsp H a ns hlen hO hS) fun H e s' => hCX H s₁ e s'
end Tw
/-! Tw: new objects, told by what holds of the heap behind them alone. -/
namespace Tw
open PySem PySem.Spec PyProof.Rows L2
theorem same_new {H : Hp} {p : Addr} {o : HO} (h : H p = none) : Same H (upd H p o) := fun b u e => by
  rw [upd_ne (ne_of_none e h)]
  exact e
section
variable {X : Cx} {es : List Expr} {t : TA} {pos : Pos}
/-- a new object o: its place, the heap behind -/
def New (H : Hp) (o : HO) (Q : Addr → Hp → Prop) : Prop := ∀ (p : Addr) (H' : Hp), H p = none → p ≠ sysModules → Same H H' → H' p = some o → Q p H'
theorem New.at {H : Hp} {o : HO} {Q : Addr → Hp → Prop} (h : New H o Q) {p : Addr} (h1 : H p = none) (h2 : p ≠ sysModules) : Q p (upd H p o) := h p _ h1 h2 (same_new h1) upd_same
def tLstN (t : TA) : TE := fun σ H Q => t σ H fun xs H1 => xs.length ≤ sizeLine ∧ New H1 (.lst xs) fun p H' => Q (.ref p) H'
theorem pe_lstN (h : PA X es t) : PE X (.List es pos) (tLstN t) := by
  refine ⟨fun pins s σ H Q I hq => wpAny_List_spliced (thn (h.run pos pins s σ H _ I hq) fun us s1 ⟨xs, H1, I1, r, z, q⟩ => ⟨by rw [← r.length]; exact z, ?_⟩)⟩
  exact ⟨.ref s1.heap.objs.size, upd H1 s1.heap.objs.size (.lst xs), I1.laid (t' := s1.toks) (fun b u e => Heap.get?_push_of_some _ e) (Nat.le_refl _) ⟨z, us, 0, r, Heap.get?_push_size _ rfl⟩, rfl, q.at (I1.hok.fresh (Nat.le_refl _)) (Nat.ne_of_gt I1.big)⟩
def tTupN (t : TA) : TE := fun σ H Q => t σ H fun xs H1 => xs.length ≤ sizeLine ∧ ∀ (p : Addr) (H' : Hp), H1 p = none → Same H1 H' → H' p = some (.tup xs) → Q (.ref p) H'
theorem pe_tupN {x1} (h : PA X es t) : PE X (.Tuple es x1 pos) (tTupN t) := by
  refine ⟨fun pins s σ H Q I hq => wpAny_Tuple_spliced (thn (h.run pos pins s σ H _ I hq) fun us s1 ⟨xs, H1, I1, r, z, q⟩ => ⟨by rw [← r.length]; exact z, ?_⟩)⟩
  have hf : H1 s1.heap.objs.size = none := I1.hok.fresh (Nat.le_refl _)
  exact ⟨.ref s1.heap.objs.size, upd H1 s1.heap.objs.size (.tup xs), I1.laid (t' := s1.toks) (fun b u e => Heap.get?_push_of_some _ e) (Nat.le_refl _) ⟨z, us, r, _, Heap.get?_push_size _ rfl, rfl, 0, rfl⟩, rfl, q _ _ hf (same_new hf) upd_same⟩
def tDnewN : TE := fun _ H Q => New H (.dK []) fun p H' => Q (.ref p) H'
theorem pe_dnewN : PE X (.Dict [] [] pos) tDnewN := ⟨fun pins s σ H Q I h =>
  wpAny_Dict_empty ⟨.ref s.heap.objs.size, _, I.laid (a := s.heap.objs.size) (o := .dK []) (t' := s.toks) (fun _ _ q => Heap.get?_push_of_some _ q) (Nat.le_refl _) (dk_empty s.heap I.big), rfl, h.at (I.hok.fresh (Nat.le_refl _)) (Nat.ne_of_gt I.big)⟩⟩
def rCatN : R2 := fun x y H Q => ∃ l b xs zs, x = .ref l ∧ y = .ref b ∧ H l = some (.lst xs) ∧ H b = some (.lst zs) ∧ xs.length + zs.length ≤ sizeLine ∧ New H (.lst (xs ++ zs)) fun p H' => Q (.ref p) H'
theorem op_catN : OpR X (binaryOp .Add) rCatN := by
  intro pins s σ H x y v u Q I rx ry h
  obtain ⟨l, b, xs, zs, rfl, rfl, hH, hB, hz, q⟩ := h
  cases rx
  cases ry
  obtain ⟨z, its, n, r, hl, e⟩ := I.lstM hH
  obtain ⟨z2, its2, n2, r2, hl2, e2⟩ := I.lstM hB
  refine PySem.P.add_list e e2 ?_ (by rw [List.size_toArray, List.size_toArray]; omega)
  rw [show its.toArray ++ its2.toArray = (its ++ its2).toArray by simp]
  exact ⟨.ref _, _, I.lnew (t' := s.toks) (r.append r2) (by rw [List.length_append]; omega), rfl, q.at I.fresh (Nat.ne_of_gt I.big)⟩
end
end Tw
namespace Tw
open PySem PySem.Spec PyProof.Rows L2
theorem room70 {k : Nat} {A : Around} (r : Room k A) : A.units + 70 < cLine := by
  have := r.un
  omega
section
variable {X : Cx} {K : PySem.W.Frag}
theorem ixl (K : PySem.W.Frag) (h : X.K = K := by rfl) : IxR X (rIxL K) := by
  subst h
  exact ix_list
theorem ixt (K : PySem.W.Frag) (h : X.K = K := by rfl) : IxR X (rIxT K) := by
  subst h
  exact ix_tup
end
end Tw
/-! Tw, part 5: the pen that draws. -/
namespace Tw
open PySem PySem.Spec PyProof.Rows L2 He
/-- a statement, what holds behind it on every way, the rest once -/
def tMid (t u : TS) : TS := fun D σ H => ∃ W : L2.St → Hp → Prop, t { D with nx := W } σ H ∧ ∀ σ' H', W σ' H' → u D σ' H'
theorem pss_mid {X : Cx} {st : Stmt} {rest : List Stmt} {t u : TS} (h1 : PS X st t) (h2 : PSs X rest u) : PSs X (st :: rest) (tMid t u) :=
  ⟨fun pins s σ H D I ⟨W, hm, hu⟩ => wpAny_execs_cons (thn (h1.run pins s σ H { D with nx := W } I hm) fun f s1 q => match f, q with
    | .next, ⟨σ', H', I', q⟩ => h2.run pins s1 σ' H' D I' (hu σ' H' q)
    | .ret _, q => q
    | .brk, q => q
    | .cont, q => q)⟩
/-- all that was tracked but p stands -/
def But (p : Addr) (H H' : Hp) : Prop := ∀ b o, H b = some o → b ≠ p → H' b = some o
theorem But.refl {p : Addr} (H : Hp) : But p H H := fun _ _ e _ => e
theorem But.trans {p : Addr} {H H1 H2 : Hp} (a : But p H H1) (b : But p H1 H2) : But p H H2 := fun c o e h => b c o (a c o e h) h
theorem But.of {p : Addr} {H H' : Hp} (e : Same H H') : But p H H' := fun b o h _ => e b o h
theorem But.upd {p : Addr} {H : Hp} {o : HO} : But p H (upd H p o) := fun b u e h => by
  rw [upd_ne h]
  exact e
/-- the pen: the script's ints, the number of draws so far, what is left of a great number -/
def PenAt (H : Hp) (p : Addr) (c : Nat) : Prop := ∃ (l : Addr) (ns : List Int) (i g : Int), H p = some (.lst [.ref l, .int i, .int g]) ∧ H l = some (.lst (ns.map V.int)) ∧ l ≠ p ∧ ns.length ≤ 63 ∧ 0 ≤ i ∧ i ≤ (c : Int) ∧ 0 ≤ g
theorem PenAt.mono {H : Hp} {p : Addr} {c c' : Nat} (h : PenAt H p c) (hc : c ≤ c') : PenAt H p c' := by
  obtain ⟨l, ns, i, g, h1, h2, h3, h4, h5, h6, h7⟩ := h
  exact ⟨l, ns, i, g, h1, h2, h3, h4, h5, by omega, h7⟩
theorem PenAt.same {H H' : Hp} {p : Addr} {c : Nat} (e : Same H H') (h : PenAt H p c) : PenAt H' p c := by
  obtain ⟨l, ns, i, g, h1, h2, h3⟩ := h
  exact ⟨l, ns, i, g, e _ _ h1, e _ _ h2, h3⟩
/-- a draw: below many, the pen one further, nothing else touched -/
def spDraw : Sp := fun vs H Q _ => ∃ (p : Addr) (m : Int) (c : Nat), vs = [.ref p, .int m] ∧ 0 < m ∧ m < 1073741824 ∧ PenAt H p c ∧ c ≤ 1000000 ∧
  ∀ (r : Int) (H' : Hp), 0 ≤ r → r < m → PenAt H' p (c + 1) → But p H H' → Q (.int r) H'
theorem dp_ints {K : Fg} {H : Hp} : ∀ ns : List Int, DpAll K H (ns.map V.int) (ns.map PyData.int)
  | [] => .nil
  | n :: ns => .cons (.int n) (dp_ints ns)
theorem lay_ints : ∀ ns : List Int, PyData.canLayAll0 (ns.map PyData.int) = true ∧ PyData.depthAll (ns.map PyData.int) = 0
  | [] => ⟨rfl, rfl⟩
  | n :: ns => by
    obtain ⟨h1, h2⟩ := lay_ints ns
    constructor
    · simp only [List.map_cons, PyData.canLayAll0, PyData.canLay0, h1, Bool.and_self]
    · simp only [List.map_cons, PyData.depthAll, PyData.depth, h2, Nat.max_self]
theorem shaped_ints (ns : List Int) : SeqAt.shaped (.list (ns.map PyData.int)) = true := by
  obtain ⟨h1, h2⟩ := lay_ints ns
  simp [SeqAt.shaped, PyData.canLay0, PyData.depth, h1, h2]
theorem atI_of {xs : List V} {i : Int} {v : V} (h0 : 0 ≤ i) (h : xs[i.toNat]? = some v) : atI xs i = some v := by
  have e : i = (i.toNat : Int) := (Int.toNat_of_nonneg h0).symm
  rw [e]
  exact atI_nat h
theorem mul_le' {a b A B : Int} (h1 : 0 ≤ a) (h2 : a ≤ A) (h3 : 0 ≤ b) (h4 : b ≤ B) : 0 ≤ a * b ∧ a * b ≤ A * B :=
  ⟨Int.mul_nonneg h1 h3, Int.mul_le_mul h2 h4 h3 (Int.le_trans h1 h2)⟩
theorem pow_ok (i : Int) (h0 : 0 ≤ i) (h : i < 2 ^ 64) : i.natAbs < 2 ^ 64 := by omega
end Tw
namespace Tw
open PySem PySem.Spec PyProof.Rows L2 He
theorem But.seq {K : Fg} {p a : Addr} {H H' : Hp} {xs : List V} (e : But p H H') (hne : a ≠ p) (h : SqL K H a xs) : SqL K H' a xs := by
  rcases h with (h | ⟨o, h⟩) | h
  · exact .inl (.inl (e _ _ h hne))
  · exact .inl (.inr ⟨o, e _ _ h hne⟩)
  · exact .inr h
theorem cut_ints (ns : List Int) (lo hi : Option Int) : ∃ ms : List Int, cutV (ns.map V.int) lo hi = ms.map V.int ∧ ms.length ≤ ns.length := by
  refine ⟨(ns.drop (HT.sIx (ns.map V.int).length 0 lo)).take (HT.sIx (ns.map V.int).length (ns.map V.int).length hi - HT.sIx (ns.map V.int).length 0 lo), ?_, ?_⟩
  · unfold cutV
    rw [List.map_take, List.map_drop]
  · rw [List.length_take, List.length_drop]
    omega
/-- a new pen -/
def spPen (K : Fg) : Sp := fun vs H Q _ => ∃ (a : Addr) (ns : List Int), vs = [.ref a] ∧ SqL K H a (ns.map V.int) ∧ ns.length ≤ 63 ∧ ∀ (p : Addr) (H' : Hp), H p = none → PenAt H' p 0 → Same H H' → Q (.ref p) H'
/-- an item of a list that is not the pen, drawn -/
def spPick (K : Fg) : Sp := fun vs H Q _ => ∃ (p q : Addr) (xs : List V) (c : Nat), vs = [.ref p, .ref q] ∧ SqL K H q xs ∧ q ≠ p ∧ 0 < xs.length ∧ xs.length < 1000 ∧ PenAt H p c ∧ c ≤ 1000000 ∧
  ∀ (v : V) (H' : Hp), v ∈ xs → PenAt H' p (c + 1) → But p H H' → Q v H'
/-- the heap without the pen -/
def hid (p : Addr) (H : Hp) : Hp := fun b => if b = p then none else H b
theorem hid_ne {p b : Addr} {H : Hp} (h : b ≠ p) : hid p H b = H b := if_neg h
theorem hid_same {p : Addr} {H : Hp} : Same (hid p H) H := fun b o e => by
  unfold hid at e
  split at e
  · cases e
  · exact e
theorem hid_but {p : Addr} {H H' : Hp} (e : But p H H') : Same (hid p H) (hid p H') := fun b o h => by
  unfold hid at h ⊢
  split at h
  · cases h
  · rename_i hb
    rw [if_neg hb]
    exact e b o h hb
theorem sqT_same {K : Fg} {H H' : Hp} {a : Addr} {xs : List V} (e : Same H H') (h : SqT K H a xs) : SqT K H' a xs := by
  rcases h with (h | ⟨o, h⟩) | h
  · exact .inl (.inl (e _ _ h))
  · exact .inl (.inr ⟨o, e _ _ h⟩)
  · exact .inr h
mutual
theorem Dx.same {K : Fg} {H H' : Hp} (e : Same H H') : ∀ {v : V} {d : PyData}, Dx K H v d → Dx K H' v d
  | _, _, .non => .non
  | _, _, .bl b => .bl b
  | _, _, .int i => .int i
  | _, _, .str x => .str x
  | _, _, .lst h n a => .lst (e.seq h) n (DxAll.same e a)
  | _, _, .tup h a => .tup (sqT_same e h) (DxAll.same e a)
  | _, _, .dic h a => .dic (e _ _ h) (DxAll.same e a)
theorem DxAll.same {K : Fg} {H H' : Hp} (e : Same H H') : ∀ {vs : List V} {ds : List PyData}, DxAll K H vs ds → DxAll K H' vs ds
  | _, _, .nil => .nil
  | _, _, .cons h t => .cons (Dx.same e h) (DxAll.same e t)
end
theorem sz1000 {n : Nat} (h : n ≤ 1000) : n ≤ sizeLine := Nat.le_trans h (by decide)
end Tw
/-! Tw: the pen again, its list of cells named: so that a list that grows beside it is known to be another one. -/
namespace Tw
open PySem PySem.Spec PyProof.Rows L2 He
/-- the pen at p, its cells at l -/
def PenL (H : Hp) (p l : Addr) (c : Nat) : Prop := ∃ (ns : List Int) (i g : Int), H p = some (.lst [.ref l, .int i, .int g]) ∧ H l = some (.lst (ns.map V.int)) ∧ l ≠ p ∧ ns.length ≤ 63 ∧ 0 ≤ i ∧ i ≤ (c : Int) ∧ 0 ≤ g
theorem PenL.mono {H : Hp} {p l : Addr} {c c' : Nat} (h : PenL H p l c) (hc : c ≤ c') : PenL H p l c' := by
  obtain ⟨ns, i, g, h1, h2, h3, h4, h5, h6, h7⟩ := h
  exact ⟨ns, i, g, h1, h2, h3, h4, h5, by omega, h7⟩
theorem PenL.same {H H' : Hp} {p l : Addr} {c : Nat} (e : Same H H') (h : PenL H p l c) : PenL H' p l c := by
  obtain ⟨ns, i, g, h1, h2, h3⟩ := h
  exact ⟨ns, i, g, e _ _ h1, e _ _ h2, h3⟩
/-- another object than the pen and its cells changes -/
theorem PenL.upd {H : Hp} {p l q : Addr} {c : Nat} {o : HO} (h : PenL H p l c) (h1 : q ≠ p) (h2 : q ≠ l) : PenL (L2.upd H q o) p l c := by
  obtain ⟨ns, i, g, e1, e2, r⟩ := h
  exact ⟨ns, i, g, by rw [upd_ne h1.symm]; exact e1, by rw [upd_ne h2.symm]; exact e2, r⟩
/-- what is new is neither -/
theorem PenL.new {H : Hp} {p l q : Addr} {c : Nat} (h : PenL H p l c) (hq : H q = none) : q ≠ p ∧ q ≠ l := by
  obtain ⟨ns, i, g, e1, e2, r⟩ := h
  exact ⟨(ne_of_none e1 hq).symm, (ne_of_none e2 hq).symm⟩
def spDrawL : Sp := fun vs H Q _ => ∃ (p l : Addr) (m : Int) (c : Nat), vs = [.ref p, .int m] ∧ 0 < m ∧ m < 1073741824 ∧ PenL H p l c ∧ c ≤ 1000000 ∧
  ∀ (r : Int) (H' : Hp), 0 ≤ r → r < m → PenL H' p l (c + 1) → But p H H' → Q (.int r) H'
def spPenL (K : Fg) : Sp := fun vs H Q _ => ∃ (a : Addr) (ns : List Int), vs = [.ref a] ∧ SqL K H a (ns.map V.int) ∧ ns.length ≤ 63 ∧ ∀ (p l : Addr) (H' : Hp), H p = none → PenL H' p l 0 → Same H H' → Q (.ref p) H'
def spPickL (K : Fg) : Sp := fun vs H Q _ => ∃ (p l q : Addr) (xs : List V) (c : Nat), vs = [.ref p, .ref q] ∧ SqL K H q xs ∧ q ≠ p ∧ 0 < xs.length ∧ xs.length < 1000 ∧ PenL H p l c ∧ c ≤ 1000000 ∧
  ∀ (v : V) (H' : Hp), v ∈ xs → PenL H' p l (c + 1) → But p H H' → Q v H'
end Tw
/-! Tw: try: body, except x as n: suite, the caught error tracked behind the suite. -/
namespace Tw
open PySem PySem.Spec PyProof.Rows L2
section
variable {X : Cx} {pins : List (Addr × Obj)} {σ : L2.St} {H : Hp} {s : Shared}
/-- a pinned error of ours becomes a tracked one -/
theorem track {a C : Addr} {d : Option Addr} {oe : Obj} {vs : Array Value} (I : Inv X ((a, oe) :: pins) σ H s) (h0 : X.s_0.heap.get? a = none) (hne : ∀ p ∈ X.pn ++ pins, p.1 ≠ a) (hz : Zc (.ref C) d oe) (hd : oe.data = .fields vs) :
    Inv X pins σ (upd H a (exT a C d)) s := by
  obtain ⟨ha, na, nL, nF, nC⟩ := I.pin (a, oe) (List.mem_append_right _ List.mem_cons_self)
  have ne : ∀ {b : Addr} {u : HO}, H b = some u → b ≠ a := fun e => ne_of_none e na
  refine ⟨I.ok, I.os, I.bare, ⟨I.base.keep, I.base.slot, fun b o e n hx => ?_, I.base.there, fun b xs e => ?_, fun b o u e => ?_, fun b ps e => ?_⟩, I.loc, I.cell, ?_, fun x c e => ?_, fun p hp => ?_, fun b u e => ?_, I.len⟩
  · rw [upd_ne (fun z => by rw [z, h0] at e; cases e)]
    exact I.base.free b o e n hx
  · have q := I.base.tups b xs e
    rw [upd_ne (ne q)]
    exact q
  · have q := I.base.frzs b o u e
    rw [upd_ne (ne q)]
    exact q
  · obtain ⟨m, q⟩ := I.base.tbls b ps e
    exact ⟨m, by rw [upd_ne (ne q)]; exact q⟩
  · rw [upd_ne (Ne.symm nL)]
    exact I.free
  · obtain ⟨v, o, ho, hv⟩ := I.cell x c e
    rw [upd_ne (fun z => by
      have z' : c = a := z
      rw [z'] at ho
      have ha' : s.heap.get? a = some oe := ha
      rw [ha'] at ho
      cases ho
      exact nC v hv)]
    exact I.freeC x c e
  · obtain ⟨e1, e2, e3⟩ := I.pin p (by
      rcases List.mem_append.mp hp with z | z
      · exact List.mem_append_left _ z
      · exact List.mem_append_right _ (List.mem_cons_of_mem _ z))
    exact ⟨e1, by rw [upd_ne (hne p hp)]; exact e2, e3⟩
  · by_cases hb : b = a
    · subst hb
      rw [upd_same] at e
      cases e
      exact exT_ok ha hz hd
    · rw [upd_ne hb] at e
      exact (I.hok b u e).stay (fun _ _ _ q => q) (fun c q => by rw [upd_ne (ne q)]; exact q) fun c xs q => by rw [upd_ne (ne q)]; exact q
end
/-- what the clause wishes: its error stands tracked behind the suite -/
def wAsK (K : PySem.W.Frag) (c : Value) (i : Nat) (ts : Addr → Value → Option Addr → TS) (Wout : WX) (D : Ends) : WX := fun cls d σ H =>
  ∃ (C : Addr) (b : Bool), cls = .ref C ∧ PySem.W.exmOne K cls c = some b ∧ (b = true → ∀ a, H a = none → ts a cls d { nx := fun σ' H' => D.nx (σ'.set i none) (upd H' a (exT a C d)), rt := D.rt, bk := fun σ' H' => D.bk (σ'.set i none) H', ct := fun σ' H' => D.ct (σ'.set i none) H' } (σ.set i (some (.ref a))) H) ∧
    (b = false → Wout cls d σ H)
section
variable {X : Cx} {x n : Str} {c : Value} {i : Nat} {body suite : List Stmt} {b₀ : Stmt} {np pos pos' : Pos} {tb : WX → TS} {ts : Addr → Value → Option Addr → TS} {Wout : WX}
theorem ps_tryK (hex : X.ex = []) (hs : X.stack = X.env :: X.outer) (hf : X.env.frame = some X.env.locals) (hN : X.N.Nodup) (hi : X.N[i]? = some n) (hln : X.env.kindOf n = some .local) (hc : Names X x c) (tk : Takes X Wout)
    (hb : ∀ (W : WX) (pn : List (Addr × Obj)) (xe : Value → Shared → Prop), Takes (X.tr pn xe) W → PassesOwn (model X.prog X.w) X.A X.env xe → PSs (X.tr pn xe) body (tb W))
    (hsu : ∀ (a : Addr) (oe : Obj) (cls : Value) (d : Option Addr) (pn : List (Addr × Obj)), Zc cls d oe → (∃ vs, oe.data = .fields vs) → PSs (X.suite a ((a, oe) :: pn)) (b₀ :: suite) (ts a cls d)) :
    PS X (.Try body [.ExceptHandler (some (.Name x np)) (some n) (b₀ :: suite) pos'] [] [] pos) (fun D σ H => tb (wAsK X.K c i ts Wout D) D σ H) := by
  refine ⟨fun pins s σ H D I h => ?_⟩
  have ok := I.ok
  have hfr : X.A.frames = some (X.env :: X.outer) := by rw [ok.frames, hs]
  have hloc : Loc X.env.scope n := .inl hln
  refine wpAny_Try_except ?_
  refine wpAny_mono ((hb (wAsK X.K c i ts Wout D) (X.pn ++ pins) (fun e s₁ => wpAny (model X.prog X.w) X.A (noteFrame e X.env) (fun _ s₂ => wpAny (model X.prog X.w) X.A (setFlight e none) (fun _ s₃ =>
    wpAny (model X.prog X.w) X.A (handleBy e X.env [.ExceptHandler (some (.Name x np)) (some n) (b₀ :: suite) pos']) (SP X pins D) X.xe s₃) X.xe s₂) X.xe s₁) (fun u s' xx => ?_) PassesOwn.looking).run [] s σ H D (I.toTry _) h) (fun f s1 hsp => ?_) (fun e s1 he => he)
  · obtain ⟨a, B, sI, pins', σ', H', cls, d, rfl, J', nb, up, sky, na, os, ag, C, b, hcls, hb1, hyes, hno⟩ := xx
    have J : Inv X pins σ' H' sI := J'.ofTry ok
    have sky' : Sky B (X.env :: X.outer) a (Zc cls d) X.env.locals s'.heap := by rw [← hs]; exact sky
    show wpAny (model X.prog X.w) X.A (noteFrame (.ref a) X.env) _ _ _
    refine Sky.land Zc.steady hfr hf sky' fun h3 fl3 up3 => ?_
    have J3 : Inv X pins σ' H' { s' with heap := h3 } := J.landed nb fl3.1 (up.trans up3) os ag
    obtain ⟨oe3, vs3, he3, hz3, hd3⟩ := fl3.there
    have notFr : ∀ {h : Heap} {o : Obj} {vs : Array Value}, h.FunFrames B (X.env :: X.outer) → h.get? a = some o → o.data = .fields vs → a ∉ frs (X.env :: X.outer) := fun {h o vs} ff e dd hm => by
      obtain ⟨_, o', e', hnf⟩ := ff.mem hm
      rw [e] at e'
      cases e'
      exact hnf _ dd
    have nfr := notFr fl3.2.2.1 he3 hd3
    have nL : a ≠ X.env.locals := fun z => nfr (List.mem_filterMap.mpr ⟨X.env, List.mem_cons_self, by rw [hf, z]⟩)
    have nF : a ∉ X.fs := fun hm => by
      obtain ⟨e, he, q⟩ := List.mem_filterMap.mp hm
      exact nfr (List.mem_filterMap.mpr ⟨e, List.mem_cons_of_mem _ he, q⟩)
    -- the error is new to this def
    have nI : sI.heap.get? a = none := by
      cases e : sI.heap.get? a with
      | none => rfl
      | some o =>
        have z := nb a o e (by rw [hs]; exact nfr)
        have z2 : B.get? a = none := fl3.2.1
        rw [z2] at z
        cases z
    have n0 : X.s_0.heap.get? a = none := by
      cases e : X.s_0.heap.get? a with
      | none => rfl
      | some o =>
        obtain ⟨o', z⟩ := J.base.there a o e (by rw [hex]; exact fun z => nomatch z)
        rw [nI] at z
        cases z
    have npin : ∀ p ∈ X.pn ++ pins, p.1 ≠ a := fun p hp z => by
      obtain ⟨e, _⟩ := J.pin p hp
      rw [z, nI] at e
      cases e
    have S3 := J3.suite he3 hd3 na nL nF
    refine wpAny_handleBy_cons (codeAny_handlers_test ?_) (by intro q; cases q)
    have LT : PySem.W.Looks (model X.prog X.w) h3 (typeOf (.ref a)) cls := fun A Q E s k q => wpAny_typeOf_ref (k _ _ he3) (by rw [hz3.1]; exact q)
    have LM := PySem.W.exm_one (M := model X.prog X.w) (J3.kIn) LT hb1
    have test : ∀ {Q : Value → Shared → Prop} {E : Value → Shared → Prop}, Q c { s' with heap := h3 } → wpAny (model X.prog X.w) (X.A.mark (some (.ref a))) (eval (.Name x np) X.env) Q E { s' with heap := h3 } := fun {Q E} q => by
      obtain ⟨hg, hdbg, hm | ⟨hm, hv, hnn⟩⟩ := hc
      · exact ld_glob (X := X.suite a ((a, oe3) :: (X.pn ++ pins))) S3 hg hm q hdbg
      · exact ld_blt (X := X.suite a ((a, oe3) :: (X.pn ++ pins))) S3 hg hm hv q hnn hdbg
    refine test (LM.here ?_)
    cases b with
    | true =>
      refine codeAny_handlers_suite_as ?_
      refine HandSPX.lands_againZ fl3 fun h4 fl4 up4 => ?_
      have J4 : Inv X pins σ' H' { s' with heap := h4 } := J.landed nb fl4.1 ((up.trans up3).trans up4) os ag
      obtain ⟨oe4, vs4, he4, hz4, hd4⟩ := fl4.there
      have S4 := J4.suite he4 hd4 na nL nF
      refine store_ok (X := X.suite a ((a, oe4) :: (X.pn ++ pins))) (v := .ref a) S4 hN hi hloc rfl (fun s5 S5 => ?_) (.inr hln)
      refine wpAny_mono ((hsu a oe4 cls d (X.pn ++ pins) hz4 ⟨_, hd4⟩).run [] s5 _ H' _ S5 (hyes rfl a na)) (fun f s6 hsp => ?_) (fun _ _ z => False.elim z)
      have end_ : ∀ {σ6 : L2.St} {H6 : Hp} {Q : Shared → Prop}, Inv (X.suite a ((a, oe4) :: (X.pn ++ pins))) [] σ6 H6 s6 → (∀ s7, Inv X ((a, oe4) :: pins) (σ6.set i none) H6 s7 → Q s7) →
          wpAny (model X.prog X.w) X.A (do bindName X.env n .none; unbindBehindTheSuite X.env n pos') (fun _ s7 => Q s7) X.xe s6 := fun {σ6 H6 Q} S6 hq => by
        have J6 : Inv X ((a, oe4) :: pins) σ6 H6 s6 := (S6.unsuite ok).pins_of fun p hp => S6.pin p (List.mem_append_left _ (by
          rcases List.mem_cons.mp hp with z | z
          · exact List.mem_cons.mpr (.inl z)
          · exact List.mem_cons_of_mem _ (List.mem_append_right _ z)))
        exact gone_ok J6 hN hi hln hq
      have drop : ∀ {σ7 : L2.St} {H7 : Hp} {s7 : Shared}, Inv X ((a, oe4) :: pins) σ7 H7 s7 → Inv X pins σ7 H7 s7 := fun J7 => J7.pins_of fun p hp => J7.pin p (List.mem_append_right _ (List.mem_cons_of_mem _ hp))
      subst hcls
      cases f with
      | next =>
        obtain ⟨σ6, H6, S6, q6⟩ := hsp
        exact end_ S6 fun s7 J7 => ⟨_, _, track J7 n0 npin hz4 hd4, q6⟩
      | brk =>
        obtain ⟨σ6, H6, S6, q6⟩ := hsp
        exact end_ S6 fun s7 J7 => ⟨_, _, drop J7, q6⟩
      | cont =>
        obtain ⟨σ6, H6, S6, q6⟩ := hsp
        exact end_ S6 fun s7 J7 => ⟨_, _, drop J7, q6⟩
      | ret u =>
        obtain ⟨v6, σ6, H6, S6, r6, q6⟩ := hsp
        exact end_ S6 fun s7 J7 => ⟨_, _, _, drop J7, r6, q6⟩
    | false =>
      show wpAny _ X.A (handleBy (.ref a) X.env []) _ _ _
      refine wpAny_handleBy_nil ?_
      obtain ⟨k1, k2, k3, oe, vs, T, oT, ts', he, hz, hd, h1, hr⟩ := id fl3
      unfold PySem.passOn
      refine wpAny_bind (wpAny_field he hd h1 ?_)
      rw [if_neg (show ¬ ((Value.ref T == Value.none) = true) from by simp)]
      have fin : wpAny (model X.prog X.w) X.A (setFlight (.ref a) X.env.frame) (fun _ s4 => wpAny (model X.prog X.w) X.A (throw (.ref a) : Sem Flow) (SP X pins D) X.xe s4) X.xe { s' with heap := h3 } := by
        rw [hf]
        refine HandSPX.setFlight_upZ fl3 fun h4 hh4 up4 => wpAny_throw (tk _ _ ?_)
        exact ⟨a, B, sI, pins, σ', H', cls, d, rfl, J, nb, (up.trans up3).trans up4, .inr (.inr (by rw [hs]; exact hh4)), na, os, ag, hno rfl⟩
      first
        | exact wpAny_bind (wpAny_pure (wpAny_bind fin))
        | exact wpAny_bind fin
  · cases f with
    | next =>
      obtain ⟨σ', H', J', q⟩ := hsp
      exact wpAny_execs_nil ⟨σ', H', J'.ofTry ok, q⟩
    | brk =>
      obtain ⟨σ', H', J', q⟩ := hsp
      exact ⟨σ', H', J'.ofTry ok, q⟩
    | cont =>
      obtain ⟨σ', H', J', q⟩ := hsp
      exact ⟨σ', H', J'.ofTry ok, q⟩
    | ret u =>
      obtain ⟨v, σ', H', J', r, q⟩ := hsp
      exact ⟨v, σ', H', J'.ofTry ok, r, q⟩
end
end Tw
/-! Tw: instances of own classes: == and != by an own __eq__, str by an own __str__, made where __init__ may raise. -/
namespace Tw
open PySem PySem.Spec PyProof.Rows L2
/-- the type of anything that is known -/
def TyA (K : PySem.W.Frag) (H : Hp) (x : V) (t : Value) : Prop := TyX K H x t ∨ ∃ (a C : Addr) (d : Addr) (fs : List (Str × V)), x = .ref a ∧ t = .ref C ∧ IsX H a C (some d) ∧ IsXd H d fs ∧ XC K C ∧ XO K
section
variable {X : Cx} {CX : CXT} {pins : List (Addr × Obj)} {σ : L2.St} {H : Hp} {s : Shared} {k : Nat} {f C : Addr} {fd : FuncData} {ps : List Str} {sp : Sp} {E : XK}
theorem tyA_looks {x : V} {u t : Value} (I : Inv X pins σ H s) (r : RelV x u) (ty : TyA X.K H x t) (M : Model) : PySem.W.Looks M s.heap (typeOf u) t := by
  rcases ty with ty | ⟨a, C, d, fs, rfl, rfl, ia, idd, T, O⟩
  · obtain ⟨P, Z, p, _⟩ := kit_of I r ty
    exact Z.ty M s.heap I.kIn p
  · cases (show u = Value.ref a from r)
    obtain ⟨oe, vs, ho, hz, hdt⟩ := ia.get I.hok
    exact fun A Q E s k q => wpAny_typeOf_ref (k _ _ ho) (by rw [hz.1]; exact q)
theorem inst_at (I : Inv X pins σ H s) {a dx : Addr} {fs : List (Str × V)} (e : H a = some (.ins C dx fs)) : ∃ od ox, PySem.W.InstAt s.heap a ox C (some od) := by
  obtain ⟨mA, O, _⟩ := ins_get I.hok e
  obtain ⟨od, J, _⟩ := O.look
  exact ⟨od, _, J⟩
/-- a def run one deeper within a built-in -/
theorem run_in1 {Q : VK} {us : List Value} {vs : List V} (F : FnOk X.prog X.w X.K X.mg X.base CX k f fd ps sp) (hr : Room (k + 1) X.A) (hb : Binds X.K fd ps []) (hx : Passes CX X E) (I : Inv X pins σ H s) (r : Vals vs us) (h : sp vs H Q E) :
    wpAny (model X.prog X.w) X.A.in1 (call (.ref f) us) (EP X pins σ Q) X.xe s := by
  have hl : us.length = ps.length := r.length.symm.trans (F.len _ _ _ _ h)
  have b := hb s us I.kIn (by rw [List.append_nil]; exact hl)
  rw [List.append_nil] at b
  refine wpAny_call (codeAny_mono (F.run X.A.in1 X.stack s H ⟨us, []⟩ us vs Q E hr.in1 I.env0.in1 b r h) fun r s' hq => ?_)
  match r, hq with
  | .error e, hq => exact hx pins σ H s e s' I hq
  | .ok (.ret u), hq => exact I.after hq
theorem run_in2 {Q : VK} {us : List Value} {vs : List V} (F : FnOk X.prog X.w X.K X.mg X.base CX k f fd ps sp) (hr : Room (k + 2) X.A) (hb : Binds X.K fd ps []) (hx : Passes CX X E) (I : Inv X pins σ H s) (r : Vals vs us) (h : sp vs H Q E) :
    wpAny (model X.prog X.w) X.A.in1.in1 (call (.ref f) us) (EP X pins σ Q) X.xe s := by
  have hl : us.length = ps.length := r.length.symm.trans (F.len _ _ _ _ h)
  have b := hb s us I.kIn (by rw [List.append_nil]; exact hl)
  rw [List.append_nil] at b
  have hr1 : Room (k + 1) X.A.in1 := Room.in1 hr
  refine wpAny_call (codeAny_mono (F.run X.A.in1.in1 X.stack s H ⟨us, []⟩ us vs Q E hr1.in1 I.env0.in1.in1 b r h) fun r s' hq => ?_)
  match r, hq with
  | .error e, hq => exact hx pins σ H s e s' I hq
  | .ok (.ret u), hq => exact I.after hq
/-- x == y by x's own __eq__ -/
def rEqOwn (K : PySem.W.Frag) (C : Addr) (sp : Sp) (E : XK) : R2 := fun x y H Q => ∃ (a dx : Addr) (fs : List (Str × V)) (t : Value), x = .ref a ∧ H a = some (.ins C dx fs) ∧ TyA K H y t ∧ PySem.W.notFirst K C t = true ∧ sp [x, y] H Q E
theorem op_eqOwn (hs : PySem.W.findIn X.K (.ref C) "__eq__" = some (some (.ref f))) (hf : PySem.W.isFn X.K (.ref f) = true) (F : FnOk X.prog X.w X.K X.mg X.base CX k f fd ps sp) (hr : Room k X.A) (hb : Binds X.K fd ps []) (hx : Passes CX X E) : OpR X (compareOp .Eq) (rEqOwn X.K C sp E) := by
  intro pins s σ H x y v u Q I rx ry h
  obtain ⟨a, dx, fs, t, rfl, ea, ty, hn, q⟩ := h
  cases (show v = Value.ref a from rx)
  obtain ⟨od, ox, J⟩ := inst_at I ea
  obtain ⟨m, hF⟩ := I.fr
  show wpAny _ _ (richCompare .Eq _ _) _ _ _
  refine PySem.W.cmp_K (op := .Eq) (tb := t) hr.units0 hF I.ok.mod.kin J (tyA_looks I ry ty _) hn hs hf ?_
  refine wpAny_mono (run_fn (dvs := []) (ds := []) (us := [.ref a, u]) (vs := [.ref a, y]) F hr hb .nil hx I (.cons rfl (.cons ry .nil)) q) (fun w s' z => ?_) fun _ _ x => x
  obtain ⟨z', H', I', rz, qz⟩ := z
  exact SlX.cmpback rz ⟨z', H', I', rz, qz⟩
/-- x != y: object.__ne__ asks x's own __eq__ -/
def rNeOwn (K : PySem.W.Frag) (C : Addr) (sp : Sp) (E : XK) : R2 := fun x y H Q => ∃ (a dx : Addr) (fs : List (Str × V)) (t : Value), x = .ref a ∧ H a = some (.ins C dx fs) ∧ TyA K H y t ∧ PySem.W.notFirst K C t = true ∧ sp [x, y] H (fun z H' => ∃ b, z = .bl b ∧ Q (.bl (!b)) H') E
theorem ifBound_objNe {K : PySem.W.Frag} {M : Model} {A : Around} {E : Value → Shared → Prop} {s : Shared} {x : Addr} {ox : Obj} {od : Option Obj} {args : List Value} {Q : Option Value → Shared → Prop} (Y : K.In s.heap) (I : PySem.W.InstAt s.heap x ox C od) (hs : PySem.W.findIn K (.ref C) "__ne__" = some (some (.builtin "object.__ne__")))
    (h : wpAny M A (call (.builtin "object.__ne__") (.ref x :: args)) (fun v => Q (some v)) E s) : wpAny M A (callSpecialIfBound? (.ref x) "__ne__" args) Q E s := by
  simp only [callSpecialIfBound?, bindSpecialIfBound?]
  refine wpAny_holding (wpAny_bind (wpAny_bind (wpAny_bind (I.type.here ((PySem.W.looks_findIn Y hs).here ?_)))))
  refine wpAny_bind (wpAny_askSetting (wpAny_ite ?_))
  have fin : wpAny M A (call (.builtin "object.__ne__") ([.ref x] ++ args) >>= fun v => pure (some v)) Q E s := wpAny_bind (wpAny_mono h (fun v s' h' => wpAny_pure h') fun _ _ h' => h')
  split
  · exact wpAny_bind (wpAny_of_eq (F.cmp_object.ne.bind _) (wpAny_pure (by exact fin)))
  · exact wpAny_tryCatch (wpAny_bind (wpAny_of_eq (F.cmp_object.ne.bind _) (wpAny_pure (by exact fin))))
theorem ne_entry {K : PySem.W.Frag} {prog : Program} {w : World} {A : Around} {E : Value → Shared → Prop} {s : Shared} {x : Addr} {ox : Obj} {od : Option Obj} {b : Value} {Q : Fin → Shared → Prop} (hu : A.units < cLine) (Y : K.In s.heap) (I : PySem.W.InstAt s.heap x ox C od)
    (hs : PySem.W.findIn K (.ref C) "__eq__" = some (some (.ref f))) (hf : PySem.W.isFn K (.ref f) = true)
    (h : wpAny (model prog w) A (call (.ref f) [.ref x, b]) (fun v s' => ∃ c, v = .bool c ∧ Q (.done (.ret (.bool (!c)))) s') E s) : wpAny (model prog w) A (Builtin.«object.__ne__» ⟨[.ref x, b], []⟩) Q E s := by
  unfold Builtin.«object.__ne__»
  repeat (first
    | with_reducible refine wpAny_cRoomFor hu ?_
    | (refine wpAny_bind (m := callSpecialIfBound? (.ref x) (Str.ofString "__eq__") [b])
        (PySem.W.ifBound_K Y I hs hf (wpAny_mono h (fun r s' hr => by
          obtain ⟨b, rfl, hq⟩ := hr
          repeat (first | exact hq | exact wpAny_pure hq | exact wpAny_truthy_bool hq | (refine wpAny_bind (m := truthy (.bool _)) (wpAny_truthy_bool ?_)) | wp_step)) fun _ _ e => e)))
    | wp_step)
theorem ne_own {x : Addr} {ox : Obj} {od : Option Obj} {b tb : Value} {K : PySem.W.Frag} {prog : Program} {w : World} {A : Around} {E : Value → Shared → Prop} {s : Shared} {Q : Value → Shared → Prop} (hu : A.units + 1 < cLine) (Y : K.In s.heap) (I : PySem.W.InstAt s.heap x ox C od) (hb : PySem.W.Looks (model prog w) s.heap (typeOf b) tb) (hn : PySem.W.notFirst K C tb = true)
    (hne : PySem.W.findIn K (.ref C) "__ne__" = some (some (.builtin "object.__ne__"))) (hs : PySem.W.findIn K (.ref C) "__eq__" = some (some (.ref f))) (hf : PySem.W.isFn K (.ref f) = true) (hm : PySem.W.mroIn K C (.type "object") = some true)
    (h : wpAny (model prog w) A.in1 (call (.ref f) [.ref x, b]) (fun v s' => ∃ c, v = .bool c ∧ Q (.bool (!c)) s') E s) : wpAny (model prog w) A (richCompare .NotEq (.ref x) b) Q E s := by
  have one : wpAny (model prog w) A (tryCompare (.ref x) (cmpInfo .NotEq).2.1 b) (fun r s' => ∃ v, r = some v ∧ Q v s') E s := by
    unfold tryCompare
    refine wpAny_bind (ifBound_objNe Y I hne (wpAny_call (codeAny_call_builtin F.cmp_object.ne.plain F.cmpEntry_ne (PySem.W.check_slot F.cmpKind_ne F.cmpSplit_ne (I.type.andThen (PySem.W.looks_mroIn Y hm)) (F.cmpArgs_ne _ _)
      (ne_entry (A := A.in1) hu Y I hs hf (wpAny_mono h (fun v s' hv => ?_) fun _ _ e => e))))))
    obtain ⟨c, rfl, hq⟩ := hv
    first | exact ⟨c, rfl, wpAny_pure ⟨_, rfl, hq⟩⟩ | exact ⟨c, rfl, wpAny_pure (wpAny_pure ⟨_, rfl, hq⟩)⟩ | exact ⟨c, rfl, ⟨_, rfl, hq⟩⟩
  unfold richCompare
  simp only [oneThing_ref]
  refine wpAny_holding (wpAny_bind (wpAny_cRoomFor (Nat.lt_of_succ_lt hu) ?_))
  refine wpAny_bind (I.type.here (wpAny_bind (hb.here ?_)))
  split
  · rename_i q
    have e : PySem.W.subIn K tb (.ref C) = some false := by
      rcases Bool.or_eq_true_iff.mp hn with e | e
      · rw [beq_iff_eq.mp e] at q; simp at q
      · exact beq_iff_eq.mp e
    refine wpAny_bind ((PySem.W.looks_subIn Y e).here ?_)
    simp only [Bool.false_eq_true, if_false]
    refine wpAny_bind (wpAny_mono one (fun r s' z => ?_) fun _ _ e => e)
    obtain ⟨v, rfl, hq⟩ := z
    exact wpAny_pure hq
  · refine wpAny_bind (wpAny_pure ?_)
    simp only [Bool.false_eq_true, if_false]
    refine wpAny_bind (wpAny_mono one (fun r s' z => ?_) fun _ _ e => e)
    obtain ⟨v, rfl, hq⟩ := z
    exact wpAny_pure hq
theorem op_neOwn (hne : PySem.W.findIn X.K (.ref C) "__ne__" = some (some (.builtin "object.__ne__"))) (hs : PySem.W.findIn X.K (.ref C) "__eq__" = some (some (.ref f))) (hf : PySem.W.isFn X.K (.ref f) = true) (hm : PySem.W.mroIn X.K C (.type "object") = some true)
    (F : FnOk X.prog X.w X.K X.mg X.base CX k f fd ps sp) (hr : Room (k + 1) X.A) (hb : Binds X.K fd ps []) (hx : Passes CX X E) : OpR X (compareOp .NotEq) (rNeOwn X.K C sp E) := by
  intro pins s σ H x y v u Q I rx ry h
  obtain ⟨a, dx, fs, t, rfl, ea, ty, hn, q⟩ := h
  cases (show v = Value.ref a from rx)
  obtain ⟨od, ox, J⟩ := inst_at I ea
  show wpAny _ _ (richCompare .NotEq _ _) _ _ _
  refine ne_own (tb := t) (Nat.lt_of_le_of_lt (Nat.le_refl _) hr.in1.units0) I.kIn J (tyA_looks I ry ty _) hn hne hs hf hm ?_
  refine wpAny_mono (run_in1 F hr hb hx I (.cons rx (.cons ry .nil)) q) (fun w s' z => ?_) fun _ _ x => x
  obtain ⟨z', H', I', rz, b, rfl, qz⟩ := z
  exact ⟨b, rz, .bl (!b), H', I', rfl, qz⟩
/-- str(x) by x's own __str__ -/
def rStrOwn (C : Addr) (sp : Sp) (E : XK) : List V → Hp → VK → Prop := fun xs H Q => ∃ (a dx : Addr) (fs : List (Str × V)), xs = [.ref a] ∧ H a = some (.ins C dx fs) ∧ sp [.ref a] H (fun z H' => ∃ c, z = .str c ∧ Q z H') E
theorem call_strOwn (hs : PySem.W.findIn X.K (.ref C) "__str__" = some (some (.ref f))) (hf : PySem.W.isFn X.K (.ref f) = true) (F : FnOk X.prog X.w X.K X.mg X.base CX k f fd ps sp) (hr : Room (k + 2) X.A) (hb : Binds X.K fd ps []) (hx : Passes CX X E) : CallR X (.type "str") (rStrOwn C sp E) := by
  intro pins s σ H xs us Q I r h
  obtain ⟨a, dx, fs, rfl, ea, q⟩ := h
  obtain ⟨u1, rfl, r1⟩ := vals1 r
  cases (show u1 = Value.ref a from r1)
  obtain ⟨od, ox, J⟩ := inst_at I ea
  have hr1 : Room (k + 1) X.A.in1 := Room.in1 hr
  refine PySem.W.kso_call hr1.in1.units0 I.kIn J hs hf ?_
  refine wpAny_mono (run_in2 F hr hb hx I (.cons r1 .nil) q) (fun w s' z => ?_) fun _ _ x => x
  obtain ⟨z', H', I', rz, c, ez, qz⟩ := z
  subst ez
  obtain ⟨t, rfl⟩ := rz
  exact ⟨.str c, H', I', ⟨_, rfl⟩, qz⟩
end
end Tw
/-! Tw: a text times a number; an object made where its __init__ may raise into a try. -/
namespace Tw
open PySem PySem.Spec PyProof.Rows L2
section
variable {X : Cx} {CX : CXT} {k : Nat} {f C : Addr} {fd : FuncData} {ps : List Str} {sp : Sp} {E : L2.St → XK} {x : Str} {p pos : Pos} {e : Expr} {es : List Expr} {t : TA}
theorem op_mul_str : OpR X (binaryOp .Mult) (fun x y H Q => ∃ (z : Str) (n : Int), x = .str z ∧ y = .int n ∧ MulOk z n ∧ Q (.str (Txt.mul z n)) H) := by
  intro pins s σ H x y v u Q I rx ry h
  obtain ⟨z, n, rfl, rfl, ok, q⟩ := h
  obtain ⟨t, rfl⟩ := rx
  obtain ⟨t', rfl⟩ := ry
  exact SB.mul ok fun t' tk => ⟨.str (Txt.mul z n), H, I.tok _, ⟨_, rfl⟩, q⟩
/-- C(..) where C.__init__ may raise -/
def tMakeS (C : Addr) (sp : Sp) (E : L2.St → XK) (t : TA) : TE := fun σ H Q => t σ H fun vs H1 => ∀ x dx, H1 x = none → H1 dx = none → dx ≠ x →
  sp (.ref x :: vs) (upd (upd H1 dx (.own x)) x (.ins C dx [])) (fun v H2 => v = .non ∧ Q (.ref x) H2) (E σ)
theorem run_makeS {pins : List (Addr × Obj)} {σ : L2.St} {H : Hp} {s : Shared} {Q : VK} {us : List Value} {vs : List V} (M : Mk X.K C f) (F : FnOk X.prog X.w X.K X.mg X.base CX k f fd ps sp) (hr : Room (k + 1) X.A) (hb : Binds X.K fd ps [])
    (hx : PassesAt CX X σ (E σ)) (I : Inv X pins σ H s) (r : Vals vs us)
    (h : ∀ x dx, H x = none → H dx = none → dx ≠ x → sp (.ref x :: vs) (upd (upd H dx (.own x)) x (.ins C dx [])) (fun v H2 => v = .non ∧ Q (.ref x) H2) (E σ)) :
    wpAny (model X.prog X.w) X.A (call (.ref C) us) (EP X pins σ Q) X.xe s := by
  have hq := h (s.heap.objs.size + 1) s.heap.objs.size (I.hok.fresh (Nat.le_succ _)) (I.hok.fresh (Nat.le_refl _)) (Nat.ne_of_lt (Nat.lt_succ_self _))
  have I2 := Inv.made (C := C) I
  have r2 : Vals (V.ref (s.heap.objs.size + 1) :: vs) (Value.ref (s.heap.objs.size + 1) :: us) := .cons rfl r
  have hl : (Value.ref (s.heap.objs.size + 1) :: us).length = ps.length := by
    have e := r2.length
    rw [F.len _ _ _ _ hq] at e
    exact e.symm
  have b := hb _ (Value.ref (s.heap.objs.size + 1) :: us) I2.kIn (by rw [List.append_nil]; exact hl)
  rw [List.append_nil] at b
  refine wpAny_call (make_map (f := f) I.kIn M.makes M.init (beq_iff_eq.mp M.fn) (codeAny_mono (F.run _ X.stack _ _ ⟨Value.ref (s.heap.objs.size + 1) :: us, []⟩ (Value.ref (s.heap.objs.size + 1) :: us) _ _ (E σ) (hr.make C us [])
    (I2.env0.make C us []) b r2 hq) fun r s' hq' => ?_))
  cases r with
  | error e => exact hx pins _ _ e s' I2 hq'
  | ok fl =>
    cases fl with
    | ret u =>
      obtain ⟨v, H', I3, rv, ev, q3⟩ := I2.after hq'
      subst ev
      exact ⟨rv, ⟨V.ref (s.heap.objs.size + 1), H', I3, rfl, q3⟩⟩
    | next => exact False.elim hq'
    | brk => exact False.elim hq'
    | cont => exact False.elim hq'
theorem pe_makeS (M : Mk X.K C f) (F : FnOk X.prog X.w X.K X.mg X.base CX k f fd ps sp) (hr : Room (k + 1) X.A) (hg : Gl X x) (hm : X.mg x = some (.ref C)) (hb : Binds X.K fd ps []) (hx : ∀ σ, PassesAt CX X σ (E σ))
    (ha : PA X (e :: es) t) (hdb : (x == ("__debug__" : Str)) = false := by decide) (he : starEach (e :: es) X.env = (false, eval e X.env) :: starEach es X.env := by rfl) (hpl : (backTo pos (starEach es X.env)).any (·.1) = false := by rfl) :
    PE X (.Call (.Name x p) (e :: es) [] pos) (tMakeS C sp E t) := by
  refine ⟨fun pins s σ H Q I h => ?_⟩
  refine wpAny_Call_Name_kw (ld_glob I hg hm ?_ hdb)
  refine PySem.W.callWith_K (h₀ := X.base) I.ok.mod.kin M.kp (thn (ha.run pos pins s σ H _ I h) fun us s1 ⟨vs, H1, I1, r, q⟩ => ⟨I1.kIn, ?_⟩) he hpl
  exact run_makeS M F hr hb (hx σ) I1 r q
end
/-- a comprehension over a text, sign by sign -/
theorem lcStr {z : Str} {g : TG} {tt : TT} {te : TE} {ws : List Nat} {ρ : L2.St} {G : Hp} {D : Addr} {R : Hp → Prop} (P : Nat → Hp → Prop) (first : P 0 (upd G D (.lst [])))
    (step : ∀ i c H, z.cps[i]? = some c → P i H → g (.str ⟨#[c]⟩) (wipe ρ ws) H fun σ2 H2 => wipe σ2 ws = wipe ρ ws ∧ tt σ2 H2 fun b H3 => if b = true then te σ2 H3 fun y H4 => ∃ acc, H4 D = some (.lst acc) ∧ acc.length < sizeLine ∧ P (i + 1) (upd H4 D (.lst (acc ++ [y]))) else P (i + 1) H3)
    (last : ∀ H, P z.cps.size H → R H) :
    ∃ W : Nat → Nat → Hp → Prop, (∃ m, W 0 m (upd G D (.lst []))) ∧ ∀ i m H, W i m H → ((Its z).stop i H ∧ R H) ∨ ((Its z).go i H ∧ ∃ Nx : Hp → Prop, (∀ H', Nx H' → ∃ m', m' < m ∧ W (i + 1) m' H') ∧ ∀ x H', (Its z).yld i H x H' →
      g x (wipe ρ ws) H' fun σ2 H2 => wipe σ2 ws = wipe ρ ws ∧ tt σ2 H2 fun b H3 => if b = true then te σ2 H3 fun y H4 => ∃ acc, H4 D = some (.lst acc) ∧ acc.length < sizeLine ∧ Nx (upd H4 D (.lst (acc ++ [y]))) else Nx H3) := by
  refine ⟨fun i m H => m = z.cps.size - i ∧ i ≤ z.cps.size ∧ P i H, ⟨_, rfl, Nat.zero_le _, first⟩, ?_⟩
  rintro i m H ⟨rfl, hi, p⟩
  rcases Nat.lt_or_ge i z.cps.size with lt | ge
  · refine .inr ⟨lt, P (i + 1), fun H' p' => ⟨_, Nat.sub_succ_lt_self _ _ lt, rfl, lt, p'⟩, fun x H' ⟨e, c, ec, ex⟩ => ?_⟩
    subst e ex
    exact step i c _ ec p
  · exact .inl ⟨ge, last H (Nat.le_antisymm hi ge ▸ p)⟩
/-- values whose class is a built-in one -/
inductive Bv (H : Hp) : V → String → Prop where
  | non : Bv H .non "NoneType"
  | bl (b : Bool) : Bv H (.bl b) "bool"
  | int (i : Int) : Bv H (.int i) "int"
  | str (z : Str) : Bv H (.str z) "str"
  | lst {a : Addr} {xs : List V} (e : H a = some (.lst xs)) : Bv H (.ref a) "list"
  | tup {a : Addr} {xs : List V} (e : H a = some (.tup xs)) : Bv H (.ref a) "tuple"
  | dK {a : Addr} {kvs : List (Key × V)} (e : H a = some (.dK kvs)) : Bv H (.ref a) "dict"
theorem Bv.ty {K : PySem.W.Frag} {H : Hp} {x : V} {T : String} (h : Bv H x T) : TyX K H x (.type T) := by
  cases h with
  | non => exact .base .non
  | bl b => exact .base (.bl b)
  | int i => exact .base (.int i)
  | str z => exact .base (.str z)
  | lst e => exact .base (.lst e)
  | tup e => exact .base (.tup e)
  | dK e => exact .base (.dK e)
theorem Bv.same {H H' : Hp} {x : V} {T : String} (s : Same H H') (h : Bv H x T) : Bv H' x T := by
  cases h with
  | non => exact .non
  | bl b => exact .bl b
  | int i => exact .int i
  | str z => exact .str z
  | lst e => exact .lst (s _ _ e)
  | tup e => exact .tup (s _ _ e)
  | dK e => exact .dK (s _ _ e)
def isI : V → Bool
  | .int _ => true
  | _ => false
def isB : V → Bool
  | .bl _ => true
  | _ => false
def isS : V → Bool
  | .str _ => true
  | _ => false
/-- isinstance against a built-in class, by the value -/
theorem Bv.kits {K : PySem.W.Frag} {H : Hp} {x : V} {T : String} (h : Bv H x T) : PySem.W.kitOne K (.type T) (.type "str") = some (isS x) ∧ PySem.W.kitOne K (.type T) (.type "bool") = some (isB x) ∧ PySem.W.kitOne K (.type T) (.type "int") = some (isI x || isB x) := by
  cases h with
  | non => exact ⟨kit_ty (r := false) (by decide +kernel), kit_ty (r := false) (by decide +kernel), kit_ty (r := false) (by decide +kernel)⟩
  | bl b => exact ⟨kit_ty (r := false) (by decide +kernel), kit_ty (r := true) (by decide +kernel), kit_ty (r := true) (by decide +kernel)⟩
  | int i => exact ⟨kit_ty (r := false) (by decide +kernel), kit_ty (r := false) (by decide +kernel), kit_ty (r := true) (by decide +kernel)⟩
  | str z => exact ⟨kit_ty (r := true) (by decide +kernel), kit_ty (r := false) (by decide +kernel), kit_ty (r := false) (by decide +kernel)⟩
  | lst e => exact ⟨kit_ty (r := false) (by decide +kernel), kit_ty (r := false) (by decide +kernel), kit_ty (r := false) (by decide +kernel)⟩
  | tup e => exact ⟨kit_ty (r := false) (by decide +kernel), kit_ty (r := false) (by decide +kernel), kit_ty (r := false) (by decide +kernel)⟩
  | dK e => exact ⟨kit_ty (r := false) (by decide +kernel), kit_ty (r := false) (by decide +kernel), kit_ty (r := false) (by decide +kernel)⟩
end Tw
namespace K02
open PySem PySem.Spec PyProof.Rows L2 He Tw
def topS (i : Nat) : Stmt := PySem.Challenge.pw_twoheads_k02_items.main.body.getD i (.Pass ⟨0, 0, 0, 0⟩)
def dM (c : Str) (i j : Nat) (m : Str) (dvs : List Dv) : DefD := ⟨(c, some m), m, c ++ "." ++ m, defArgs (inClass (topS i) j), defBody (inClass (topS i) j), defScope (inClass (topS i) j), dvs, []⟩
def dF (x : Str) (i : Nat) : DefD := ⟨(x, none), x, x, defArgs (topS i), defBody (topS i), defScope (topS i), [], []⟩
def clss : List Str := ["HeadsError", "BadInput", "BadItem", "Item"]
def fnames : List Str := ["is_lettered", "is_number", "is_rank", "_law_pen", "_law_draw", "_law_pick", "_law_name", "_law_rank", "_law_heard", "_law_refused", "_law_pair_right", "law"]
def blts : List Str := ["list", "int", "len", "abs", "isinstance", "repr", "range", "str", "bool", "all"]
def kinds : List String := ["NoneType", "bool", "int", "str", "list", "tuple", "dict"]
def fn : List DefD := [dM "BadItem" 3 0 "__init__" [], dM "Item" 12 0 "__init__" [.str ""], dM "Item" 12 1 "__eq__" [], dM "Item" 12 2 "__str__" [], dM "Item" 12 3 "before" [], dM "Item" 12 4 "same" [],
  dF "is_lettered" 7, dF "is_number" 10, dF "is_rank" 11, dF "_law_pen" 14, dF "_law_draw" 15, dF "_law_pick" 16, dF "_law_name" 17, dF "_law_rank" 18, dF "_law_heard" 19, dF "_law_refused" 20, dF "_law_pair_right" 21, dF "law" 22]
def letters : Str := "abcdefghijklmnopqrstuvwxyz"
def beyond : Int := 10 ^ 30
def specials : List Str := ["__eq__", "__str__"]
def fs : Fz := [fun K => clss.all fun x => (Fa.glo x).ok K, fun K => fnames.all fun x => (Fa.glo x).ok K, fun K => blts.all fun x => (Fa.free x).ok K, fun K => (Fa.int "BEYOND" beyond).ok K, fun K => (Fa.int "LONGEST" 8).ok K, fun K => (Fa.str "LETTERS" letters).ok K,
  fun K => (Fy.xc "BadItem").ok K, fun K => Fy.xo.ok K, fun K => (Fy.ini "BadItem").ok K, fun K => (Fy.names "BadItem" ["part"]).ok K, fun K => (Fy.kit "BadItem" "BadItem" true).ok K, fun K => decide (PySem.W.exmOne K (.ref (ga K "BadItem")) (.ref (ga K "HeadsError")) = some true), fun K => (Fy.kit "BadItem" "Item" false).ok K,
  fun K => kinds.all fun t => decide (PySem.W.kitOne K (.type t) (.ref (ga K "Item")) = some false) && decide (PySem.W.kitOne K (.type t) (.ref (ga K "BadItem")) = some false) && PySem.W.notFirst K (ga K "Item") (.type t),
  fun K => PySem.W.notFirst K (ga K "Item") (.ref (ga K "BadItem")), fun K => PySem.W.notFirst K (ga K "Item") (.ref (ga K "Item")), fun K => (Fy.kit "Item" "Item" true).ok K,
  fun K => (Fa.cls "Item").ok K, fun K => (Fa.mkr "Item").ok K, fun K => (["rank", "name"] : List Str).all fun f => (Fa.noat "Item" f).ok K, fun K => (["before", "same"] : List Str).all fun m => (Fa.meth "Item" m).ok K,
  fun K => specials.all fun m => (Fa.meth "Item" m).ok K, fun K => eqO (PySem.W.findIn K (.ref (ga K "Item")) "__ne__") (some (some (.builtin "object.__ne__"))), fun K => decide (PySem.W.mroIn K (ga K "Item") (.type "object") = some true),
  fun K => eqO (PySem.W.findIn K (.ref (ga K "Item")) "__class__") (some (some (.builtin "object.__class__")))]
/-- what the walk asks of the written part and of the module's names -/
structure Txt (K : Fg) (mg : Str → Option Value) : Prop where
  c : SaysY fs fn K
  gl : ∀ x, (Fa.glo x).ok K = true → mg x = some (.ref (ga K x))
  fr : ∀ x, (Fa.free x).ok K = true → mg x = none
  nt : ∀ x i, (Fa.int x i).ok K = true → ∃ t, mg x = some (.int i t)
  tx : ∀ x z, (Fa.str x z).ok K = true → ∃ t, mg x = some (.str z t)
section
variable {K : Fg} {mg : Str → Option Value}
theorem Txt.cl (T : Txt K mg) {x : Str} (h : x ∈ clss) : mg x = some (.ref (ga K x)) := T.gl x (of_all (f := fun x => (Fa.glo x).ok K) (T.c.fact 0) h)
theorem Txt.fn (T : Txt K mg) {x : Str} (h : x ∈ fnames) : mg x = some (.ref (ga K x)) := T.gl x (of_all (f := fun x => (Fa.glo x).ok K) (T.c.fact 1) h)
theorem Txt.bl (T : Txt K mg) {x : Str} (h : x ∈ blts) : mg x = none := T.fr x (of_all (f := fun x => (Fa.free x).ok K) (T.c.fact 2) h)
theorem Txt.beyond (T : Txt K mg) : ∃ t, mg "BEYOND" = some (.int K02.beyond t) := T.nt _ _ (T.c.fact 3)
theorem Txt.longest (T : Txt K mg) : ∃ t, mg "LONGEST" = some (.int 8 t) := T.nt _ _ (T.c.fact 4)
theorem Txt.letters (T : Txt K mg) : ∃ t, mg "LETTERS" = some (.str K02.letters t) := T.tx _ _ (T.c.fact 5)
theorem Txt.xc (T : Txt K mg) : XC K (ga K "BadItem") := xc_ok (T.c.fact 6)
theorem Txt.xo (T : Txt K mg) : XO K := xo_ok (T.c.fact 7)
theorem Txt.ini (T : Txt K mg) : PySem.W.findIn K (.ref (ga K "BadItem")) "__init__" = some (some (.ref (ma K (ga K "BadItem") "__init__"))) ∧ PySem.W.typeIn K (.ref (ma K (ga K "BadItem") "__init__")) = some (.type "function") := ini_ok (T.c.fact 8)
theorem Txt.no (T : Txt K mg) : PySem.W.findIn K (.ref (ga K "BadItem")) "part" = some none := names_ok (T.c.fact 9) (by decide +kernel)
theorem Txt.kitBB (T : Txt K mg) : PySem.W.kitOne K (.ref (ga K "BadItem")) (.ref (ga K "BadItem")) = some true := kit_ok (T.c.fact 10)
theorem Txt.exm (T : Txt K mg) : PySem.W.exmOne K (.ref (ga K "BadItem")) (.ref (ga K "HeadsError")) = some true := of_decide_eq_true (T.c.fact 11)
theorem Txt.kitBI (T : Txt K mg) : PySem.W.kitOne K (.ref (ga K "BadItem")) (.ref (ga K "Item")) = some false := kit_ok (T.c.fact 12)
theorem Txt.kind (T : Txt K mg) {t : String} (h : t ∈ kinds) : PySem.W.kitOne K (.type t) (.ref (ga K "Item")) = some false ∧ PySem.W.kitOne K (.type t) (.ref (ga K "BadItem")) = some false ∧ PySem.W.notFirst K (ga K "Item") (.type t) = true := by
  obtain ⟨z, c⟩ := ba (List.all_eq_true.mp (T.c.fact 13) t h)
  obtain ⟨a, b⟩ := ba z
  exact ⟨of_decide_eq_true a, of_decide_eq_true b, c⟩
theorem Txt.nfB (T : Txt K mg) : PySem.W.notFirst K (ga K "Item") (.ref (ga K "BadItem")) = true := T.c.fact 14
theorem Txt.nfI (T : Txt K mg) : PySem.W.notFirst K (ga K "Item") (.ref (ga K "Item")) = true := T.c.fact 15
theorem Txt.kitII (T : Txt K mg) : PySem.W.kitOne K (.ref (ga K "Item")) (.ref (ga K "Item")) = some true := kit_ok (T.c.fact 16)
theorem Txt.cls (T : Txt K mg) : Cls K (ga K "Item") := cls_ok (T.c.fact 17)
theorem Txt.mkI (T : Txt K mg) : Mk K (ga K "Item") (ma K (ga K "Item") "__init__") := mkr_ok (T.c.fact 18)
theorem Txt.na (T : Txt K mg) {f : Str} (h : f ∈ (["rank", "name"] : List Str)) : NoAttr K (ga K "Item") f := noat_ok (List.all_eq_true.mp (T.c.fact 19) f h)
theorem Txt.mt (T : Txt K mg) {m : Str} (h : m ∈ (["before", "same"] : List Str)) : Meth K (ga K "Item") m (ma K (ga K "Item") m) := meth_ok (List.all_eq_true.mp (T.c.fact 20) m h)
theorem Txt.sp (T : Txt K mg) {m : Str} (h : m ∈ specials) : Meth K (ga K "Item") m (ma K (ga K "Item") m) := meth_ok (List.all_eq_true.mp (T.c.fact 21) m h)
theorem Txt.ne (T : Txt K mg) : PySem.W.findIn K (.ref (ga K "Item")) "__ne__" = some (some (.builtin "object.__ne__")) := eqO_ok (T.c.fact 22)
theorem Txt.mro (T : Txt K mg) : PySem.W.mroIn K (ga K "Item") (.type "object") = some true := of_decide_eq_true (T.c.fact 23)
theorem Txt.ca (T : Txt K mg) : PySem.W.findIn K (.ref (ga K "Item")) "__class__" = some (some (.builtin "object.__class__")) := eqO_ok (T.c.fact 24)
end
abbrev s_draw : Stmt := topS 15
abbrev N_draw : List Str := ["_law_pen_here", "_law_many", "_law_digit", "_law_at", "_law_cell", "_law_great", "_law_mixed"]
theorem sc_draw : FnScope N_draw ["_law_pen_here", "_law_many"] (defScope s_draw) := ⟨rfl, rfl, rfl, by decide +kernel, rfl, by decide +kernel, by decide +kernel⟩
section
variable {P : Program} {w : World} {K : Fg} {mg : Str → Option Value} {base : Heap}
theorem ok_draw {f : Addr} {fd : FuncData} (F : FnP K "_law_draw" "_law_draw" s_draw f fd) (T : Txt K mg) : FnOk P w K mg base CX0 1 f fd ["_law_pen_here", "_law_many"] spDrawL := by
  have zint : mg "int" = none := T.bl (by decide +kernel)
  have zlen : mg "len" = none := T.bl (by decide +kernel)
  have zabs : mg "abs" = none := T.bl (by decide +kernel)
  refine F.ok sc_draw (fun vs H Q E h => ?_) (fun cdv A outer s H vs Q E hr h => ?_)
  · obtain ⟨p, l, m, c, rfl, _⟩ := h
    rfl
  · obtain ⟨p, l, m, c, rfl, hm0, hm1, ⟨ns, i, g, hp, hl, hlp, hn, hi0, hic, hg0⟩, hc, k⟩ := h
    have hsp : SqL K H p [.ref l, .int i, .int g] := SqL.of hp
    have hsl : SqL K H l (ns.map V.int) := SqL.of hl
    refine ⟨_, PSs.nox (pss_cons (ps_if (pt_cmpR op_gt (pe_ix ix_list (pv 0) pe_int (fun _ _ => rfl)) pe_int (nomark _)) (pss_cons (ps_set (i := 2) sc_draw.nd rfl (Or.inl rfl) (pe_op op_mod (pe_callTy call_int1 (by rfl) zint (by decide +kernel) (pa_cons (pe_ix ix_list (pv 0) pe_int (fun _ _ => rfl)) pa_nil)) (pv 1)))
    (pss_cons (ps_asg (pe_op op_fdiv (pe_callTy call_int1 (by rfl) zint (by decide +kernel) (pa_cons (pe_ix ix_list (pv 0) pe_int (fun _ _ => rfl)) pa_nil)) (pv 1)) (pg_sub (pv 0) pe_int set_list))
    (pss_one (ps_ret (pv 2))))) pss_nil)
    (pss_cons (ps_set (i := 3) sc_draw.nd rfl (Or.inl rfl) (pe_ix ix_list (pv 0) pe_int (fun _ _ => rfl)))
    (pss_cons (ps_asg (pe_op op_add (pv 3) pe_int) (pg_sub (pv 0) pe_int set_list))
    (pss_cons (ps_set (i := 4) sc_draw.nd rfl (Or.inl rfl) (pe_op op_add (pe_op op_mul pe_int (pv 3)) pe_int))
    (pss_mid (ps_if (pt_cmpR (op_neD hr.units) (pe_ix ix_list (pv 0) pe_int (fun _ _ => rfl)) (pe_lst pa_nil) (nomark _)) (pss_one (ps_set (i := 4) sc_draw.nd rfl (Or.inl rfl) (pe_ix ix_list (pe_ix ix_list (pv 0) pe_int (fun _ _ => rfl)) (pe_op op_mod (pe_callTy call_int1 (by rfl) zint (by decide +kernel) (pa_cons (pv 3) pa_nil)) (pe_callB call_len (by rfl) zlen (by decide +kernel) (pa_cons (pe_ix ix_list (pv 0) pe_int (fun _ _ => rfl)) pa_nil))) (fun _ _ => rfl)))) pss_nil)
    (pss_mid (ps_if (PW.pt (pw_and (pt_cmpR op_lt (pv 3) (pe_callB call_len (by rfl) zlen (by decide +kernel) (pa_cons (pe_ix ix_list (pv 0) pe_int (fun _ _ => rfl)) pa_nil)) (nomark _)) (pw_and1 (pt_cmpR op_ge (pe_callB call_abs (by rfl) zabs (by decide +kernel) (pa_cons (pv 4) pa_nil)) (pe_op op_pow pe_int pe_int) (nomark _))))) (pss_cons (ps_set (i := 5) sc_draw.nd rfl (Or.inl rfl) (pe_op op_add (pe_op op_mul pe_int (pe_op op_sub (pe_callB call_abs (by rfl) zabs (by decide +kernel) (pa_cons (pv 4) pa_nil)) (pe_op op_pow pe_int pe_int))) (pe_callTy call_int1 (by rfl) zint (by decide +kernel) (pa_cons (pe_cmpR op_lt (pv 4) pe_int (nomark _)) pa_nil))))
    (pss_cons (ps_asg (pe_op op_fdiv (pe_callTy call_int1 (by rfl) zint (by decide +kernel) (pa_cons (pv 5) pa_nil)) (pv 1)) (pg_sub (pv 0) pe_int set_list))
    (pss_one (ps_ret (pe_op op_mod (pe_callTy call_int1 (by rfl) zint (by decide +kernel) (pa_cons (pv 5) pa_nil)) (pv 1)))))) pss_nil)
    (pss_mid (ps_set (i := 6) sc_draw.nd rfl (Or.inl rfl) (pe_op op_mod (pe_callTy call_int1 (by rfl) zint (by decide +kernel) (pa_cons (pe_op op_pow (pe_op op_add (pe_op op_add (pe_op op_mod (pe_callTy call_int1 (by rfl) zint (by decide +kernel) (pa_cons (pv 4) pa_nil)) pe_int) (pe_op op_mul pe_int (pv 3))) pe_int) pe_int) pa_nil)) pe_int))
    (pss_mid (ps_set (i := 6) sc_draw.nd rfl (Or.inl rfl) (pe_op op_mod (pe_callTy call_int1 (by rfl) zint (by decide +kernel) (pa_cons (pe_op op_pow (pe_op op_add (pe_op op_add (pe_op op_mul (pv 6) (pe_op op_add (pe_op op_mul pe_int (pv 3)) pe_int)) (pe_op op_mul (pe_op op_mul pe_int (pv 3)) (pv 3))) pe_int) pe_int) pa_nil)) pe_int))
    (pss_one (ps_ret (pe_op op_mod (pe_callTy call_int1 (by rfl) zint (by decide +kernel) (pa_cons (pe_op op_fdiv (pv 6) pe_int) pa_nil)) (pv 1)))))))))))), ?_⟩
    -- if pen[2] > 0
    refine ⟨_, rfl, p, _, 2, .int g, rfl, rfl, hsp, rfl, _, _, rfl, rfl, _, rfl, ?_⟩
    refine ite2 (fun hgt => ?_) (fun hle => ?_)
    · refine ⟨_, rfl, p, _, 2, .int g, rfl, rfl, hsp, rfl, .inl ⟨g, rfl, _, rfl, g, m, rfl, rfl, hm0, ?_⟩⟩
      refine ⟨_, rfl, p, _, 2, .int g, rfl, rfl, hsp, rfl, .inl ⟨g, rfl, _, rfl, g, m, rfl, rfl, ⟨hm0, hm1⟩, ?_⟩⟩
      refine ⟨_, rfl, p, _, 2, 2, rfl, rfl, hp, rfl, _, rfl, ?_⟩
      refine k (g % m) _ (Int.emod_nonneg _ (by omega)) (Int.emod_lt_of_pos _ hm0) ⟨ns, i, g / m, upd_same, by rw [upd_ne hlp]; exact hl, hlp, hn, hi0, by omega, Int.ediv_nonneg hg0 (by omega)⟩ But.upd
    · -- at = pen[1]; pen[1] = at + 1; cell = ..
      refine ⟨_, rfl, p, _, 1, .int i, rfl, rfl, hsp, rfl, ?_⟩
      refine ⟨_, rfl, i, 1, rfl, rfl, _, rfl, p, _, 1, 1, rfl, rfl, hp, rfl, ?_⟩
      refine ⟨_, rfl, _, i, rfl, rfl, .inl ⟨by decide, by decide⟩, _, _, rfl, rfl, ?_⟩
      have hp1 : (upd H p (.lst ([V.ref l, .int i, .int g].set 1 (.int (i + 1))))) p = some (.lst [.ref l, .int (i + 1), .int g]) := upd_same
      have hl1 : (upd H p (.lst ([V.ref l, .int i, .int g].set 1 (.int (i + 1))))) l = some (.lst (ns.map V.int)) := by rw [upd_ne hlp]; exact hl
      have b1 : But p H (upd H p (.lst ([V.ref l, .int i, .int g].set 1 (.int (i + 1))))) := But.upd
      generalize upd H p (.lst ([V.ref l, .int i, .int g].set 1 (.int (i + 1)))) = H1 at hp1 hl1 b1 ⊢
      -- if pen[0] != []
      refine ⟨fun σ' H' => ∃ z : Int, σ' = [some (.ref p), some (.int m), none, some (.int i), some (.int z), none, none] ∧ H' p = some (.lst [.ref l, .int (i + 1), .int g]) ∧ H' l = some (.lst (ns.map V.int)) ∧ But p H H', ?_, ?_⟩
      · refine ⟨_, rfl, p, _, 0, .ref l, rfl, rfl, SqL.of hp1, rfl, (by show 0 ≤ sizeLine; decide), fun q hq => ?_⟩
        have hq1 : p ≠ q := ne_of_none hp1 hq
        have hq2 : l ≠ q := ne_of_none hl1 hq
        have hp2 : (upd H1 q (.lst [])) p = some (.lst [.ref l, .int (i + 1), .int g]) := by rw [upd_ne hq1]; exact hp1
        have hl2 : (upd H1 q (.lst [])) l = some (.lst (ns.map V.int)) := by rw [upd_ne hq2]; exact hl1
        have hq3 : (upd H1 q (.lst [])) q = some (.lst []) := upd_same
        have b2 : But p H (upd H1 q (.lst [])) := b1.trans (But.of (same_new hq))
        generalize upd H1 q (.lst []) = H2 at hp2 hl2 hq3 b2 ⊢
        refine ⟨_, _, .lst (SqL.of hl2) (dp_ints ns), .lst (SqL.of hq3) .nil, shaped_ints ns, shaped_ints [], _, rfl, ?_⟩
        refine ite2 (fun hne => ?_) (fun _ => ⟨_, rfl, hp2, hl2, b2⟩)
        have hns : 0 < ns.length := by
          cases ns with
          | nil => exact absurd hne (by decide)
          | cons n r => exact Nat.succ_pos _
        have hz : (0 : Int) < ((ns.map V.int).length : Int) := by rw [List.length_map]; omega
        have j0 := Int.emod_nonneg i (Int.ne_of_gt hz)
        have j1 := Int.emod_lt_of_pos i hz
        obtain ⟨z, ez⟩ : ∃ z, (ns.map V.int)[(i % ((ns.map V.int).length : Int)).toNat]? = some (V.int z) := by
          rw [List.length_map] at j0 j1 ⊢
          have hlt : (i % (ns.length : Int)).toNat < ns.length := by omega
          exact ⟨ns[(i % (ns.length : Int)).toNat], by rw [List.getElem?_map, List.getElem?_eq_getElem hlt]; rfl⟩
        exact ⟨_, rfl, p, _, 0, .ref l, rfl, rfl, SqL.of hp2, rfl, _, rfl, .inl ⟨i, rfl, _, rfl, p, _, 0, .ref l, rfl, rfl, SqL.of hp2, rfl, _, _, rfl, .inl ⟨_, SqL.of hl2, rfl⟩, _, _, rfl, rfl, hz, l, _, _, .int z, rfl, rfl, SqL.of hl2, atI_of j0 ez, _, rfl, hp2, hl2, b2⟩⟩
      · rintro σ2 H2 ⟨z, rfl, hp2, hl2, b2⟩
        -- if at < len(pen[0]) and abs(cell) >= 10 ** 18
        refine ⟨fun σ' H' => σ' = [some (.ref p), some (.int m), none, some (.int i), some (.int z), none, none] ∧ H' = H2, ?_, ?_⟩
        · refine ⟨_, rfl, _, rfl, p, _, 0, .ref l, rfl, rfl, SqL.of hp2, rfl, _, _, rfl, .inl ⟨_, SqL.of hl2, rfl⟩, _, _, rfl, rfl, _, rfl, ?_⟩
          refine ite2 (fun _ => ?_) (fun _ => ⟨rfl, rfl⟩)
          refine ⟨_, rfl, _, rfl, _, _, rfl, rfl, ⟨by decide, by decide, by decide⟩, _, _, rfl, rfl, _, rfl, ?_⟩
          refine ite2 (fun hgr => ?_) (fun _ => ⟨rfl, rfl⟩)
          have hgr' := of_decide_eq_true hgr
          refine ⟨_, rfl, _, rfl, _, _, rfl, rfl, ⟨by decide, by decide, by decide⟩, _, _, rfl, rfl, _, _, rfl, rfl, .inl ⟨by decide, by decide⟩, _, rfl, _, _, rfl, rfl, .inr ⟨_, rfl, _, _, rfl, rfl, ?_⟩⟩
          refine ⟨_, rfl, .inl ⟨_, rfl, _, rfl, _, _, rfl, rfl, ⟨hm0, hm1⟩, _, rfl, p, _, 2, 2, rfl, rfl, hp2, rfl, ?_⟩⟩
          refine ⟨_, rfl, .inl ⟨_, rfl, _, rfl, _, _, rfl, rfl, hm0, ?_⟩⟩
          have hpos : (0 : Int) ≤ 2 * ((if z < 0 then -z else z) - 10 ^ (18 : Int).toNat) + (if decide (z < 0) = true then 1 else 0) := by
            have h2 : (0 : Int) ≤ (if decide (z < 0) = true then 1 else 0) := by split <;> decide
            omega
          exact k _ _ (Int.emod_nonneg _ (Int.ne_of_gt hm0)) (Int.emod_lt_of_pos _ hm0) ⟨ns, i + 1, _, upd_same, by rw [upd_ne hlp]; exact hl2, hlp, hn, by omega, by omega, Int.ediv_nonneg hpos (Int.le_of_lt hm0)⟩ (b2.trans But.upd)
        · rintro σ3 H3 ⟨rfl, rfl⟩
          -- the two mixings
          refine ⟨fun σ' H' => ∃ x : Int, σ' = [some (.ref p), some (.int m), none, some (.int i), some (.int z), none, some (.int x)] ∧ H' = H3 ∧ 0 ≤ x ∧ x < 2147483648, ?_, ?_⟩
          · refine ⟨_, rfl, .inl ⟨_, rfl, _, _, rfl, rfl, (by show (0 : Int) < _; decide), _, rfl, _, _, rfl, rfl, .inl ⟨by decide, by decide⟩, _, _, rfl, rfl, _, _, rfl, rfl, _, _, rfl, rfl, ⟨by decide, by decide, ?_⟩, .inl ⟨_, rfl, _, _, rfl, rfl, (by show (0 : Int) < _; decide), _, rfl, rfl, Int.emod_nonneg _ (by decide), Int.lt_trans (Int.emod_lt_of_pos _ (by decide)) (by decide)⟩⟩⟩
            apply pow_ok <;> omega
          rintro σ4 H4 ⟨x, rfl, rfl, x0, x1⟩
          have hi6 : i ≤ 1000000 := by omega
          have q1 := mul_le' x0 (Int.le_of_lt x1) (show (0 : Int) ≤ 2 * i by omega) (show 2 * i ≤ 2000000 by omega)
          have q2 := mul_le' hi0 hi6 hi0 hi6
          refine ⟨fun σ' H' => ∃ y : Int, σ' = [some (.ref p), some (.int m), none, some (.int i), some (.int z), none, some (.int y)] ∧ H' = H4, ?_, ?_⟩
          · refine ⟨_, rfl, _, rfl, _, _, rfl, rfl, .inl ⟨by decide, by decide⟩, _, _, rfl, rfl, _, _, rfl, rfl, .inl ⟨by omega, by omega⟩, _, rfl, _, _, rfl, rfl, .inl ⟨by decide, by decide⟩, _, rfl, _, _, rfl, rfl, .inl ⟨by omega, by omega⟩, _, _, rfl, rfl, _, _, rfl, rfl, _, _, rfl, rfl, ⟨by decide, by decide, ?_⟩, .inl ⟨_, rfl, _, _, rfl, rfl, (by show (0 : Int) < _; decide), _, rfl, rfl⟩⟩
            rw [Int.mul_add, Int.mul_assoc _ i i]
            apply pow_ok <;> omega
          rintro σ5 H5 ⟨y, rfl, rfl⟩
          refine ⟨_, rfl, _, _, rfl, rfl, ⟨by decide, by decide⟩, .inl ⟨_, rfl, _, rfl, _, _, rfl, rfl, hm0, ?_⟩⟩
          exact k _ _ (Int.emod_nonneg _ (Int.ne_of_gt hm0)) (Int.emod_lt_of_pos _ hm0) ⟨ns, i + 1, g, hp2, hl2, hlp, hn, by omega, by omega, hg0⟩ b2
end
abbrev s_pen : Stmt := topS 14
abbrev N_pen : List Str := ["_law_script"]
theorem sc_pen : FnScope N_pen ["_law_script"] (defScope s_pen) := ⟨rfl, rfl, rfl, by decide +kernel, rfl, by decide +kernel, by decide +kernel⟩
abbrev s_pick : Stmt := topS 16
abbrev N_pick : List Str := ["_law_pen_here", "_law_some"]
theorem sc_pick : FnScope N_pick ["_law_pen_here", "_law_some"] (defScope s_pick) := ⟨rfl, rfl, rfl, by decide +kernel, rfl, by decide +kernel, by decide +kernel⟩
section
variable {P : Program} {w : World} {K : Fg} {mg : Str → Option Value} {base : Heap}
theorem ok_pen {f : Addr} {fd : FuncData} (F : FnP K "_law_pen" "_law_pen" s_pen f fd) (T : Txt K mg) : FnOk P w K mg base CX0 1 f fd ["_law_script"] (spPenL K) := by
  have zlist : mg "list" = none := T.bl (by decide +kernel)
  refine F.ok sc_pen (fun vs H Q E h => ?_) (fun cdv A outer s H vs Q E hr h => ?_)
  · obtain ⟨a, ns, rfl, _⟩ := h
    rfl
  · obtain ⟨a, ns, rfl, hS, hn, k⟩ := h
    obtain ⟨ms, em, hm⟩ := cut_ints ns none (some 63)
    refine ⟨_, PSs.nox (pss_one (ps_ret (pe_lst (pa_cons (pe_callTy call_list_of (by rfl) zlist (by decide +kernel) (pa_cons (pe_slice sl_list (pv 0) po_none (po_some pe_int)) pa_nil)) (pa_cons pe_int (pa_cons pe_int pa_nil)))))), ?_⟩
    refine ⟨_, rfl, _, rfl, a, _, rfl, hS, fun q hq => ⟨q, _, rfl, .inl (SqL.of upd_same), fun l hl => ⟨sz1000 (by show 3 ≤ 1000; decide), fun p hp => ?_⟩⟩⟩
    rw [em] at hl hp ⊢
    have s1 := same_new (o := .lst (ms.map V.int)) hq
    have s2 := same_new (o := .lst (ms.map V.int)) hl
    have s3 := same_new (o := .lst [.ref l, .int 0, .int 0]) hp
    have hl' : (upd (upd H q (.lst (ms.map V.int))) l (.lst (ms.map V.int))) l = some (.lst (ms.map V.int)) := upd_same
    exact k p l _ ((s1.trans s2).free hp) ⟨ms, 0, 0, upd_same, s3 _ _ hl', ne_of_none hl' hp, by omega, by decide, by decide, by decide⟩ ((s1.trans s2).trans s3)
theorem ok_pick {f fD : Addr} {fd fdD : FuncData} (F : FnP K "_law_pick" "_law_pick" s_pick f fd) (FD : FnP K "_law_draw" "_law_draw" s_draw fD fdD) (gD : mg "_law_draw" = some (.ref fD)) (T : Txt K mg) : FnOk P w K mg base CX0 2 f fd ["_law_pen_here", "_law_some"] (spPickL K) := by
  have zlen : mg "len" = none := T.bl (by decide +kernel)
  have G_draw : FnOk P w K mg base CX0 1 fD fdD ["_law_pen_here", "_law_many"] spDrawL := ok_draw FD T
  have b_draw : Binds K fdD ["_law_pen_here", "_law_many"] [] := FD.bindsN fun _ _ _ _ _ _ us hl => match us, hl with | [_, _], _ => rfl
  refine F.ok sc_pick (fun vs H Q E h => ?_) (fun cdv A outer s H vs Q E hr h => ?_)
  · obtain ⟨p, l, q, xs, c, rfl, _⟩ := h
    rfl
  · obtain ⟨p, l, q, xs, c, rfl, hS, hqp, hx0, hx1, hP, hc, k⟩ := h
    refine ⟨_, PSs.nox (pss_one (ps_ret (pe_ix ix_list (pv 1) (pe_call G_draw (hr.mono (by decide)) rfl gD FD.kp b_draw .nil pass0 (pa_cons (pv 0) (pa_cons (pe_callB call_len (by rfl) zlen (by decide +kernel) (pa_cons (pv 1) pa_nil)) pa_nil))) (fun _ _ => rfl)))), ?_⟩
    refine ⟨_, rfl, _, rfl, _, rfl, _, _, rfl, .inl ⟨xs, hS, rfl⟩, p, l, (xs.length : Int), c, rfl, by omega, by omega, hP, hc, fun r H' h0 h1 hP' hB => ?_⟩
    have hlt : r.toNat < xs.length := by omega
    exact ⟨q, xs, r, _, rfl, rfl, hB.seq hqp hS, atI_of h0 (List.getElem?_eq_getElem hlt), k _ H' (List.getElem_mem hlt) hP' hB⟩
end
end K02
namespace K02
open PySem PySem.Spec PyProof.Rows L2 He Tw
/-! ### the program -/
def rankOk : V → Bool
  | .int i => decide (-beyond < i) && decide (i < beyond)
  | _ => false
def textOk (z : Str) : Bool := decide (z.length ≤ 8) && z.cps.toList.all fun c => decide (c ∈ letters.cps.toList)
def nameOk : V → Bool
  | .str z => textOk z
  | _ => false
/-- an item of rank i and name z -/
def It (K : Fg) (H : Hp) (a : Addr) (i : Int) (z : Str) : Prop := ∃ dx, H a = some (.ins (ga K "Item") dx [("rank", .int i), ("name", .str z)])
theorem It.same {K : Fg} {H H' : Hp} {a : Addr} {i : Int} {z : Str} (e : Same H H') (h : It K H a i z) : It K H' a i z := by
  obtain ⟨dx, h⟩ := h
  exact ⟨dx, e _ _ h⟩
def spIni (C : Addr) (f : Str) : Sp := fun vs H Q _ => ∃ (a : Addr) (v : V), vs = [.ref a, v] ∧ H a = some (exo a C none) ∧ ∀ (d : Addr) (H' : Hp), H d = none → d ≠ a → H' a = some (exo a C (some d)) → H' d = some (exd d [(f, v)]) → But a H H' → Q .non H'
def spNum : Sp := fun vs H Q _ => ∃ (x : V) (T : String), vs = [x] ∧ Bv H x T ∧ Q (.bl (isI x)) H
def spRank : Sp := fun vs H Q _ => ∃ (x : V) (T : String), vs = [x] ∧ Bv H x T ∧ Q (.bl (rankOk x)) H
def spLet : Sp := fun vs H Q _ => ∃ (x : V) (T : String), vs = [x] ∧ Bv H x T ∧ (∀ z, x = .str z → z.length ≤ 1000) ∧ ∀ H', Same H H' → Q (.bl (nameOk x)) H'
section
variable {P : Program} {w : World} {K : Fg} {mg : Str → Option Value} {base : Heap}
abbrev s_bad : Stmt := inClass (topS 3) 0
theorem sc_bad : FnScope ["self", "part"] ["self", "part"] (defScope s_bad) := ⟨rfl, rfl, rfl, by decide +kernel, rfl, by decide +kernel, by decide +kernel⟩
theorem ok_bad {f : Addr} {fd : FuncData} (F : FnP K "__init__" "BadItem.__init__" s_bad f fd) (T : Txt K mg) : FnOk P w K mg base CX0 1 f fd ["self", "part"] (spIni (ga K "BadItem") "part") := by
  refine F.ok sc_bad (fun vs H Q E h => ?_) (fun cdv A outer s H vs Q E hr h => ?_)
  · obtain ⟨a, v, rfl, _⟩ := h
    rfl
  · obtain ⟨a, v, rfl, ha, k⟩ := h
    refine ⟨_, PSs.nox (pss_one (ps_ost (pv 0) (pv 1))), ?_⟩
    refine ⟨_, rfl, _, rfl, a, _, rfl, T.xc.ox, T.no, .inl ⟨ha, fun d hd hda => k d _ hd hda upd_same (by rw [upd_ne hda]; exact upd_same) fun b o hb hba => ?_⟩⟩
    rw [upd_ne hba, upd_ne (ne_of_none hb hd)]
    exact hb
abbrev s_num : Stmt := topS 10
theorem sc_num : FnScope ["value"] ["value"] (defScope s_num) := ⟨rfl, rfl, rfl, by decide +kernel, rfl, by decide +kernel, by decide +kernel⟩
theorem ok_num {f : Addr} {fd : FuncData} (F : FnP K "is_number" "is_number" s_num f fd) (T : Txt K mg) : FnOk P w K mg base CX0 1 f fd ["value"] spNum := by
  have zisi : mg "isinstance" = none := T.bl (by decide +kernel)
  have zint : mg "int" = none := T.bl (by decide +kernel)
  have zbool : mg "bool" = none := T.bl (by decide +kernel)
  refine F.ok sc_num (fun vs H Q E h => ?_) (fun cdv A outer s H vs Q E hr h => ?_)
  · obtain ⟨x, t, rfl, _⟩ := h
    rfl
  · obtain ⟨x, t, rfl, b, k⟩ := h
    refine ⟨_, PSs.nox (pss_one (ps_ret (pe_and (pe_callB call_isA (by rfl) zisi (by decide +kernel) (pa_cons (pv 0) (pa_cons (pe_bltn (v := .ty "int") (by rfl) zint (by decide +kernel) rfl) pa_nil))) (pe_one (pe_not (pe_callB call_isA (by rfl) zisi (by decide +kernel) (pa_cons (pv 0) (pa_cons (pe_bltn (v := .ty "bool") (by rfl) zbool (by decide +kernel) rfl) pa_nil)))))))), ?_⟩
    obtain ⟨k1, k2, k3⟩ := b.kits (K := K)
    refine ⟨_, rfl, x, .ty "int", _, _, _, rfl, .ty "int", .inl b.ty, k3, _, rfl, ?_⟩
    cases x with
    | bl y => exact ⟨_, rfl, .bl y, .ty "bool", _, _, _, rfl, .ty "bool", .inl b.ty, k2, _, rfl, k⟩
    | int i => exact ⟨_, rfl, .int i, .ty "bool", _, _, _, rfl, .ty "bool", .inl b.ty, k2, _, rfl, k⟩
    | _ => exact k
abbrev s_rnk : Stmt := topS 11
theorem sc_rnk : FnScope ["value"] ["value"] (defScope s_rnk) := ⟨rfl, rfl, rfl, by decide +kernel, rfl, by decide +kernel, by decide +kernel⟩
theorem ok_rnk {f fN : Addr} {fd fdN : FuncData} (F : FnP K "is_rank" "is_rank" s_rnk f fd) (FN : FnP K "is_number" "is_number" s_num fN fdN) (gN : mg "is_number" = some (.ref fN)) (T : Txt K mg) : FnOk P w K mg base CX0 2 f fd ["value"] spRank := by
  obtain ⟨tb, gB⟩ := T.beyond
  have G_num : FnOk P w K mg base CX0 1 fN fdN ["value"] spNum := ok_num FN T
  have b_num : Binds K fdN ["value"] [] := FN.bindsN fun _ _ _ _ _ _ us hl => match us, hl with | [_], _ => rfl
  refine F.ok sc_rnk (fun vs H Q E h => ?_) (fun cdv A outer s H vs Q E hr h => ?_)
  · obtain ⟨x, t, rfl, _⟩ := h
    rfl
  · obtain ⟨x, t, rfl, b, k⟩ := h
    refine ⟨_, PSs.nox (pss_one (ps_ret (pe_and (pe_call G_num (hr.mono (by decide)) rfl gN FN.kp b_num .nil pass0 (pa_cons (pv 0) pa_nil)) (pe_one (pe_chain op_lt op_lt (pe_un un_neg (pe_glob (v := .int beyond) rfl gB ⟨_, rfl⟩)) (pv 0) (pe_glob (v := .int beyond) rfl gB ⟨_, rfl⟩)))))), ?_⟩
    refine ⟨_, rfl, x, t, rfl, b, _, rfl, ?_⟩
    cases x with
    | int i =>
      refine ⟨_, rfl, _, rfl, _, _, rfl, rfl, _, rfl, ?_⟩
      have e : rankOk (.int i) = (decide (-beyond < i) && decide (i < beyond)) := rfl
      rw [e] at k
      by_cases h1 : -beyond < i
      · rw [decide_eq_true h1, Bool.true_and] at k
        rw [if_pos (decide_eq_true h1)]
        exact ⟨_, _, rfl, rfl, k⟩
      · rw [decide_eq_false h1, Bool.false_and] at k
        rw [decide_eq_false h1]
        exact k
    | _ => exact k
end
end K02
namespace K02
open PySem PySem.Spec PyProof.Rows L2 He Tw
abbrev s_let : Stmt := topS 7
abbrev N_let : List Str := ["value", "sign"]
theorem sc_let : FnScope N_let ["value"] (defScope s_let) := ⟨rfl, rfl, rfl, by decide +kernel, rfl, by decide +kernel, by decide +kernel⟩
def inL (c : Nat) : Bool := decide (c ∈ letters.cps.toList)
theorem all_bl (l : List Nat) : ((l.map inL).all id) = l.all inL := by
  induction l with
  | nil => rfl
  | cons c r ih => rw [List.map_cons, List.all_cons, List.all_cons, ih]; rfl
section
variable {P : Program} {w : World} {K : Fg} {mg : Str → Option Value} {base : Heap}
theorem ok_let {f : Addr} {fd : FuncData} (F : FnP K "is_lettered" "is_lettered" s_let f fd) (T : Txt K mg) : FnOk P w K mg base CX0 1 f fd ["value"] spLet := by
  have zisi : mg "isinstance" = none := T.bl (by decide +kernel)
  have zstr : mg "str" = none := T.bl (by decide +kernel)
  have zlen : mg "len" = none := T.bl (by decide +kernel)
  have zall : mg "all" = none := T.bl (by decide +kernel)
  obtain ⟨tL, gL⟩ := T.longest
  obtain ⟨tS, gS⟩ := T.letters
  refine F.ok sc_let (fun vs H Q E h => ?_) (fun cdv A outer s H vs Q E hr h => ?_)
  · obtain ⟨x, t, rfl, _⟩ := h
    rfl
  · obtain ⟨x, t, rfl, b, hz, k⟩ := h
    refine ⟨_, PSs.nox (pss_cons (ps_if (PW.pt (pw_or (pt_not (pt_val (pe_callB call_isA (by rfl) zisi (by decide +kernel) (pa_cons (pv 0) (pa_cons (pe_bltn (v := .ty "str") (by rfl) zstr (by decide +kernel) rfl) pa_nil))))) (pw_or1 (pt_cmpR op_gt (pe_callB call_len (by rfl) zlen (by decide +kernel) (pa_cons (pv 0) pa_nil)) (pe_glob (v := .int 8) rfl gL ⟨_, rfl⟩) (nomark _))))) (pss_one (ps_ret pe_bl)) pss_nil)
    (pss_one (ps_ret (pe_callB (cr_all rfl) (by rfl) zall (by decide +kernel) (pa_cons (pe_lc (own := [("sign", 1)]) (g := gName 1) (tt := tYes) (by rfl) sc_let.nd (pi_str (pv 0)) (blkOk_by (own := [("sign", 1)]) (N := N_let) (sc := defScope s_let) (by decide +kernel)) (fun _ _ _ _ _ => (pg_name (i := 1) sc_let.nd rfl (Or.inl rfl))) (fun _ _ _ _ _ => pts_nil) (fun _ _ _ _ _ => (pe_cmpR op_in_sign (pv 1) (pe_glob (v := .str letters) rfl gS ⟨_, rfl⟩) rfl))) pa_nil))))), ?_⟩
    obtain ⟨k1, k2, k3⟩ := b.kits (K := K)
    refine ⟨_, rfl, x, .ty "str", _, _, _, rfl, .ty "str", .inl b.ty, k1, _, rfl, ?_⟩
    cases x with
    | str z =>
      have hl := hz z rfl
      refine ⟨_, rfl, _, _, rfl, ⟨Nat.le_trans hl (by decide), rfl⟩, _, _, rfl, rfl, _, rfl, ?_⟩
      refine ite2 (fun h => ?_) (fun h => ?_)
      · have h2 : ¬ z.length ≤ 8 := by
          have := of_decide_eq_true h
          omega
        have e : nameOk (.str z) = false := by
          show (decide (z.length ≤ 8) && _) = false
          rw [decide_eq_false h2, Bool.false_and]
        rw [e] at k
        exact k H fun _ _ q => q
      · have h2 : z.length ≤ 8 := by
          have h3 : ¬ (8 : Int) < (z.length : Int) := fun y => h (decide_eq_true y)
          omega
        have e : nameOk (.str z) = z.cps.toList.all inL := by
          show (decide (z.length ≤ 8) && _) = _
          rw [decide_eq_true h2, Bool.true_and]
          rfl
        rw [e] at k
        refine ⟨_, rfl, z, rfl, fun D hD => lcStr (fun i H' => Same H H' ∧ H' D = some (.lst (((z.cps.toList.take i).map inL).map V.bl))) ⟨same_new hD, upd_same⟩ ?_ ?_⟩
        · rintro i c H' hc ⟨sD, gD⟩
          refine ⟨rfl, _, rfl, c, letters, rfl, rfl, _, gD, ?_, ?_, ?_⟩
          · rw [List.length_map, List.length_map]
            exact Nat.lt_of_le_of_lt (List.length_take_le' _ _) (Nat.lt_of_le_of_lt (show z.cps.toList.length ≤ 8 from h2) (by decide))
          · exact fun b o hb => by
              rw [upd_ne (ne_of_none hb hD)]
              exact sD b o hb
          · have hc2 : z.cps.toList[i]? = some c := by rw [Array.getElem?_toList]; exact hc
            rw [upd_same, List.take_add_one, hc2, List.map_append, List.map_append]
            rfl
        · rintro H' ⟨sD, gD⟩
          have e2 : z.cps.toList.take z.cps.size = z.cps.toList := List.take_of_length_le (Nat.le_of_eq (by simp))
          rw [e2] at gD
          refine ⟨D, _, rfl, SqL.of gD, ?_⟩
          rw [all_bl]
          exact k H' sD
    | _ => exact k H fun _ _ q => q
end
/-- what Item.__init__ does: the fields stand, or BadItem goes out with the part -/
def spItem (K : Fg) : Sp := fun vs H Q E => ∃ (a dx : Addr) (x y : V) (t u : String), vs = [.ref a, x, y] ∧ H a = some (.ins (ga K "Item") dx []) ∧ Bv H x t ∧ Bv H y u ∧ (∀ z, y = .str z → z.length ≤ 1000) ∧
  (rankOk x = true → nameOk y = true → ∀ H', But a H H' → H' a = some (.ins (ga K "Item") dx [("rank", x), ("name", y)]) → Q .non H') ∧
  (rankOk x = false ∨ nameOk y = false → ∀ (d : Addr) (H' : Hp), Same H H' → H' d = some (.xd [("part", .str (if rankOk x = true then "name" else "rank"))]) → E (.ref (ga K "BadItem")) (some d) H')
theorem bad_out {H : Hp} {C : Addr} {z : Str} {Q : XK} {E : XK} (k : ∀ (d : Addr) (H' : Hp), Same H H' → H' d = some (.xd [("part", .str z)]) → Q (.ref C) (some d) H') :
    ([V.str z] : List V).length ≤ 1000 ∧ ∀ a, H a = none → spIni C "part" (.ref a :: (([V.str z] : List V) ++ [])) (upd H a (exo a C none)) (fun v H2 => v = .non ∧ ∃ (d : Addr) (fs : List (Str × V)), H2 a = some (exo a C (some d)) ∧ H2 d = some (exd d fs) ∧ H d = none ∧ Q (.ref C) (some d) (upd (del H2 a) d (.xd fs))) E := by
  refine ⟨(by show 1 ≤ 1000; decide), fun a ha => ⟨a, .str z, rfl, upd_same, fun d H' hd hda e1 e2 e3 => ?_⟩⟩
  rw [upd_ne hda] at hd
  refine ⟨rfl, d, _, e1, e2, hd, k d _ (fun b o hb => ?_) upd_same⟩
  have hba : b ≠ a := ne_of_none hb ha
  rw [upd_ne (ne_of_none hb hd), del_ne hba]
  exact e3 b o (by rw [upd_ne hba]; exact hb) hba
abbrev s_item : Stmt := inClass (topS 12) 0
theorem sc_item : FnScope ["self", "rank", "name"] ["self", "rank", "name"] (defScope s_item) := ⟨rfl, rfl, rfl, by decide +kernel, rfl, by decide +kernel, by decide +kernel⟩
abbrev FnI (K : Fg) (f : Addr) (fd : FuncData) : Prop := FunD K "__init__" "Item.__init__" (defArgs s_item) (defBody s_item) (defScope s_item) [.str ""] [] f fd
section
variable {P : Program} {w : World} {K : Fg} {mg : Str → Option Value} {base : Heap}
theorem ok_item {f fR fL fB : Addr} {fd fdR fdL fdB fdN : FuncData} {fN : Addr} (F : FnI K f fd) (FR : FnP K "is_rank" "is_rank" s_rnk fR fdR) (gR : mg "is_rank" = some (.ref fR)) (FN : FnP K "is_number" "is_number" s_num fN fdN) (gN : mg "is_number" = some (.ref fN))
    (FL : FnP K "is_lettered" "is_lettered" s_let fL fdL) (gL : mg "is_lettered" = some (.ref fL)) (FB : FnP K "__init__" "BadItem.__init__" s_bad (ma K (ga K "BadItem") "__init__") fdB) (T : Txt K mg) : FnOk P w K mg base (L2.CX P w) 3 f fd ["self", "rank", "name"] (spItem K) := by
  have gB : mg "BadItem" = some (.ref (ga K "BadItem")) := T.cl (by decide +kernel)
  have G_rnk : FnOk P w K mg base CX0 2 fR fdR ["value"] spRank := ok_rnk FR FN gN T
  have G_let : FnOk P w K mg base CX0 1 fL fdL ["value"] spLet := ok_let FL T
  have G_bad : FnOk P w K mg base CX0 1 _ fdB ["self", "part"] (spIni (ga K "BadItem") "part") := ok_bad FB T
  have b_rnk : Binds K fdR ["value"] [] := FR.bindsN fun _ _ _ _ _ _ us hl => match us, hl with | [_], _ => rfl
  have b_let : Binds K fdL ["value"] [] := FL.bindsN fun _ _ _ _ _ _ us hl => match us, hl with | [_], _ => rfl
  have b_bad : Binds K fdB ["self", "part"] [] := FB.bindsN fun _ _ _ _ _ _ us hl => match us, hl with | [_, _], _ => rfl
  obtain ⟨iB, tB⟩ := T.ini
  refine F.ok sc_item (fun vs H Q E h => ?_) (fun cdv A outer s H vs Q E hr h => ?_)
  · obtain ⟨a, dx, x, y, t, u, rfl, _⟩ := h
    rfl
  · obtain ⟨a, dx, x, y, t, u, rfl, ha, bx, bY, hz, kn, kx⟩ := h
    refine ⟨_, (pss_cons (ps_if (pt_not (pt_val (pe_call G_rnk (hr.mono (by decide)) rfl gR FR.kp b_rnk .nil pass0 (pa_cons (pv 1) pa_nil)))) (pss_one (ps_raise rfl (takes_of rfl rfl rfl rfl) (pmk_oex T.xc.ox iB tB G_bad (hr.mono (by decide)) b_bad .nil pass0 rfl gB (pa_cons pe_str pa_nil)))) pss_nil)
    (pss_cons (ps_if (pt_not (pt_val (pe_call G_let (hr.mono (by decide)) rfl gL FL.kp b_let .nil pass0 (pa_cons (pv 2) pa_nil)))) (pss_one (ps_raise rfl (takes_of rfl rfl rfl rfl) (pmk_oex T.xc.ox iB tB G_bad (hr.mono (by decide)) b_bad .nil pass0 rfl gB (pa_cons pe_str pa_nil)))) pss_nil)
    (pss_cons (ps_fld (pv 0) (pv 1) rfl)
    (pss_one (ps_fld (pv 0) (pv 2) rfl))))), ?_⟩
    refine ⟨_, rfl, x, t, rfl, bx, _, rfl, ?_⟩
    cases hx : rankOk x with
    | false =>
      rw [hx] at kx
      exact bad_out (kx (.inl rfl))
    | true =>
      rw [hx] at kx kn
      refine ⟨_, rfl, y, u, rfl, bY, hz, fun H1 s1 => ⟨_, rfl, ?_⟩⟩
      cases hy : nameOk y with
      | false =>
        rw [hy] at kx
        exact bad_out fun d H' s2 hd => kx (.inr rfl) d H' (s1.trans s2) hd
      | true =>
        rw [hy] at kn
        refine ⟨_, rfl, _, rfl, a, _, dx, _, rfl, s1 _ _ ha, T.cls, T.na (by decide +kernel), (by show 0 < 1000; decide), ?_⟩
        refine ⟨_, rfl, _, rfl, a, _, dx, _, rfl, upd_same, T.cls, T.na (by decide +kernel), (by show 1 < 1000; decide), ?_⟩
        exact kn rfl rfl _ (((But.of s1).trans But.upd).trans But.upd) upd_same
end
end K02
namespace K02
open PySem PySem.Spec PyProof.Rows L2 He Tw
/-- what an item is asked to equal: another item, a plain value, an error -/
inductive Oth (K : Fg) (H : Hp) : V → Option Int → Prop where
  | item {b : Addr} {j : Int} {u : Str} (h : It K H b j u) : Oth K H (.ref b) (some j)
  | plain {x : V} {T : String} (h : Bv H x T) : Oth K H x none
  | err {b d : Addr} {fs : List (Str × V)} (h : IsX H b (ga K "BadItem") (some d)) (h2 : IsXd H d fs) : Oth K H (.ref b) none
theorem Oth.same {K : Fg} {H H' : Hp} {x : V} {o : Option Int} (e : Same H H') (h : Oth K H x o) : Oth K H' x o := by
  cases h with
  | item h => exact .item (h.same e)
  | plain h => exact .plain (h.same e)
  | err h h2 => exact .err (h.same e) (h2.same e)
def eqTo (i : Int) : Option Int → Bool
  | some j => decide (i = j)
  | none => false
theorem bv_kind {H : Hp} {x : V} {T : String} (h : Bv H x T) : T ∈ kinds := by
  cases h <;> decide
section
variable {K : Fg} {mg : Str → Option Value} {H : Hp}
theorem It.ty (T : Txt K mg) {a : Addr} {i : Int} {z : Str} (h : It K H a i z) : TyX K H (.ref a) (.ref (ga K "Item")) := by
  obtain ⟨dx, h⟩ := h
  exact .base (.ins h T.cls T.ca T.xo.hn T.xo.ht T.mro)
/-- its class, as isinstance and == look at it -/
theorem Oth.tyA (T : Txt K mg) {x : V} {o : Option Int} (h : Oth K H x o) : ∃ t, TyA K H x t ∧ PySem.W.notFirst K (ga K "Item") t = true ∧ PySem.W.kitOne K t (.ref (ga K "Item")) = some o.isSome := by
  cases h with
  | item h => exact ⟨_, .inl (h.ty T), T.nfI, T.kitII⟩
  | plain h => exact ⟨_, .inl h.ty, (T.kind (bv_kind h)).2.2, (T.kind (bv_kind h)).1⟩
  | err h h2 => exact ⟨_, .inr ⟨_, _, _, _, rfl, rfl, h, h2, T.xc, T.xo⟩, T.nfB, T.kitBI⟩
end
theorem natAbs_lt {i : Int} (h1 : -beyond < i) (h2 : i < beyond) : i.natAbs < 10 ^ 30 := by
  unfold beyond at h1 h2
  omega
theorem log_lt {i : Int} (h : i.natAbs < 10 ^ 30) : i.natAbs.log2 < 1920 := by
  by_cases h0 : i.natAbs = 0
  · rw [h0]
    decide
  · exact Nat.lt_trans ((Nat.log2_lt h0).2 (Nat.lt_trans h (show 10 ^ 30 < 2 ^ 100 by decide))) (by decide)
theorem len_int {i : Int} (h : i.natAbs < 10 ^ 30) : (Str.ofString (toString i)).length ≤ 31 := by
  have e := int_text_length_le10 (k := 30) (by decide) h
  rw [PySem.ofString_length]
  exact e
/-- the text of an item -/
def itemText (i : Int) (z : Str) : Str := Str.ofString (toString i) ++ z
def spEq (K : Fg) : Sp := fun vs H Q _ => ∃ (a : Addr) (i : Int) (z : Str) (y : V) (o : Option Int), vs = [.ref a, y] ∧ It K H a i z ∧ Oth K H y o ∧ Q (.bl (eqTo i o)) H
def spStr (K : Fg) : Sp := fun vs H Q _ => ∃ (a : Addr) (i : Int) (z : Str), vs = [.ref a] ∧ It K H a i z ∧ i.natAbs < 10 ^ 30 ∧ z.length ≤ 1000 ∧ Q (.str (itemText i z)) H
def spTwo (K : Fg) (f : Int → Str → Int → Str → Bool) : Sp := fun vs H Q _ => ∃ (a b : Addr) (i j : Int) (z u : Str), vs = [.ref a, .ref b] ∧ It K H a i z ∧ It K H b j u ∧ Q (.bl (f i z j u)) H
def fBefore (i : Int) (_ : Str) (j : Int) (_ : Str) : Bool := decide (i < j)
def fSame (i : Int) (z : Str) (j : Int) (u : Str) : Bool := decide (i = j) && decide (z = u)
section
variable {P : Program} {w : World} {K : Fg} {mg : Str → Option Value} {base : Heap}
theorem dec_i {i j : Int} : decide (V.int i = V.int j) = decide (i = j) := by
  by_cases h : i = j
  · rw [h]
    simp
  · rw [decide_eq_false h, decide_eq_false fun z => h (V.int.inj z)]
theorem dec_s {i j : Str} : decide (V.str i = V.str j) = decide (i = j) := by
  by_cases h : i = j
  · rw [h]
    simp
  · rw [decide_eq_false h, decide_eq_false fun z => h (V.str.inj z)]
abbrev s_eq : Stmt := inClass (topS 12) 1
theorem sc_eq : FnScope ["self", "other"] ["self", "other"] (defScope s_eq) := ⟨rfl, rfl, rfl, by decide +kernel, rfl, by decide +kernel, by decide +kernel⟩
theorem ok_eq {f : Addr} {fd : FuncData} (F : FnP K "__eq__" "Item.__eq__" s_eq f fd) (T : Txt K mg) : FnOk P w K mg base CX0 1 f fd ["self", "other"] (spEq K) := by
  have zisi : mg "isinstance" = none := T.bl (by decide +kernel)
  have gI : mg "Item" = some (.ref (ga K "Item")) := T.cl (by decide +kernel)
  refine F.ok sc_eq (fun vs H Q E h => ?_) (fun cdv A outer s H vs Q E hr h => ?_)
  · obtain ⟨a, i, z, y, o, rfl, _⟩ := h
    rfl
  · obtain ⟨a, i, z, y, o, rfl, ha, hy, k⟩ := h
    refine ⟨_, PSs.nox (pss_one (ps_ret (pe_and (pe_callB call_isA (by rfl) zisi (by decide +kernel) (pa_cons (pv 1) (pa_cons (pe_glob (v := .ref (ga K "Item")) rfl gI rfl) pa_nil))) (pe_one (pe_cmpR op_eq (pe_fld (pv 0) rfl) (pe_fld (pv 1) rfl) (nomark _)))))), ?_⟩
    obtain ⟨t, ty, nf, kt⟩ := hy.tyA T
    refine ⟨_, rfl, y, .ref (ga K "Item"), t, _, _, rfl, .own _, ty, kt, _, rfl, ?_⟩
    cases hy with
    | item hb =>
      obtain ⟨dx, ha⟩ := ha
      obtain ⟨db, hb⟩ := hb
      refine ⟨_, rfl, a, _, dx, _, _, rfl, ha, T.cls, T.na (by decide +kernel), rfl, _, rfl, _, _, db, _, _, rfl, hb, T.cls, T.na (by decide +kernel), rfl, rfl, ?_⟩
      rw [dec_i]
      exact k
    | plain h => exact k
    | err h h2 => exact k
abbrev s_str : Stmt := inClass (topS 12) 2
theorem sc_str : FnScope ["self"] ["self"] (defScope s_str) := ⟨rfl, rfl, rfl, by decide +kernel, rfl, by decide +kernel, by decide +kernel⟩
theorem ok_str {f : Addr} {fd : FuncData} (F : FnP K "__str__" "Item.__str__" s_str f fd) (T : Txt K mg) : FnOk P w K mg base CX0 1 f fd ["self"] (spStr K) := by
  refine F.ok sc_str (fun vs H Q E h => ?_) (fun cdv A outer s H vs Q E hr h => ?_)
  · obtain ⟨a, i, z, rfl, _⟩ := h
    rfl
  · obtain ⟨a, i, z, rfl, ⟨dx, ha⟩, hi, hz, k⟩ := h
    refine ⟨_, PSs.nox (pss_one (ps_ret (pe_joined (.cons (pe_fmt (pe_fld (pv 0) rfl)) (.cons (pe_fmt (pe_fld (pv 0) rfl)) .nil))))), ?_⟩
    have l1 := len_int hi
    refine ⟨_, rfl, a, _, dx, _, _, rfl, ha, T.cls, T.na (by decide +kernel), rfl, .inr ⟨i, rfl, log_lt hi, _, rfl, ?_, ?_⟩⟩
    · rw [Str.empty_append]
      exact Nat.le_trans l1 (by decide)
    rw [Str.empty_append]
    refine ⟨_, rfl, a, _, dx, _, _, rfl, ha, T.cls, T.na (by decide +kernel), rfl, .inl ⟨z, rfl, Nat.le_trans hz (by decide), _, rfl, ?_, k⟩⟩
    rw [Str.length_append]
    exact Nat.le_trans (Nat.add_le_add l1 hz) (by decide)
abbrev s_bef : Stmt := inClass (topS 12) 3
theorem sc_bef : FnScope ["self", "other"] ["self", "other"] (defScope s_bef) := ⟨rfl, rfl, rfl, by decide +kernel, rfl, by decide +kernel, by decide +kernel⟩
theorem ok_bef {f : Addr} {fd : FuncData} (F : FnP K "before" "Item.before" s_bef f fd) (T : Txt K mg) : FnOk P w K mg base CX0 1 f fd ["self", "other"] (spTwo K fBefore) := by
  refine F.ok sc_bef (fun vs H Q E h => ?_) (fun cdv A outer s H vs Q E hr h => ?_)
  · obtain ⟨a, b, i, j, z, u, rfl, _⟩ := h
    rfl
  · obtain ⟨a, b, i, j, z, u, rfl, ⟨dx, ha⟩, ⟨db, hb⟩, k⟩ := h
    refine ⟨_, PSs.nox (pss_one (ps_ret (pe_cmpR op_lt (pe_fld (pv 0) rfl) (pe_fld (pv 1) rfl) (nomark _)))), ?_⟩
    exact ⟨_, rfl, a, _, dx, _, _, rfl, ha, T.cls, T.na (by decide +kernel), rfl, _, rfl, b, _, db, _, _, rfl, hb, T.cls, T.na (by decide +kernel), rfl, _, _, rfl, rfl, k⟩
abbrev s_sam : Stmt := inClass (topS 12) 4
theorem sc_sam : FnScope ["self", "other"] ["self", "other"] (defScope s_sam) := ⟨rfl, rfl, rfl, by decide +kernel, rfl, by decide +kernel, by decide +kernel⟩
theorem ok_sam {f : Addr} {fd : FuncData} (F : FnP K "same" "Item.same" s_sam f fd) (T : Txt K mg) : FnOk P w K mg base CX0 1 f fd ["self", "other"] (spTwo K fSame) := by
  refine F.ok sc_sam (fun vs H Q E h => ?_) (fun cdv A outer s H vs Q E hr h => ?_)
  · obtain ⟨a, b, i, j, z, u, rfl, _⟩ := h
    rfl
  · obtain ⟨a, b, i, j, z, u, rfl, ⟨dx, ha⟩, ⟨db, hb⟩, k⟩ := h
    refine ⟨_, PSs.nox (pss_one (ps_ret (pe_and (pe_cmpR op_eq (pe_fld (pv 0) rfl) (pe_fld (pv 1) rfl) (nomark _)) (pe_one (pe_cmpR op_eq (pe_fld (pv 0) rfl) (pe_fld (pv 1) rfl) (nomark _)))))), ?_⟩
    refine ⟨_, rfl, a, _, dx, _, _, rfl, ha, T.cls, T.na (by decide +kernel), rfl, _, rfl, b, _, db, _, _, rfl, hb, T.cls, T.na (by decide +kernel), rfl, rfl, _, rfl, ?_⟩
    rw [dec_i]
    have e : fSame i z j u = (decide (i = j) && decide (z = u)) := rfl
    rw [e] at k
    by_cases h : i = j
    · rw [decide_eq_true h, Bool.true_and] at k
      rw [if_pos (decide_eq_true h)]
      refine ⟨_, rfl, a, _, dx, _, _, rfl, ha, T.cls, T.na (by decide +kernel), rfl, _, rfl, b, _, db, _, _, rfl, hb, T.cls, T.na (by decide +kernel), rfl, rfl, ?_⟩
      rw [dec_s]
      exact k
    · rw [decide_eq_false h, Bool.false_and] at k
      rw [if_neg (by rw [decide_eq_false h]; decide)]
      exact k
end
end K02
namespace K02
open PySem PySem.Spec PyProof.Rows L2 He Tw
/-- one sign of a text -/
def spPickS : Sp := fun vs H Q _ => ∃ (p l : Addr) (z : Str) (c : Nat), vs = [.ref p, .str z] ∧ 0 < z.length ∧ z.length < 1000 ∧ PenL H p l c ∧ c ≤ 1000000 ∧
  ∀ (d : Nat) (H' : Hp), d ∈ z.cps.toList → PenL H' p l (c + 1) → But p H H' → Q (.str ⟨#[d]⟩) H'
/-- a name of the law -/
def spName : Sp := fun vs H Q _ => ∃ (p l : Addr) (c : Nat), vs = [.ref p] ∧ PenL H p l c ∧ c ≤ 900000 ∧ ∀ (z : Str) (H' : Hp), textOk z = true → z.length ≤ 8 → PenL H' p l (c + 9) → But p H H' → Q (.str z) H'
/-- a rank of the law -/
def spRankD : Sp := fun vs H Q _ => ∃ (p l : Addr) (c : Nat), vs = [.ref p] ∧ PenL H p l c ∧ c ≤ 900000 ∧ ∀ (i : Int) (H' : Hp), i.natAbs < 10 ^ 30 → PenL H' p l (c + 4) → But p H H' → Q (.int i) H'
abbrev s_name : Stmt := topS 17
abbrev N_name : List Str := ["_law_pen_here", "_law_letters", "_law_many", "_law_k"]
theorem sc_name : FnScope N_name ["_law_pen_here"] (defScope s_name) := ⟨rfl, rfl, rfl, by decide +kernel, rfl, by decide +kernel, by decide +kernel⟩
abbrev s_rank : Stmt := topS 18
abbrev N_rank : List Str := ["_law_pen_here", "_law_number"]
theorem sc_rank : FnScope N_rank ["_law_pen_here"] (defScope s_rank) := ⟨rfl, rfl, rfl, by decide +kernel, rfl, by decide +kernel, by decide +kernel⟩
theorem atI_gen {α : Type} {xs : List α} {i : Int} {v : α} (h0 : 0 ≤ i) (h : xs[i.toNat]? = some v) : atI xs i = some v := by
  have e : i = (i.toNat : Int) := (Int.toNat_of_nonneg h0).symm
  rw [e]
  exact atI_nat h
section
variable {P : Program} {w : World} {K : Fg} {mg : Str → Option Value} {base : Heap}
theorem ok_pickS {f fD : Addr} {fd fdD : FuncData} (F : FnP K "_law_pick" "_law_pick" s_pick f fd) (FD : FnP K "_law_draw" "_law_draw" s_draw fD fdD) (gD : mg "_law_draw" = some (.ref fD)) (T : Txt K mg) : FnOk P w K mg base CX0 2 f fd ["_law_pen_here", "_law_some"] spPickS := by
  have zlen : mg "len" = none := T.bl (by decide +kernel)
  have G_draw : FnOk P w K mg base CX0 1 fD fdD ["_law_pen_here", "_law_many"] spDrawL := ok_draw FD T
  have b_draw : Binds K fdD ["_law_pen_here", "_law_many"] [] := FD.bindsN fun _ _ _ _ _ _ us hl => match us, hl with | [_, _], _ => rfl
  refine F.ok sc_pick (fun vs H Q E h => ?_) (fun cdv A outer s H vs Q E hr h => ?_)
  · obtain ⟨p, l, z, c, rfl, _⟩ := h
    rfl
  · obtain ⟨p, l, z, c, rfl, hz0, hz1, hP, hc, k⟩ := h
    refine ⟨_, PSs.nox (pss_one (ps_ret (pe_ix ix_str (pv 1) (pe_call G_draw (hr.mono (by decide)) rfl gD FD.kp b_draw .nil pass0 (pa_cons (pv 0) (pa_cons (pe_callB call_len (by rfl) zlen (by decide +kernel) (pa_cons (pv 1) pa_nil)) pa_nil))) (fun _ _ => rfl)))), ?_⟩
    have hzl : z.length ≤ sizeLine := Nat.le_trans (Nat.le_of_lt hz1) (by decide)
    refine ⟨_, rfl, _, rfl, _, rfl, _, _, rfl, ⟨hzl, rfl⟩, p, l, (z.length : Int), c, rfl, by omega, by omega, hP, hc, fun r H' h0 h1 hP' hB => ?_⟩
    have hlt : r.toNat < z.cps.toList.length := by
      have e : z.length = z.cps.toList.length := by simp [Str.length]
      omega
    exact ⟨z, r, _, rfl, rfl, hzl, atI_gen h0 (List.getElem?_eq_getElem hlt), k _ H' (List.getElem_mem hlt) hP' hB⟩
theorem ok_rank {f fD : Addr} {fd fdD : FuncData} (F : FnP K "_law_rank" "_law_rank" s_rank f fd) (FD : FnP K "_law_draw" "_law_draw" s_draw fD fdD) (gD : mg "_law_draw" = some (.ref fD)) (T : Txt K mg) : FnOk P w K mg base CX0 2 f fd ["_law_pen_here"] spRankD := by
  have G_draw : FnOk P w K mg base CX0 1 fD fdD ["_law_pen_here", "_law_many"] spDrawL := ok_draw FD T
  have b_draw : Binds K fdD ["_law_pen_here", "_law_many"] [] := FD.bindsN fun _ _ _ _ _ _ us hl => match us, hl with | [_, _], _ => rfl
  refine F.ok sc_rank (fun vs H Q E h => ?_) (fun cdv A outer s H vs Q E hr h => ?_)
  · obtain ⟨p, l, c, rfl, _⟩ := h
    rfl
  · obtain ⟨p, l, c, rfl, hP, hc, k⟩ := h
    refine ⟨_, PSs.nox (pss_cons (ps_set (i := 1) sc_rank.nd rfl (Or.inl rfl) (pe_ix ix_list (pe_lstN (pa_cons pe_int (pa_cons pe_int (pa_cons (pe_call G_draw (hr.mono (by decide)) rfl gD FD.kp b_draw .nil pass0 (pa_cons (pv 0) (pa_cons pe_int pa_nil))) (pa_cons (pe_call G_draw (hr.mono (by decide)) rfl gD FD.kp b_draw .nil pass0 (pa_cons (pv 0) (pa_cons (pe_op op_pow pe_int pe_int) pa_nil))) (pa_cons (pe_op op_pow pe_int pe_int) (pa_cons (pe_op op_sub (pe_op op_pow pe_int pe_int) pe_int) pa_nil))))))) (pe_call G_draw (hr.mono (by decide)) rfl gD FD.kp b_draw .nil pass0 (pa_cons (pv 0) (pa_cons pe_int pa_nil))) (fun _ _ => rfl)))
    (pss_one (ps_ret (pe_ix ix_list (pe_lstN (pa_cons (pv 1) (pa_cons (pe_op op_sub pe_int (pv 1)) pa_nil))) (pe_call G_draw (hr.mono (by decide)) rfl gD FD.kp b_draw .nil pass0 (pa_cons (pv 0) (pa_cons pe_int pa_nil))) (fun _ _ => rfl))))), ?_⟩
    refine ⟨_, rfl, p, l, 100, c, rfl, by decide, by decide, hP, by omega, fun d1 H1 a1 b1 P1 B1 => ?_⟩
    refine ⟨_, rfl, _, _, rfl, rfl, ⟨by decide, by decide, by decide⟩, p, l, 10 ^ 9, c + 1, rfl, by decide, by decide, P1, by omega, fun d2 H2 a2 b2 P2 B2 => ?_⟩
    refine ⟨_, _, rfl, rfl, ⟨by decide, by decide, by decide⟩, _, _, rfl, rfl, ⟨by decide, by decide, by decide⟩, _, _, rfl, rfl, sz1000 (by show 6 ≤ 1000; decide), fun q H3 f3 m3 s3 g3 => ?_⟩
    refine ⟨_, rfl, p, l, 6, c + 2, rfl, by decide, by decide, P2.same s3, by omega, fun r H4 a4 b4 P4 B4 => ?_⟩
    have hqp : q ≠ p := (P2.new f3).1
    have g4 := B4 _ _ g3 hqp
    have hlt : r.toNat < 6 := by omega
    refine ⟨q, _, r, _, rfl, rfl, SqL.of g4, atI_gen a4 (List.getElem?_eq_getElem (by exact hlt)), ?_⟩
    obtain ⟨i, ei, hi⟩ : ∃ i : Int, ([.int 0, .int 1, .int d1, .int d2, .int ((10 : Int) ^ (29 : Int).toNat), .int ((10 : Int) ^ (30 : Int).toNat - 1)] : List V)[r.toNat] = V.int i ∧ i.natAbs < 10 ^ 30 := by
      have cases6 : r.toNat = 0 ∨ r.toNat = 1 ∨ r.toNat = 2 ∨ r.toNat = 3 ∨ r.toNat = 4 ∨ r.toNat = 5 := by omega
      have e9 : (10 : Int) ^ 9 = 1000000000 := by decide
      rcases cases6 with h | h | h | h | h | h
      · exact ⟨0, by simp only [h]; rfl, by decide⟩
      · exact ⟨1, by simp only [h]; rfl, by decide⟩
      · exact ⟨d1, by simp only [h]; rfl, by omega⟩
      · exact ⟨d2, by simp only [h]; rfl, by omega⟩
      · exact ⟨_, by simp only [h]; rfl, by decide⟩
      · exact ⟨_, by simp only [h]; rfl, by decide⟩
    rw [ei]
    refine ⟨_, rfl, _, rfl, _, _, rfl, rfl, sz1000 (by show 2 ≤ 1000; decide), fun q2 H5 f5 m5 s5 g5 => ?_⟩
    refine ⟨_, rfl, p, l, 2, c + 3, rfl, by decide, by decide, P4.same s5, by omega, fun r2 H6 a6 b6 P6 B6 => ?_⟩
    have hqp2 : q2 ≠ p := (P4.new f5).1
    have hlt2 : r2.toNat < 2 := by omega
    refine ⟨q2, _, r2, _, rfl, rfl, SqL.of (B6 _ _ g5 hqp2), atI_gen a6 (List.getElem?_eq_getElem (by exact hlt2)), ?_⟩
    have BB : But p H H6 := (((B1.trans B2).trans (But.of s3)).trans B4).trans ((But.of s5).trans B6)
    have c2 : r2.toNat = 0 ∨ r2.toNat = 1 := by omega
    rcases c2 with h | h
    · simp only [h]
      exact k i H6 hi P6 BB
    · simp only [h]
      exact k (0 - i) H6 (by omega) P6 BB
end
end K02
namespace K02
open PySem PySem.Spec PyProof.Rows L2 He Tw
theorem joinL_nil : ∀ l : List (List Nat), TL.joinL [] l = l.flatten
  | [] => rfl
  | [p] => by
    show p = _
    simp
  | p :: q :: r => by
    show p ++ ([] ++ TL.joinL [] (q :: r)) = _
    rw [joinL_nil (q :: r), List.nil_append, List.flatten_cons (l := p)]
/-- signs drawn from the letters -/
def Sg (ys : List Str) : Prop := ∀ y ∈ ys, ∃ d, d ∈ letters.cps.toList ∧ y = ⟨#[d]⟩
theorem sg_flat : ∀ {ys : List Str}, Sg ys → ((ys.map TL.tl).flatten.length = ys.length) ∧ ∀ c ∈ (ys.map TL.tl).flatten, c ∈ letters.cps.toList
  | [], _ => ⟨rfl, fun _ h => nomatch h⟩
  | y :: ys, h => by
    obtain ⟨h1, h2⟩ := sg_flat (ys := ys) fun u hu => h u (List.mem_cons_of_mem _ hu)
    obtain ⟨d, hd, e⟩ := h y List.mem_cons_self
    subst e
    refine ⟨by rw [List.map_cons, List.flatten_cons, List.length_append, h1]; simp; omega, fun c hc => ?_⟩
    rw [List.map_cons, List.flatten_cons] at hc
    rcases List.mem_append.mp hc with z | z
    · have e : c = d := by simpa using z
      rw [e]
      exact hd
    · exact h2 c z
theorem join_sg {ys : List Str} (h : Sg ys) (hl : ys.length ≤ 8) : textOk (Txt.join "" ys) = true ∧ (Txt.join "" ys).length ≤ 8 := by
  obtain ⟨h1, h2⟩ := sg_flat h
  have e : TL.tl (Txt.join "" ys) = (ys.map TL.tl).flatten := by
    rw [TL.join_eq, TL.tl_join, show TL.tl "" = [] from rfl, joinL_nil]
  have e2 : (Txt.join "" ys).length ≤ 8 := by
    rw [TL.len_tl, e, h1]
    exact hl
  refine ⟨?_, e2⟩
  unfold textOk
  rw [decide_eq_true e2, Bool.true_and, List.all_eq_true]
  intro c hc
  rw [show (Txt.join "" ys).cps.toList = TL.tl (Txt.join "" ys) from rfl, e] at hc
  exact decide_eq_true (h2 c hc)
theorem sg_sum : ∀ {ys : List Str}, Sg ys → (ys.map (·.length)).sum = ys.length
  | [], _ => rfl
  | y :: ys, h => by
    obtain ⟨d, _, e⟩ := h y List.mem_cons_self
    rw [List.map_cons, List.sum_cons, sg_sum fun u hu => h u (List.mem_cons_of_mem _ hu), e]
    show 1 + ys.length = ys.length + 1
    omega
section
variable {P : Program} {w : World} {K : Fg} {mg : Str → Option Value} {base : Heap}
theorem ok_name {f fD fP : Addr} {fd fdD fdP : FuncData} (F : FnP K "_law_name" "_law_name" s_name f fd) (FD : FnP K "_law_draw" "_law_draw" s_draw fD fdD) (gD : mg "_law_draw" = some (.ref fD)) (FP : FnP K "_law_pick" "_law_pick" s_pick fP fdP) (gP : mg "_law_pick" = some (.ref fP)) (T : Txt K mg) :
    FnOk P w K mg base CX0 3 f fd ["_law_pen_here"] spName := by
  have zr : mg "range" = none := T.bl (by decide +kernel)
  have G_draw : FnOk P w K mg base CX0 1 fD fdD ["_law_pen_here", "_law_many"] spDrawL := ok_draw FD T
  have b_draw : Binds K fdD ["_law_pen_here", "_law_many"] [] := FD.bindsN fun _ _ _ _ _ _ us hl => match us, hl with | [_, _], _ => rfl
  have G_pick : FnOk P w K mg base CX0 2 fP fdP ["_law_pen_here", "_law_some"] spPickS := ok_pickS FP FD gD T
  have b_pick : Binds K fdP ["_law_pen_here", "_law_some"] [] := FP.bindsN fun _ _ _ _ _ _ us hl => match us, hl with | [_, _], _ => rfl
  refine F.ok sc_name (fun vs H Q E h => ?_) (fun cdv A outer s H vs Q E hr h => ?_)
  · obtain ⟨p, l, c, rfl, _⟩ := h
    rfl
  · obtain ⟨p, l, c, rfl, hP, hc, k⟩ := h
    refine ⟨_, PSs.nox (pss_cons (ps_set (i := 1) sc_name.nd rfl (Or.inr rfl) pe_str)
    (pss_cons (ps_set (i := 2) sc_name.nd rfl (Or.inl rfl) (pe_ix ix_list (pe_lstN (pa_cons pe_int (pa_cons pe_int (pa_cons pe_int (pa_cons pe_int (pa_cons pe_int pa_nil)))))) (pe_call G_draw (hr.mono (by decide)) rfl gD FD.kp b_draw .nil pass0 (pa_cons (pv 0) (pa_cons pe_int pa_nil))) (fun _ _ => rfl)))
    (pss_one (ps_ret (pe_join pe_str (pe_lc (own := [("_law_k", 3)]) (g := gName 3) (tt := tYes) (by rfl) sc_name.nd (pi_range1 rfl zr (pa_cons (pv 2) pa_nil)) (blkOk_by (own := [("_law_k", 3)]) (N := N_name) (sc := defScope s_name) (by decide +kernel)) (fun _ _ _ _ _ => (pg_name (i := 3) sc_name.nd rfl (Or.inl rfl))) (fun _ _ _ _ _ => pts_nil) (fun _ _ _ _ _ => (pe_call G_pick (hr.mono (by decide)) rfl gP FP.kp b_pick .nil pass0 (pa_cons (pv 0) (pa_cons (pv 1) pa_nil)))))))))), ?_⟩
    refine ⟨sz1000 (by show 5 ≤ 1000; decide), fun q H1 f1 m1 s1 g1 => ?_⟩
    refine ⟨_, rfl, p, l, 5, c, rfl, by decide, by decide, hP.same s1, by omega, fun r H2 a2 b2 P2 B2 => ?_⟩
    have hqp : q ≠ p := (hP.new f1).1
    have hlt : r.toNat < 5 := by omega
    refine ⟨q, _, r, _, rfl, rfl, SqL.of (B2 _ _ g1 hqp), atI_gen a2 (List.getElem?_eq_getElem (by exact hlt)), ?_⟩
    obtain ⟨n, en, hn⟩ : ∃ n : Nat, ([.int 0, .int 0, .int 1, .int 2, .int 8] : List V)[r.toNat] = V.int n ∧ n ≤ 8 := by
      have c5 : r.toNat = 0 ∨ r.toNat = 1 ∨ r.toNat = 2 ∨ r.toNat = 3 ∨ r.toNat = 4 := by omega
      rcases c5 with h | h | h | h | h
      · exact ⟨0, by simp only [h]; rfl, by decide⟩
      · exact ⟨0, by simp only [h]; rfl, by decide⟩
      · exact ⟨1, by simp only [h]; rfl, by decide⟩
      · exact ⟨2, by simp only [h]; rfl, by decide⟩
      · exact ⟨8, by simp only [h]; rfl, by decide⟩
    rw [en]
    have B20 : But p H H2 := (But.of s1).trans B2
    refine ⟨⟨_, rfl⟩, _, rfl, (n : Int), rfl, by omega, by omega, fun D hD => lc_range (lo := 0) (n := ((n : Int)).toNat) (fun i H' => PenL H' p l (c + 1 + i) ∧ But p H2 H' ∧ ∃ ys : List Str, ys.length = i ∧ Sg ys ∧ H' D = some (.lst (ys.map V.str))) ?_ ?_ ?_⟩
    · exact ⟨P2.same (same_new hD), But.of (same_new hD), [], rfl, (fun _ h => nomatch h), upd_same⟩
    · rintro i H' hi ⟨Pi, Bi, ys, ly, sy, gD⟩
      obtain ⟨hDp, hDl⟩ := P2.new hD
      refine ⟨rfl, _, rfl, _, rfl, p, l, letters, c + 1 + i, rfl, by decide +kernel, by decide +kernel, Pi, by omega, fun d H3 hd P3 B3 => ⟨_, B3 _ _ gD hDp, ?_, ?_, ?_, ys ++ [⟨#[d]⟩], ?_, ?_, ?_⟩⟩
      · rw [List.length_map]
        exact Nat.lt_of_lt_of_le (show ys.length < 1000 by omega) (by decide)
      · exact P3.upd hDp hDl
      · exact fun b o hb hbp => by
          rw [upd_ne (ne_of_none hb hD)]
          exact B3 b o (Bi b o hb hbp) hbp
      · rw [List.length_append, ly]
        rfl
      · intro y hy
        rcases List.mem_append.mp hy with z | z
        · exact sy y z
        · exact ⟨d, hd, by simpa using z⟩
      · rw [upd_same, List.map_append]
        rfl
    · rintro H' ⟨Pi, Bi, ys, ly, sy, gD⟩
      have hl : ys.length ≤ 8 := by omega
      obtain ⟨j1, j2⟩ := join_sg sy hl
      refine ⟨_, D, ys, rfl, rfl, .inl (SqL.of gD), ?_, ?_⟩
      · rw [sg_sum sy]
        show ys.length + ys.length * 0 ≤ _
        omega
      · exact k _ H' j1 j2 (Pi.mono (by omega)) (B20.trans Bi)
end
end K02
namespace K02
open PySem PySem.Spec PyProof.Rows L2 He Tw
abbrev s_heard : Stmt := topS 19
abbrev N_heard : List Str := ["_law_worth", "_law_word", "_law_caught", "error"]
theorem sc_heard : FnScope N_heard ["_law_worth", "_law_word"] (defScope s_heard) := ⟨rfl, rfl, rfl, by decide +kernel, rfl, by decide +kernel, by decide +kernel⟩
/-- which part is told, if one is wrong -/
def told (x y : V) : V := if rankOk x = true then (if nameOk y = true then .non else .str "name") else .str "rank"
def spHeard : Sp := fun vs H Q _ => ∃ (x y : V) (t u : String), vs = [x, y] ∧ Bv H x t ∧ Bv H y u ∧ (∀ z, y = .str z → z.length ≤ 1000) ∧ ∀ H', Same H H' → Q (told x y) H'
/-- the item's class by its name, its def -/
structure Itm (P : Program) (w : World) (K : Fg) (mg : Str → Option Value) (base : Heap) (fd : FuncData) : Prop where
  ok : FnOk P w K mg base (L2.CX P w) 3 (ma K (ga K "Item") "__init__") fd ["self", "rank", "name"] (spItem K)
  b : Binds K fd ["self", "rank", "name"] []
theorem same_but {H H1 H2 : Hp} {a : Addr} (s : Same H H1) (b : But a H1 H2) (h : H a = none) : Same H H2 := fun c o e => b c o (s c o e) (ne_of_none e h)
theorem same_made {H : Hp} {a dx : Addr} {o u : HO} (hd : H dx = none) (ha : H a = none) (hda : dx ≠ a) : Same H (upd (upd H dx o) a u) := (same_new hd).trans (same_new (by rw [upd_ne hda.symm]; exact ha))
section
variable {P : Program} {w : World} {K : Fg} {mg : Str → Option Value} {base : Heap}
theorem ok_heard {f : Addr} {fd fdI : FuncData} (F : FnP K "_law_heard" "_law_heard" s_heard f fd) (I : Itm P w K mg base fdI) (T : Txt K mg) : FnOk P w K mg base CX0 5 f fd ["_law_worth", "_law_word"] spHeard := by
  have zisi : mg "isinstance" = none := T.bl (by decide +kernel)
  have gI : mg "Item" = some (.ref (ga K "Item")) := T.cl (by decide +kernel)
  have gH : mg "HeadsError" = some (.ref (ga K "HeadsError")) := T.cl (by decide +kernel)
  have gB : mg "BadItem" = some (.ref (ga K "BadItem")) := T.cl (by decide +kernel)
  refine F.ok sc_heard (fun vs H Q E h => ?_) (fun cdv A outer s H vs Q E hr h => ?_)
  · obtain ⟨x, y, t, u, rfl, _⟩ := h
    rfl
  · obtain ⟨x, y, t, u, rfl, bx, bY, hz, k⟩ := h
    refine ⟨_, PSs.nox (pss_cons (ps_set (i := 2) sc_heard.nd rfl (Or.inl rfl) pe_non)
    (pss_cons (ps_tryK (i := 3) (n := "error") (c := .ref (ga K "HeadsError")) rfl rfl rfl sc_heard.nd rfl rfl ⟨rfl, by decide, .inl gH⟩ takes0 (fun W pn xe tk _ => pss_one (ps_expr (pe_makeS T.mkI I.ok (hr.mono (by decide)) rfl gI I.b (fun σ => passAt tk σ) (pa_cons (pv 0) (pa_cons (pv 1) pa_nil))))) (fun a oe cls d pn hz hf => pss_one (ps_set (i := 2) sc_heard.nd rfl (Or.inl rfl) (pv 3))))
    (pss_one (ps_ret (pe_ifExp (pt_val (pe_callB call_isA (by rfl) zisi (by decide +kernel) (pa_cons (pv 2) (pa_cons (pe_glob (v := .ref (ga K "BadItem")) rfl gB rfl) pa_nil)))) (pe_xfld (pv 2)) pe_non))))), ?_⟩
    refine ⟨_, rfl, _, rfl, fun a dx ha hd hda => ⟨a, dx, x, y, t, u, rfl, upd_same, ?_, ?_, hz, ?_, ?_⟩⟩
    · exact bx.same (same_made hd ha hda)
    · exact bY.same (same_made hd ha hda)
    · intro h1 h2 H' b e
      have S := same_but (same_made hd ha hda) b ha
      have kk := k H' S
      unfold told at kk
      rw [if_pos h1, if_pos h2] at kk
      exact ⟨rfl, _, rfl, .non, .ref (ga K "BadItem"), .type "NoneType", _, _, rfl, .own _, .inl (.base .non), (T.kind (by decide)).2.1, _, rfl, kk⟩
    · intro h1 d H' s1 hd1
      refine ⟨ga K "BadItem", true, rfl, T.exm, fun _ e he => ?_, fun z => nomatch z⟩
      have S : Same H (upd H' e (exT e (ga K "BadItem") (some d))) := ((same_made hd ha hda).trans s1).trans (same_new he)
      have kk := k _ S
      have hd2 : (upd H' e (exT e (ga K "BadItem") (some d))) d = some (.xd [("part", .str (if rankOk x = true then "name" else "rank"))]) := same_new he _ _ hd1
      have ev : told x y = .str (if rankOk x = true then "name" else "rank") := by
        unfold told
        cases hx : rankOk x with
        | false => rfl
        | true =>
          rw [hx] at h1
          have hy : nameOk y = false := h1.resolve_left (fun z => nomatch z)
          rw [hy]
          rfl
      rw [ev] at kk
      refine ⟨_, rfl, _, rfl, .ref e, .ref (ga K "BadItem"), .ref (ga K "BadItem"), _, _, rfl, .own _, .inr ⟨e, _, d, _, rfl, rfl, .inr upd_same, .inr hd2, T.xc, T.xo⟩, T.kitBB, _, rfl, ?_⟩
      exact ⟨_, rfl, e, _, d, _, _, rfl, .inr upd_same, T.xc, T.no, .inr hd2, rfl, kk⟩
end
end K02
namespace K02
open PySem PySem.Spec PyProof.Rows L2 He Tw
abbrev s_refused : Stmt := topS 20
abbrev N_refused : List Str := ["_law_pen_here", "_law_first", "_law_second", "_law_odd", "_law_word", "_law_heard_here"]
theorem sc_refused : FnScope N_refused ["_law_pen_here", "_law_first", "_law_second"] (defScope s_refused) := ⟨rfl, rfl, rfl, by decide +kernel, rfl, by decide +kernel, by decide +kernel⟩
def spRefused : Sp := fun vs H Q _ => ∃ (p l : Addr) (i : Int) (z : Str) (c : Nat), vs = [.ref p, .int i, .str z] ∧ PenL H p l c ∧ c ≤ 900000 ∧ i.natAbs < 10 ^ 30 ∧ textOk z = true ∧ ∀ H', PenL H' p l (c + 2) → But p H H' → Q (.bl true) H'
theorem bv_but {H H' : Hp} {p : Addr} {x : V} {T : String} (s : But p H H') (hx : ∀ a, x = .ref a → a ≠ p) (h : Bv H x T) : Bv H' x T := by
  cases h with
  | non => exact .non
  | bl b => exact .bl b
  | int i => exact .int i
  | str z => exact .str z
  | lst e => exact .lst (s _ _ e (hx _ rfl))
  | tup e => exact .tup (s _ _ e (hx _ rfl))
  | dK e => exact .dK (s _ _ e (hx _ rfl))
theorem rankOk_of {i : Int} (h : i.natAbs < 10 ^ 30) : rankOk (.int i) = true := by
  have h1 : -beyond < i := by
    unfold beyond
    omega
  have h2 : i < beyond := by
    unfold beyond
    omega
  show (decide _ && decide _) = true
  rw [decide_eq_true h1, decide_eq_true h2]
  rfl
theorem text_len {z : Str} (h : textOk z = true) : z.length ≤ 8 := by
  unfold textOk at h
  exact of_decide_eq_true (ba h).1
/-- a plain value beside the pen: not the pen, of a known kind -/
structure Pl (H : Hp) (p : Addr) (x : V) : Prop where
  bv : ∃ t, Bv H x t
  ne : ∀ a, x = .ref a → a ≠ p
theorem Pl.but {H H' : Hp} {p : Addr} {x : V} (s : But p H H') (h : Pl H p x) : Pl H' p x := by
  obtain ⟨⟨t, b⟩, n⟩ := h
  exact ⟨⟨t, bv_but s n b⟩, n⟩
theorem pl_flat {H : Hp} {p : Addr} {x : V} {t : String} (b : Bv H x t) (h : ∀ a, x ≠ .ref a) : Pl H p x := ⟨⟨t, b⟩, fun a e => absurd e (h a)⟩
theorem pl_ref {H : Hp} {p a : Addr} {t : String} (b : Bv H (.ref a) t) (h : a ≠ p) : Pl H p (.ref a) := ⟨⟨t, b⟩, fun c e => by
  cases e
  exact h⟩
theorem mul40 : MulOk "a" 40 := ⟨by decide, fun _ _ => by decide, fun _ _ => by decide +kernel⟩
section
variable {P : Program} {w : World} {K : Fg} {mg : Str → Option Value} {base : Heap}
theorem ok_refused {f fD fP fH : Addr} {fd fdD fdP fdH fdI : FuncData} (F : FnP K "_law_refused" "_law_refused" s_refused f fd) (FD : FnP K "_law_draw" "_law_draw" s_draw fD fdD) (gD : mg "_law_draw" = some (.ref fD)) (FP : FnP K "_law_pick" "_law_pick" s_pick fP fdP) (gP : mg "_law_pick" = some (.ref fP))
    (FH : FnP K "_law_heard" "_law_heard" s_heard fH fdH) (gH : mg "_law_heard" = some (.ref fH)) (I : Itm P w K mg base fdI) (T : Txt K mg) : FnOk P w K mg base CX0 6 f fd ["_law_pen_here", "_law_first", "_law_second"] spRefused := by
  have G_pick : FnOk P w K mg base CX0 2 fP fdP ["_law_pen_here", "_law_some"] (spPickL K) := ok_pick FP FD gD T
  have b_pick : Binds K fdP ["_law_pen_here", "_law_some"] [] := FP.bindsN fun _ _ _ _ _ _ us hl => match us, hl with | [_, _], _ => rfl
  have G_heard : FnOk P w K mg base CX0 5 fH fdH ["_law_worth", "_law_word"] spHeard := ok_heard FH I T
  have b_heard : Binds K fdH ["_law_worth", "_law_word"] [] := FH.bindsN fun _ _ _ _ _ _ us hl => match us, hl with | [_, _], _ => rfl
  refine F.ok sc_refused (fun vs H Q E h => ?_) (fun cdv A outer s H vs Q E hr h => ?_)
  · obtain ⟨p, l, i, z, c, rfl, _⟩ := h
    rfl
  · obtain ⟨p, l, i, z, c, rfl, hP, hc, hi, hz, k⟩ := h
    refine ⟨_, PSs.nox (pss_cons (ps_set (i := 3) sc_refused.nd rfl (Or.inl rfl) (pe_call G_pick (hr.mono (by decide)) rfl gP FP.kp b_pick .nil pass0 (pa_cons (pv 0) (pa_cons (pe_lstN (pa_cons pe_bl (pa_cons pe_bl (pa_cons pe_non (pa_cons pe_str (pa_cons pe_str (pa_cons (pe_op op_pow pe_int pe_int) (pa_cons (pe_un un_neg (pe_op op_pow pe_int pe_int)) (pa_cons (pe_op op_pow pe_int pe_int) (pa_cons (pe_tupN (pa_cons pe_int pa_nil)) (pa_cons (pe_lstN (pa_cons pe_int pa_nil)) (pa_cons pe_dnewN (pa_cons pe_str pa_nil))))))))))))) pa_nil))))
    (pss_cons (ps_set (i := 4) sc_refused.nd rfl (Or.inl rfl) (pe_call G_pick (hr.mono (by decide)) rfl gP FP.kp b_pick .nil pass0 (pa_cons (pv 0) (pa_cons (pe_lstN (pa_cons pe_str (pa_cons pe_str (pa_cons pe_str (pa_cons pe_str (pa_cons pe_str (pa_cons pe_str (pa_cons pe_str (pa_cons pe_non (pa_cons pe_int (pa_cons pe_bl (pa_cons (pe_tupN (pa_cons pe_str pa_nil)) (pa_cons (pe_lstN (pa_cons pe_str pa_nil)) (pa_cons pe_dnewN (pa_cons (pe_op op_mul_str pe_str pe_int) pa_nil))))))))))))))) pa_nil))))
    (pss_cons (ps_set (i := 5) sc_refused.nd rfl (Or.inl rfl) (pe_lstN (pa_cons (pe_call G_heard (hr.mono (by decide)) rfl gH FH.kp b_heard .nil pass0 (pa_cons (pv 3) (pa_cons (pv 2) pa_nil))) (pa_cons (pe_call G_heard (hr.mono (by decide)) rfl gH FH.kp b_heard .nil pass0 (pa_cons (pv 1) (pa_cons (pv 4) pa_nil))) (pa_cons (pe_call G_heard (hr.mono (by decide)) rfl gH FH.kp b_heard .nil pass0 (pa_cons (pv 3) (pa_cons (pv 4) pa_nil))) (pa_cons (pe_call G_heard (hr.mono (by decide)) rfl gH FH.kp b_heard .nil pass0 (pa_cons (pv 1) (pa_cons (pv 2) pa_nil))) pa_nil))))))
    (pss_one (ps_ret (pe_cmpR (op_eqD hr.units) (pv 5) (pe_lstN (pa_cons pe_str (pa_cons pe_str (pa_cons pe_str (pa_cons pe_non pa_nil))))) (nomark _))))))), ?_⟩
    refine ⟨_, rfl, _, _, rfl, rfl, ⟨by decide, by decide, by decide⟩, _, _, rfl, rfl, ⟨by decide, by decide, by decide⟩, _, rfl, _, _, rfl, rfl, ⟨by decide, by decide, by decide⟩, sz1000 (by show 1 ≤ 1000; decide), fun q1 H1 f1 s1 g1 => ?_⟩
    refine ⟨sz1000 (by show 1 ≤ 1000; decide), fun q2 H2 f2 m2 s2 g2 q3 H3 f3 m3 s3 g3 => ⟨sz1000 (by show 12 ≤ 1000; decide), fun q4 H4 f4 m4 s4 g4 => ?_⟩⟩
    have P1 := hP.same s1
    have P2 := P1.same s2
    have P3 := P2.same s3
    have P4 := P3.same s4
    have n1 := (hP.new f1).1
    have n2 := (P1.new f2).1
    have n3 := (P2.new f3).1
    have n4 := (P3.new f4).1
    refine ⟨p, l, q4, _, c, rfl, SqL.of g4, n4, (by show 0 < 12; decide), (by show 12 < 1000; decide), P4, by omega, fun v H5 hv P5 B5 => ?_⟩
    have C1 : Pl H5 p v ∧ rankOk v = false := by
      simp only [List.mem_cons, List.not_mem_nil, or_false] at hv
      rcases hv with rfl | rfl | rfl | rfl | rfl | rfl | rfl | rfl | rfl | rfl | rfl | rfl
      · exact ⟨pl_flat (.bl _) (fun _ z => nomatch z), rfl⟩
      · exact ⟨pl_flat (.bl _) (fun _ z => nomatch z), rfl⟩
      · exact ⟨pl_flat .non (fun _ z => nomatch z), rfl⟩
      · exact ⟨pl_flat (.str _) (fun _ z => nomatch z), rfl⟩
      · exact ⟨pl_flat (.str _) (fun _ z => nomatch z), rfl⟩
      · exact ⟨pl_flat (.int _) (fun _ z => nomatch z), by decide⟩
      · exact ⟨pl_flat (.int _) (fun _ z => nomatch z), by decide⟩
      · exact ⟨pl_flat (.int _) (fun _ z => nomatch z), by decide⟩
      · exact ⟨pl_ref (.tup (B5 _ _ (s4 _ _ (s3 _ _ (s2 _ _ g1))) n1)) n1, rfl⟩
      · exact ⟨pl_ref (.lst (B5 _ _ (s4 _ _ (s3 _ _ g2)) n2)) n2, rfl⟩
      · exact ⟨pl_ref (.dK (B5 _ _ (s4 _ _ g3) n3)) n3, rfl⟩
      · exact ⟨pl_flat (.str _) (fun _ z => nomatch z), rfl⟩
    obtain ⟨pv, rv⟩ := C1
    have BB5 : But p H H5 := ((((But.of s1).trans (But.of s2)).trans (But.of s3)).trans (But.of s4)).trans B5
    refine ⟨_, rfl, sz1000 (by show 1 ≤ 1000; decide), fun q6 H6 f6 s6 g6 => ⟨sz1000 (by show 1 ≤ 1000; decide), fun q7 H7 f7 m7 s7 g7 q8 H8 f8 m8 s8 g8 => ⟨_, _, rfl, rfl, mul40, sz1000 (by show 14 ≤ 1000; decide), fun q9 H9 f9 m9 s9 g9 => ?_⟩⟩⟩
    have P6 := P5.same s6
    have P7 := P6.same s7
    have P8 := P7.same s8
    have P9 := P8.same s9
    have n6 := (P5.new f6).1
    have n7 := (P6.new f7).1
    have n8 := (P7.new f8).1
    have n9 := (P8.new f9).1
    refine ⟨p, l, q9, _, c + 1, rfl, SqL.of g9, n9, (by show 0 < 14; decide), (by show 14 < 1000; decide), P9, by omega, fun u H10 hu P10 B10 => ?_⟩
    have C2 : Pl H10 p u ∧ nameOk u = false ∧ ∀ z, u = .str z → z.length ≤ 1000 := by
      simp only [List.mem_cons, List.not_mem_nil, or_false] at hu
      have st : ∀ {y : Str}, y.length ≤ 1000 → nameOk (.str y) = false → Pl H10 p (.str y) ∧ nameOk (.str y) = false ∧ ∀ z, V.str y = .str z → z.length ≤ 1000 := fun h1 h2 => ⟨pl_flat (.str _) (fun _ z => nomatch z), h2, fun z e => by
        cases e
        exact h1⟩
      rcases hu with rfl | rfl | rfl | rfl | rfl | rfl | rfl | rfl | rfl | rfl | rfl | rfl | rfl | rfl
      · exact st (by decide) (by decide +kernel)
      · exact st (by decide) (by decide +kernel)
      · exact st (by decide) (by decide +kernel)
      · exact st (by decide) (by decide +kernel)
      · exact st (by decide) (by decide +kernel)
      · exact st (by decide) (by decide +kernel)
      · exact st (by decide) (by decide +kernel)
      · exact ⟨pl_flat .non (fun _ z => nomatch z), rfl, fun _ z => nomatch z⟩
      · exact ⟨pl_flat (.int _) (fun _ z => nomatch z), rfl, fun _ z => nomatch z⟩
      · exact ⟨pl_flat (.bl _) (fun _ z => nomatch z), rfl, fun _ z => nomatch z⟩
      · exact ⟨pl_ref (.tup (B10 _ _ (s9 _ _ (s8 _ _ (s7 _ _ g6))) n6)) n6, rfl, fun _ z => nomatch z⟩
      · exact ⟨pl_ref (.lst (B10 _ _ (s9 _ _ (s8 _ _ g7)) n7)) n7, rfl, fun _ z => nomatch z⟩
      · exact ⟨pl_ref (.dK (B10 _ _ (s9 _ _ g8) n8)) n8, rfl, fun _ z => nomatch z⟩
      · exact st (by decide +kernel) (by decide +kernel)
    obtain ⟨pu, nu, lu⟩ := C2
    have B610 : But p H5 H10 := ((((But.of s6).trans (But.of s7)).trans (But.of s8)).trans (But.of s9)).trans B10
    obtain ⟨⟨tv, bv⟩, _⟩ := pv.but B610
    obtain ⟨⟨tu, bu⟩, _⟩ := pu
    have lz : ∀ y, V.str z = .str y → y.length ≤ 1000 := fun y e => by
      cases e
      exact Nat.le_trans (text_len hz) (by decide)
    have t1 : told v (.str z) = .str "rank" := by
      unfold told
      rw [rv]
      rfl
    have t2 : told (.int i) u = .str "name" := by
      unfold told
      rw [rankOk_of hi, nu]
      rfl
    have t3 : told v u = .str "rank" := by
      unfold told
      rw [rv]
      rfl
    have t4 : told (.int i) (.str z) = .non := by
      unfold told
      rw [rankOk_of hi, show nameOk (.str z) = true from hz]
      rfl
    refine ⟨_, rfl, _, rfl, v, .str z, tv, "str", rfl, bv, .str z, lz, fun H11 s11 => ?_⟩
    refine ⟨_, rfl, _, rfl, .int i, u, "int", tu, rfl, .int i, bu.same s11, lu, fun H12 s12 => ?_⟩
    refine ⟨_, rfl, _, rfl, v, u, tv, tu, rfl, (bv.same s11).same s12, (bu.same s11).same s12, lu, fun H13 s13 => ?_⟩
    refine ⟨_, rfl, _, rfl, .int i, .str z, "int", "str", rfl, .int i, .str z, lz, fun H14 s14 => ?_⟩
    rw [t1, t2, t3, t4]
    refine ⟨sz1000 (by show 4 ≤ 1000; decide), fun q15 H15 f15 m15 s15 g15 => ?_⟩
    refine ⟨_, rfl, sz1000 (by show 4 ≤ 1000; decide), fun q16 H16 f16 m16 s16 g16 => ?_⟩
    have items : DpAll K H16 [V.str "rank", .str "name", .str "rank", .non] [.str "rank", .str "name", .str "rank", .none] := .cons (.str _) (.cons (.str _) (.cons (.str _) (.cons .non .nil)))
    refine ⟨_, _, .lst (SqL.of (s16 _ _ g15)) items, .lst (SqL.of g16) items, by decide +kernel, by decide +kernel, ?_⟩
    rw [show PyData.eqv (.list [.str "rank", .str "name", .str "rank", .none]) (.list [.str "rank", .str "name", .str "rank", .none]) = true by decide +kernel]
    have SS : Same H10 H16 := ((((s11.trans s12).trans s13).trans s14).trans s15).trans s16
    exact k H16 (P10.same SS) ((BB5.trans B610).trans (But.of SS))
end
end K02
/-! Tw: a method called by keywords alone. -/
namespace Tw
open PySem PySem.Spec PyProof.Rows L2
section
variable {K : PySem.W.Frag} {x qual : Str} {params : Arguments} {body : List Stmt} {scope : Scope} {f : Addr} {fd : FuncData} {ps : List Str}
theorem kbNone (F : FunD K x qual params body scope [] [] f fd) (n : Nat) (ks : List Str)
    (h : ∀ (kV doc pm : Value) (an : Option Addr) (cdv ct : Value) (us ws : List Value), us.length = n → ws.length = ks.length → bindArgs (PySem.W.fnOf x qual params body scope .none kV doc pm an cdv ct) ⟨us, ks.zip ws⟩ = pure (ps.zip (us ++ ws))) :
    KBn K fd ps n ks (fun us ws => us ++ ws) (fun vs zs => vs ++ zs) := by
  obtain ⟨oc, od, dV, kV, doc, pm, an, cdv, ct, osl, rfl, lk, hcd, hD, hK⟩ := F.ex
  rcases hD with ⟨_, rfl⟩ | ⟨e, _⟩
  · exact ⟨fun s us ws X l1 l2 => .of_eq (h kV doc pm an cdv ct us ws l1 l2), fun r1 r2 => r1.append r2⟩
  · exact absurd rfl e
end
/-- o.m(k = v, ..) -/
def tMethN (C : Addr) (m : Str) (n : Nat) (sp : Sp) (gV : List V → List V → List V) (E : XK) (ta : TE) (tk : TA) : TE := fun σ H Q => ta σ H fun x H1 => ∃ (a dx : Addr) (fs : List (Str × V)), x = .ref a ∧ H1 a = some (.ins C dx fs) ∧ fs.lookup m = none ∧
  tk σ H1 fun zs H2 => zs.length = n ∧ sp (gV [.ref a] zs) H2 Q E
section
variable {X : Cx} {CX : CXT} {k : Nat} {f C : Addr} {fd : FuncData} {ps ks : List Str} {sp : Sp} {E : XK} {m : Str} {pos apos : Pos} {o : Expr} {kws : List Keyword} {ta : TE} {tk : TA} {g : List Value → List Value → List Value} {gV : List V → List V → List V}
theorem pe_methN {pl : Sem Bool} (he : PE X o ta) (c : Cls X.K C) (hm : Meth X.K C m f) (F : FnOk X.prog X.w X.K X.mg X.base CX k f fd ps sp) (hr : Room k X.A) (hb : KBn X.K fd ps 1 ks g gV) (hx : Passes CX X E) (hkw : PK X kws tk)
    (hall : (backToKw pos (keywordEach kws X.env)).all (·.1.isSome) = true := by rfl) (hks : (backToKw pos (keywordEach kws X.env)).filterMap (·.1) = ks := by rfl)
    (hpl : ((backTo pos (starEach [] X.env)).any (·.1) || (backToKw pos (keywordEach kws X.env)).any (·.1.isNone)) = false := by rfl)
    (ht : eval (.Call (.Attribute o m apos) [] kws pos) X.env = (do
      let v ← eval o X.env
      standAt apos.atName
      let (h, front) ← holding [v] (getMethod v m pl)
      callWith pos h front (backTo pos (starEach [] X.env)) (backToKw pos (keywordEach kws X.env))) := by rfl) :
    PE X (.Call (.Attribute o m apos) [] kws pos) (tMethN C m ks.length sp gV E ta tk) := by
  refine ⟨fun pins s σ H Q I h => ?_⟩
  refine PySem.W.methodCall_KW (pl := pl) (thn (he.run pins s σ H _ I h) fun u s1 ⟨x, H1, I1, rx, a, dx, fs, ex, ea, l, q⟩ => ?_) ht
  subst ex
  cases (show u = Value.ref a from rx)
  refine getmeth_ok I1 ea c hm l ?_
  refine PySem.W.callWith_KW0 (h₀ := X.base) (first := [.ref a]) I1.ok.mod.kin hm.kp hall (thn (hkw.run pos pins s1 σ H1 _ I1 q) fun ws s2 ⟨zs, H2, I2, rz, l2, q2⟩ => ⟨I2.kIn, ?_⟩) hpl
  rw [hks]
  exact run_fnN (us := [.ref a]) (vs := [.ref a]) F hr hb hx I2 (.cons rx .nil) rz rfl l2 q2
end
/-- == by an own __eq__, where the context is a comprehension's: what it knows is named -/
theorem eqOwnK {X : Cx} {CX : CXT} {k : Nat} {f C : Addr} {fd : FuncData} {ps : List Str} {sp : Sp} {E : XK} (P : Program) (w : World) (K : PySem.W.Frag) (mg : Str → Option Value) (base : Heap) (hs : PySem.W.findIn K (.ref C) "__eq__" = some (some (.ref f))) (hf : PySem.W.isFn K (.ref f) = true)
    (F : FnOk P w K mg base CX k f fd ps sp) (hr : Room k X.A) (hb : Binds K fd ps []) (hx : Passes CX X E) (e1 : X.prog = P := by rfl) (e2 : X.w = w := by rfl) (e3 : X.K = K := by rfl) (e4 : X.mg = mg := by rfl) (e5 : X.base = base := by rfl) : OpR X (compareOp .Eq) (rEqOwn K C sp E) := by
  subst e1 e2 e3 e4 e5
  exact op_eqOwn hs hf F hr hb hx
/-! lists of bools -/
theorem dpBools {K : PySem.W.Frag} {H : Hp} : ∀ bs : List Bool, DpAll K H (bs.map V.bl) (bs.map PyData.bool)
  | [] => .nil
  | b :: bs => .cons (.bl b) (dpBools bs)
theorem layBools : ∀ bs : List Bool, PyData.canLayAll0 (bs.map PyData.bool) = true ∧ PyData.depthAll (bs.map PyData.bool) = 0
  | [] => ⟨rfl, rfl⟩
  | b :: bs => by
    obtain ⟨h1, h2⟩ := layBools bs
    constructor
    · simp only [List.map_cons, PyData.canLayAll0, PyData.canLay0, h1, Bool.and_self]
    · simp only [List.map_cons, PyData.depthAll, PyData.depth, h2, Nat.max_self]
theorem shapedBools (bs : List Bool) : SeqAt.shaped (.list (bs.map PyData.bool)) = true := by
  obtain ⟨h1, h2⟩ := layBools bs
  simp [SeqAt.shaped, PyData.canLay0, PyData.depth, h1, h2]
theorem eqvBools (bs : List Bool) : PyData.eqv (.list (bs.map PyData.bool)) (.list (bs.map PyData.bool)) = true :=
  SeqAt.eqv_refl _ (by simpa [PyData.canLay0] using (layBools bs).1)
theorem ifSame {d : PyData} {A B : Prop} (h : PyData.eqv d d = true) (b : B) : if (!PyData.eqv d d) = true then A else B := by
  rw [h]
  exact iteF b
theorem mildBools : ∀ bs : List Bool, mildAll (bs.map PyData.bool) = true ∧ capAll (bs.map PyData.bool) ≤ 100 * bs.length
  | [] => ⟨rfl, Nat.le_refl _⟩
  | b :: bs => by
    obtain ⟨h1, h2⟩ := mildBools bs
    constructor
    · simp only [List.map_cons, mildAll, mild, h1, Bool.and_self]
    · simp only [List.map_cons, capAll, List.length_cons]
      have : cap (.bool b) ≤ 90 := by cases b <;> decide
      omega
end Tw
namespace K02
open PySem PySem.Spec PyProof.Rows L2 He Tw
abbrev s_pair : Stmt := topS 21
abbrev N_pair : List Str := ["_law_one", "_law_mate", "_law_first", "_law_second", "_law_heard_here", "_law_is_before", "_law_is_same"]
theorem sc_pair : FnScope N_pair ["_law_one", "_law_mate", "_law_first", "_law_second"] (defScope s_pair) := ⟨rfl, rfl, rfl, by decide +kernel, rfl, by decide +kernel, by decide +kernel⟩
def spPair (K : Fg) : Sp := fun vs H Q _ => ∃ (a b t1 t2 : Addr) (i j : Int) (z u : Str), vs = [.ref a, .ref b, .ref t1, .ref t2] ∧ It K H a i z ∧ It K H b j u ∧ SqT K H t1 [.int i, .str z] ∧ SqT K H t2 [.int j, .str u] ∧ textOk z = true ∧ textOk u = true ∧ ∀ H', Same H H' → Q (.bl true) H'
/-- the defs of the class -/
structure Meths (K : Fg) (fe fs fb fm : FuncData) : Prop where
  eq : FnP K "__eq__" "Item.__eq__" s_eq (ma K (ga K "Item") "__eq__") fe
  str : FnP K "__str__" "Item.__str__" s_str (ma K (ga K "Item") "__str__") fs
  bef : FnP K "before" "Item.before" s_bef (ma K (ga K "Item") "before") fb
  sam : FnP K "same" "Item.same" s_sam (ma K (ga K "Item") "same") fm
theorem fSame_comm (i : Int) (z : Str) (j : Int) (u : Str) : fSame j u i z = fSame i z j u := by
  unfold fSame
  rw [show decide (j = i) = decide (i = j) from decide_eq_decide.2 eq_comm, show decide (u = z) = decide (z = u) from decide_eq_decide.2 eq_comm]
theorem eqv_pair (i : Int) (z : Str) (j : Int) (u : Str) : PyData.eqv (.tuple [.int i, .str z]) (.tuple [.int j, .str u]) = fSame i z j u := by
  simp only [PyData.eqv, PyData.eqvAll, Bool.and_true]
  unfold fSame
  by_cases h1 : i = j
  · by_cases h2 : z = u
    · simp [h1, h2]
    · simp [h1, h2]
  · simp [h1]
theorem letters_lt : ∀ c ∈ letters.cps.toList, c < 128 := by decide +kernel
theorem text_lt {z : Str} (h : textOk z = true) : ∀ c ∈ z.cps.toList, c < 128 := fun c hc => by
  unfold textOk at h
  exact letters_lt c (of_decide_eq_true (List.all_eq_true.mp (ba h).2 c hc))
theorem text_strOk {z : Str} (h : textOk z = true) : PyData.strOk z = true := by
  unfold PyData.strOk
  rw [← Array.all_toList, List.all_eq_true]
  exact fun c hc => decide_eq_true (Nat.lt_trans (text_lt h c hc) (by decide))
theorem text_mild {z : Str} (h : ∀ c ∈ z.cps.toList, c < 128) : mild (.str z) = true := by
  unfold mild
  rw [List.all_eq_true]
  exact fun c hc => decide_eq_true (Nat.lt_trans (h c hc) (by decide))
theorem shaped_pair (i : Int) {z : Str} (h : textOk z = true) : SeqAt.shaped (.tuple [.int i, .str z]) = true := by
  simp [SeqAt.shaped, PyData.canLay0, PyData.canLayAll0, PyData.depth, PyData.depthAll, text_strOk h]
section
variable {P : Program} {w : World} {K : Fg} {mg : Str → Option Value} {base : Heap}
theorem ok_pair {f : Addr} {fd fe fs fb fm : FuncData} (F : FnP K "_law_pair_right" "_law_pair_right" s_pair f fd) (M : Meths K fe fs fb fm) (T : Txt K mg) : FnG P w K mg base CX0 4 f fd ["_law_one", "_law_mate", "_law_first", "_law_second"] (spPair K) := by
  have zrepr : mg "repr" = none := T.bl (by decide +kernel)
  have G_eq : FnOk P w K mg base CX0 1 _ fe ["self", "other"] (spEq K) := ok_eq M.eq T
  have G_bef : FnOk P w K mg base CX0 1 _ fb ["self", "other"] (spTwo K fBefore) := ok_bef M.bef T
  have G_sam : FnOk P w K mg base CX0 1 _ fm ["self", "other"] (spTwo K fSame) := ok_sam M.sam T
  have b_eq : Binds K fe ["self", "other"] [] := M.eq.bindsN fun _ _ _ _ _ _ us hl => match us, hl with | [_, _], _ => rfl
  have b_bef : Binds K fb ["self", "other"] [] := M.bef.bindsN fun _ _ _ _ _ _ us hl => match us, hl with | [_, _], _ => rfl
  have b_sam : Binds K fm ["self", "other"] [] := M.sam.bindsN fun _ _ _ _ _ _ us hl => match us, hl with | [_, _], _ => rfl
  have k_bef : KBn K fb ["self", "other"] 1 ["other"] (fun us ws => us ++ ws) (fun vs zs => vs ++ zs) := kbNone M.bef 1 ["other"] fun _ _ _ _ _ _ us ws h1 h2 => match us, h1, ws, h2 with | [_], _, [_], _ => rfl
  have k_sam : KBn K fm ["self", "other"] 1 ["other"] (fun us ws => us ++ ws) (fun vs zs => vs ++ zs) := kbNone M.sam 1 ["other"] fun _ _ _ _ _ _ us ws h1 h2 => match us, h1, ws, h2 with | [_], _, [_], _ => rfl
  have mE := T.sp (m := "__eq__") (by decide +kernel)
  have mB := T.mt (m := "before") (by decide +kernel)
  have mS := T.mt (m := "same") (by decide +kernel)
  refine F.okG sc_pair (fun vs H Q E h => ?_) (fun cdv A outer s H vs Q E hr hg h => ?_)
  · obtain ⟨a, b, t1, t2, i, j, z, u, rfl, _⟩ := h
    rfl
  · obtain ⟨a, b, t1, t2, i, j, z, u, rfl, hA, hB, hT, hU, tz, tu, k⟩ := h
    have hu := room70 hr
    refine ⟨_, PSs.nox (pss_cons (ps_if (pt_cmpR (op_neD hr.units) (pe_lstN (pa_cons (pe_cmpR (op_eqOwn (E := E0) mE.at_ mE.fn G_eq (hr.mono (by decide)) b_eq pass0) (pv 0) (pv 1) (nomark _)) (pa_cons (pe_cmpR (op_neOwn (E := E0) T.ne mE.at_ mE.fn T.mro G_eq (hr.mono (by decide)) b_eq pass0) (pv 0) (pv 1) (nomark _)) pa_nil))) (pe_lstN (pa_cons (pe_cmpR op_eq (pe_ix ix_tup (pv 2) pe_int (fun _ _ => rfl)) (pe_ix ix_tup (pv 3) pe_int (fun _ _ => rfl)) (nomark _)) (pa_cons (pe_cmpR op_ne (pe_ix ix_tup (pv 2) pe_int (fun _ _ => rfl)) (pe_ix ix_tup (pv 3) pe_int (fun _ _ => rfl)) (nomark _)) pa_nil))) (nomark _)) (pss_one (ps_ret pe_bl)) pss_nil)
    (pss_cons (ps_set (i := 4) sc_pair.nd rfl (Or.inl rfl) (pe_lstN (pa_cons (pe_meth (E := E0) (pv 0) T.cls mB G_bef (hr.mono (by decide)) b_bef .nil pass0 (pa_cons (pv 1) pa_nil)) (pa_cons (pe_meth (E := E0) (pv 1) T.cls mB G_bef (hr.mono (by decide)) b_bef .nil pass0 (pa_cons (pv 0) pa_nil)) (pa_cons (pe_meth (E := E0) (pv 0) T.cls mS G_sam (hr.mono (by decide)) b_sam .nil pass0 (pa_cons (pv 1) pa_nil)) (pa_cons (pe_meth (E := E0) (pv 1) T.cls mS G_sam (hr.mono (by decide)) b_sam .nil pass0 (pa_cons (pv 0) pa_nil)) pa_nil))))))
    (pss_cons (ps_set (i := 4) sc_pair.nd rfl (Or.inl rfl) (pe_op op_catN (pv 4) (pe_lstN (pa_cons (pe_methN (E := E0) (pv 0) T.cls mB G_bef (hr.mono (by decide)) k_bef pass0 (pk_cons (pv 1) pk_nil)) (pa_cons (pe_methN (E := E0) (pv 0) T.cls mS G_sam (hr.mono (by decide)) k_sam pass0 (pk_cons (pv 1) pk_nil)) pa_nil)))))
    (pss_cons (ps_par (i := 5) (j := 6) (by rfl) sc_pair.nd rfl rfl (by decide) rfl rfl (pa_cons (pe_cmpR op_lt (pe_ix ix_tup (pv 2) pe_int (fun _ _ => rfl)) (pe_ix ix_tup (pv 3) pe_int (fun _ _ => rfl)) (nomark _)) (pa_cons (pe_cmpR (op_eqD hr.units) (pv 2) (pv 3) (nomark _)) pa_nil)) (by rfl))
    (pss_one (ps_ret (pe_cmpR op_eq (pe_callB (call_reprD hg hu) (by rfl) zrepr Tw.boot_repr (pa_cons (pv 4) pa_nil)) (pe_callB (call_reprD hg hu) (by rfl) zrepr Tw.boot_repr (pa_cons (pe_lstN (pa_cons (pv 5) (pa_cons (pe_cmpR op_lt (pe_ix ix_tup (pv 3) pe_int (fun _ _ => rfl)) (pe_ix ix_tup (pv 2) pe_int (fun _ _ => rfl)) (nomark _)) (pa_cons (pv 6) (pa_cons (pv 6) (pa_cons (pv 5) (pa_cons (pv 6) pa_nil))))))) pa_nil)) (nomark _)))))))), ?_⟩
    obtain ⟨dxa, ha⟩ := id hA
    obtain ⟨dxb, hb⟩ := id hB
    have oB : Oth K H (.ref b) (some j) := .item hB
    obtain ⟨tb, tyb, nfb, _⟩ := oB.tyA T
    refine ⟨_, rfl, _, rfl, a, dxa, _, tb, rfl, ha, tyb, nfb, ⟨a, i, z, .ref b, some j, rfl, hA, oB, ?_⟩⟩
    refine ⟨_, rfl, _, rfl, a, dxa, _, tb, rfl, ha, tyb, nfb, ⟨a, i, z, .ref b, some j, rfl, hA, oB, _, rfl, ?_⟩⟩
    refine ⟨sz1000 (by show 2 ≤ 1000; decide), fun q1 H1 f1 m1 s1 g1 => ?_⟩
    have T1 := sqT_same s1 hT
    have U1 := sqT_same s1 hU
    refine ⟨_, rfl, t1, _, _, .int i, rfl, rfl, T1, rfl, _, rfl, t2, _, _, .int j, rfl, rfl, U1, rfl, rfl, ?_⟩
    refine ⟨_, rfl, t1, _, _, .int i, rfl, rfl, T1, rfl, _, rfl, t2, _, _, .int j, rfl, rfl, U1, rfl, rfl, ?_⟩
    rw [dec_i]
    refine ⟨sz1000 (by show 2 ≤ 1000; decide), fun q2 H2 f2 m2 s2 g2 => ?_⟩
    refine ⟨.list ([decide (i = j), !decide (i = j)].map .bool), .list ([decide (i = j), !decide (i = j)].map .bool), .lst (SqL.of (s2 _ _ g1)) (dpBools [decide (i = j), !decide (i = j)]), .lst (SqL.of g2) (dpBools [decide (i = j), !decide (i = j)]), shapedBools _, shapedBools _, _, rfl, ?_⟩
    refine ifSame (eqvBools _) ?_
    have S2 := s1.trans s2
    have A2 := hA.same S2
    have B2 := hB.same S2
    obtain ⟨_, ha2⟩ := id A2
    obtain ⟨_, hb2⟩ := id B2
    refine ⟨_, rfl, a, _, _, rfl, ha2, rfl, _, rfl, a, b, i, j, z, u, rfl, A2, B2, ?_⟩
    refine ⟨_, rfl, b, _, _, rfl, hb2, rfl, _, rfl, b, a, j, i, u, z, rfl, B2, A2, ?_⟩
    refine ⟨_, rfl, a, _, _, rfl, ha2, rfl, _, rfl, a, b, i, j, z, u, rfl, A2, B2, ?_⟩
    refine ⟨_, rfl, b, _, _, rfl, hb2, rfl, _, rfl, b, a, j, i, u, z, rfl, B2, A2, ?_⟩
    refine ⟨sz1000 (by show 4 ≤ 1000; decide), fun q3 H3 f3 m3 s3 g3 => ?_⟩
    have A3 := A2.same s3
    have B3 := B2.same s3
    obtain ⟨_, ha3⟩ := id A3
    refine ⟨_, rfl, _, rfl, a, _, _, rfl, ha3, rfl, _, rfl, rfl, a, b, i, j, z, u, rfl, A3, B3, ?_⟩
    refine ⟨_, rfl, a, _, _, rfl, ha3, rfl, _, rfl, rfl, a, b, i, j, z, u, rfl, A3, B3, ?_⟩
    refine ⟨sz1000 (by show 2 ≤ 1000; decide), fun q4 H4 f4 m4 s4 g4 => ?_⟩
    refine ⟨q3, q4, _, _, rfl, rfl, s4 _ _ g3, g4, sz1000 (by show 4 + 2 ≤ 1000; decide), fun q5 H5 f5 m5 s5 g5 => ?_⟩
    have S5 := ((S2.trans s3).trans s4).trans s5
    have T5 := sqT_same S5 hT
    have U5 := sqT_same S5 hU
    refine ⟨_, rfl, t1, _, _, .int i, rfl, rfl, T5, rfl, _, rfl, t2, _, _, .int j, rfl, rfl, U5, rfl, _, _, rfl, rfl, ?_⟩
    refine ⟨_, rfl, _, rfl, .tuple [.int i, .str z], .tuple [.int j, .str u], .tup T5 (.cons (.int i) (.cons (.str z) .nil)), .tup U5 (.cons (.int j) (.cons (.str u) .nil)), shaped_pair i tz, shaped_pair j tu, ?_⟩
    rw [eqv_pair]
    obtain ⟨bs, ebs⟩ : ∃ bs : List Bool, bs = [decide (i < j), decide (j < i), fSame i z j u, fSame i z j u, decide (i < j), fSame i z j u] := ⟨_, rfl⟩
    have hm : mild (.list (bs.map .bool)) = true := (mildBools bs).1
    have hc : cap (.list (bs.map .bool)) ≤ 16777216 := by
      have h2 := (mildBools bs).2
      have h3 : bs.length = 6 := by rw [ebs]; rfl
      simp only [cap]
      omega
    have hd : (PyData.list (bs.map .bool)).depth ≤ 64 := by
      simp only [PyData.depth, (layBools bs).2]
      decide
    refine ⟨_, _, rfl, _, rfl, q5, .list (bs.map .bool), rfl, .lst (SqL.of ?_) (dpBools bs), hm, hd, hc, ?_⟩
    · rw [g5, ebs, fSame_comm i z j u]
      rfl
    refine ⟨_, rfl, _, rfl, t2, _, _, .int j, rfl, rfl, U5, rfl, _, rfl, t1, _, _, .int i, rfl, rfl, T5, rfl, _, _, rfl, rfl, _, rfl, _, rfl, _, rfl, _, rfl, sz1000 (by show 6 ≤ 1000; decide), fun q6 H6 f6 m6 s6 g6 => ?_⟩
    refine ⟨q6, .list (bs.map .bool), rfl, .lst (SqL.of ?_) (dpBools bs), hm, hd, hc, rfl, ?_⟩
    · rw [g6, ebs]
      rfl
    rw [decide_eq_true rfl]
    exact k H6 (S5.trans s6)
end
end K02
namespace K02
open PySem PySem.Spec PyProof.Rows L2 He Tw
theorem ofString_lt (s : String) : ∀ c ∈ (Str.ofString s).cps.toList, c < 16 ^ 8 := by
  rw [PySem.Str.ofString_eq_toList]
  intro c hc
  have hc2 : c ∈ s.toList.map Char.toNat := by simpa using hc
  obtain ⟨ch, _, rfl⟩ := List.mem_map.mp hc2
  have h : ch.toNat < 1114112 := by
    rcases ch.valid with h | ⟨_, h⟩
    · exact Nat.lt_trans h (by decide)
    · exact h
  exact Nat.lt_trans h (by decide)
theorem mild_str {z : Str} (h : ∀ c ∈ z.cps.toList, c < 16 ^ 8) : mild (.str z) = true := by
  unfold mild
  rw [List.all_eq_true]
  exact fun c hc => decide_eq_true (h c hc)
theorem item_mild (i : Int) {z : Str} (h : textOk z = true) : mild (.str (itemText i z)) = true := mild_str fun c hc => by
  rw [show (itemText i z).cps.toList = TL.tl (itemText i z) from rfl] at hc
  unfold itemText at hc
  rw [TL.tl_append] at hc
  rcases List.mem_append.mp hc with q | q
  · exact ofString_lt _ c q
  · exact Nat.lt_trans (text_lt h c q) (by decide)
theorem item_len {i : Int} {z : Str} (hi : i.natAbs < 10 ^ 30) (hz : z.length ≤ 8) : (itemText i z).length ≤ 39 := by
  unfold itemText
  rw [Str.length_append]
  have := len_int hi
  omega
theorem but_seqT {K : Fg} {p a : Addr} {H H' : Hp} {xs : List V} (e : But p H H') (hne : a ≠ p) (h : SqT K H a xs) : SqT K H' a xs := by
  rcases h with (h | ⟨o, h⟩) | h
  · exact .inl (.inl (e _ _ h hne))
  · exact .inl (.inr ⟨o, e _ _ h hne⟩)
  · exact .inr h
theorem but_it {K : Fg} {p a : Addr} {H H' : Hp} {i : Int} {z : Str} (e : But p H H') (hne : a ≠ p) (h : It K H a i z) : It K H' a i z := by
  obtain ⟨dx, h⟩ := h
  exact ⟨dx, e _ _ h hne⟩
/-- keywords name, rank in the def's order -/
def swapL {α : Type} (us _its ws : List α) : List α := us ++ (match ws with
  | [a, b] => [b, a]
  | w => w)
theorem swap_rel {vs ds zs : List V} {us its ws : List Value} (r : Vals vs us) (_d : Vals ds its) (q : Vals zs ws) : Vals (swapL vs ds zs) (swapL us its ws) := by
  unfold swapL
  refine r.append ?_
  cases q with
  | nil => exact .nil
  | cons a q => cases q with
    | nil => exact .cons a .nil
    | cons b q => cases q with
      | nil => exact .cons b (.cons a .nil)
      | cons c q => exact .cons a (.cons b (.cons c q))
/-- an item of a good rank and name is made -/
theorem item_to {K : Fg} {H : Hp} {i : Int} {z : Str} {R : VK} {E : XK} {x dx : Addr} (hx : H x = none) (hd : H dx = none) (hne : dx ≠ x) (hi : i.natAbs < 10 ^ 30) (tz : textOk z = true) (k : ∀ H' : Hp, It K H' x i z → Same H H' → R .non H') :
    spItem K [.ref x, .int i, .str z] (upd (upd H dx (.own x)) x (.ins (ga K "Item") dx [])) R E := by
  refine ⟨x, dx, .int i, .str z, "int", "str", rfl, upd_same, .int i, .str z, fun y e => ?_, fun _ _ H' b e => k H' ⟨dx, e⟩ (same_but (same_made hd hx hne) b hx), fun h => ?_⟩
  · cases e
    exact Nat.le_trans (text_len tz) (by decide)
  · rw [rankOk_of hi, show nameOk (.str z) = true from tz] at h
    rcases h with h | h <;> cases h
theorem bad_to {H : Hp} {C : Addr} {z : Str} {R : VK} {E : XK} {e : Addr} (he : H e = none) (k : ∀ (d : Addr) (H' : Hp), IsX H' e C (some d) → IsXd H' d [("part", .str z)] → Same H H' → R .non H') :
    spIni C "part" [.ref e, .str z] (upd H e (exo e C none)) R E :=
  ⟨e, .str z, rfl, upd_same, fun d H' hd hda e1 e2 e3 => k d H' (.inl e1) (.inl e2) (same_but (same_new he) e3 he)⟩
theorem str_mild3 {i : Int} {z : Str} (hi : i.natAbs < 10 ^ 30) (tz : textOk z = true) : mild (.tuple [.int i, .str z, .str (itemText i z)]) = true ∧ (PyData.tuple [.int i, .str z, .str (itemText i z)]).depth ≤ 64 ∧ cap (.tuple [.int i, .str z, .str (itemText i z)]) ≤ 16777216 := by
  have m1 : mild (.int i) = true := decide_eq_true (log_lt hi)
  have m2 : mild (.str z) = true := text_mild (text_lt tz)
  have m3 := item_mild i tz
  refine ⟨?_, ?_, ?_⟩
  · show (mild (.int i) && (mild (.str z) && (mild (.str (itemText i z)) && true))) = true
    rw [m1, m2, m3]
    rfl
  · simp only [PyData.depth, PyData.depthAll]
    decide
  · have l1 := text_len tz
    have l2 := item_len hi l1
    simp only [cap, capAll]
    omega
abbrev s_law : Stmt := topS 22
abbrev N_law : List Str := ["_law_script", "_law_pen_here", "_law_turn", "_law_first", "_law_second", "_law_one", "_law_mate", "_law_bare", "_law_others", "_law_thing"]
theorem sc_law : FnScope N_law ["_law_script"] (defScope s_law) := ⟨rfl, rfl, rfl, by decide +kernel, rfl, by decide +kernel, by decide +kernel⟩
def spLaw (K : Fg) : Sp := fun vs H Q _ => ∃ (a : Addr) (ns : List Int), vs = [.ref a] ∧ SqL K H a (ns.map V.int) ∧ ns.length ≤ 63 ∧ ∀ H', Q (.bl true) H'
/-- the defs of the law's text and of the package -/
structure Defs (K : Fg) (fd : Str → FuncData) : Prop where
  pen : FnP K "_law_pen" "_law_pen" s_pen (ga K "_law_pen") (fd "_law_pen")
  draw : FnP K "_law_draw" "_law_draw" s_draw (ga K "_law_draw") (fd "_law_draw")
  pick : FnP K "_law_pick" "_law_pick" s_pick (ga K "_law_pick") (fd "_law_pick")
  name : FnP K "_law_name" "_law_name" s_name (ga K "_law_name") (fd "_law_name")
  rank : FnP K "_law_rank" "_law_rank" s_rank (ga K "_law_rank") (fd "_law_rank")
  heard : FnP K "_law_heard" "_law_heard" s_heard (ga K "_law_heard") (fd "_law_heard")
  refused : FnP K "_law_refused" "_law_refused" s_refused (ga K "_law_refused") (fd "_law_refused")
  pair : FnP K "_law_pair_right" "_law_pair_right" s_pair (ga K "_law_pair_right") (fd "_law_pair_right")
  law : FnP K "law" "law" s_law (ga K "law") (fd "law")
  num : FnP K "is_number" "is_number" s_num (ga K "is_number") (fd "is_number")
  rnk : FnP K "is_rank" "is_rank" s_rnk (ga K "is_rank") (fd "is_rank")
  let_ : FnP K "is_lettered" "is_lettered" s_let (ga K "is_lettered") (fd "is_lettered")
  bad : FnP K "__init__" "BadItem.__init__" s_bad (ma K (ga K "BadItem") "__init__") (fd "bad")
  item : FnI K (ma K (ga K "Item") "__init__") (fd "item")
  meths : Meths K (fd "__eq__") (fd "__str__") (fd "before") (fd "same")
section
variable {P : Program} {w : World} {K : Fg} {mg : Str → Option Value} {base : Heap}
theorem ok_law {fd : Str → FuncData} (D : Defs K fd) (T : Txt K mg) : FnG P w K mg base CX0 7 (ga K "law") (fd "law") ["_law_script"] (spLaw K) := by
  have g : ∀ {x : Str}, x ∈ fnames → mg x = some (.ref (ga K x)) := fun h => T.fn h
  have g_draw := g (x := "_law_draw") (by decide +kernel)
  have g_pick := g (x := "_law_pick") (by decide +kernel)
  have g_pen := g (x := "_law_pen") (by decide +kernel)
  have g_name := g (x := "_law_name") (by decide +kernel)
  have g_rank := g (x := "_law_rank") (by decide +kernel)
  have g_heard := g (x := "_law_heard") (by decide +kernel)
  have g_refused := g (x := "_law_refused") (by decide +kernel)
  have g_pair := g (x := "_law_pair_right") (by decide +kernel)
  have g_num := g (x := "is_number") (by decide +kernel)
  have g_rnk := g (x := "is_rank") (by decide +kernel)
  have g_let := g (x := "is_lettered") (by decide +kernel)
  have gI : mg "Item" = some (.ref (ga K "Item")) := T.cl (by decide +kernel)
  have gB : mg "BadItem" = some (.ref (ga K "BadItem")) := T.cl (by decide +kernel)
  have zr : mg "range" = none := T.bl (by decide +kernel)
  have zint : mg "int" = none := T.bl (by decide +kernel)
  have zabs : mg "abs" = none := T.bl (by decide +kernel)
  have zstr : mg "str" = none := T.bl (by decide +kernel)
  have zrepr : mg "repr" = none := T.bl (by decide +kernel)
  obtain ⟨d3, r3, bI⟩ := FunD.binds1 (ps := ["self", "rank", "name"]) D.item 3 1 (fun z => nomatch z) rfl fun _ _ _ _ _ _ _ us its h1 h2 => match us, h1, its, h2 with
    | [_, _, _], _, [_], _ => ⟨_, rfl, rfl⟩
  obtain ⟨d2, r2, bB⟩ := FunD.binds1 (ps := ["self", "rank", "name"]) D.item 2 0 (fun z => nomatch z) rfl fun _ _ _ _ _ _ _ us its h1 h2 => match us, h1, its, h2 with
    | [_, _], _, [_], _ => ⟨_, rfl, rfl⟩
  cases (show Vals [] d3 from r3)
  obtain ⟨dk, kI⟩ := FunD.kbindsD (ps := ["self", "rank", "name"]) D.item 1 ["name", "rank"] swapL (fun z => nomatch z) swap_rel fun _ _ _ _ _ _ _ us its ws h1 h2 h3 => match us, h1, its, h2, ws, h3 with
    | [_], _, [_], _, [_, _], _ => ⟨_, rfl, rfl⟩
  have mE := T.sp (m := "__eq__") (by decide +kernel)
  have mS := T.sp (m := "__str__") (by decide +kernel)
  have G_item : FnOk P w K mg base (L2.CX P w) 3 _ _ ["self", "rank", "name"] (spItem K) := ok_item (fB := ga K "Item") D.item D.rnk g_rnk D.num g_num D.let_ g_let D.bad T
  have I : Itm P w K mg base (fd "item") := ⟨G_item, bI⟩
  have G_pen : FnOk P w K mg base CX0 1 _ _ ["_law_script"] (spPenL K) := ok_pen D.pen T
  have G_draw : FnOk P w K mg base CX0 1 _ _ ["_law_pen_here", "_law_many"] spDrawL := ok_draw D.draw T
  have G_pick : FnOk P w K mg base CX0 2 _ _ ["_law_pen_here", "_law_some"] (spPickL K) := ok_pick D.pick D.draw g_draw T
  have G_name : FnOk P w K mg base CX0 3 _ _ ["_law_pen_here"] spName := ok_name D.name D.draw g_draw D.pick g_pick T
  have G_rank : FnOk P w K mg base CX0 2 _ _ ["_law_pen_here"] spRankD := ok_rank D.rank D.draw g_draw T
  have G_refused : FnOk P w K mg base CX0 6 _ _ ["_law_pen_here", "_law_first", "_law_second"] spRefused := ok_refused D.refused D.draw g_draw D.pick g_pick D.heard g_heard I T
  have G_pair : FnG P w K mg base CX0 4 _ _ ["_law_one", "_law_mate", "_law_first", "_law_second"] (spPair K) := ok_pair D.pair D.meths T
  have G_eq : FnOk P w K mg base CX0 1 _ _ ["self", "other"] (spEq K) := ok_eq D.meths.eq T
  have G_str : FnOk P w K mg base CX0 1 _ _ ["self"] (spStr K) := ok_str D.meths.str T
  have G_bad : FnOk P w K mg base CX0 1 _ _ ["self", "part"] (spIni (ga K "BadItem") "part") := ok_bad D.bad T
  have b_pen : Binds K (fd "_law_pen") ["_law_script"] [] := D.pen.bindsN fun _ _ _ _ _ _ us hl => match us, hl with | [_], _ => rfl
  have b_draw : Binds K (fd "_law_draw") ["_law_pen_here", "_law_many"] [] := D.draw.bindsN fun _ _ _ _ _ _ us hl => match us, hl with | [_, _], _ => rfl
  have b_pick : Binds K (fd "_law_pick") ["_law_pen_here", "_law_some"] [] := D.pick.bindsN fun _ _ _ _ _ _ us hl => match us, hl with | [_, _], _ => rfl
  have b_name : Binds K (fd "_law_name") ["_law_pen_here"] [] := D.name.bindsN fun _ _ _ _ _ _ us hl => match us, hl with | [_], _ => rfl
  have b_rank : Binds K (fd "_law_rank") ["_law_pen_here"] [] := D.rank.bindsN fun _ _ _ _ _ _ us hl => match us, hl with | [_], _ => rfl
  have b_refused : Binds K (fd "_law_refused") ["_law_pen_here", "_law_first", "_law_second"] [] := D.refused.bindsN fun _ _ _ _ _ _ us hl => match us, hl with | [_, _, _], _ => rfl
  have b_pair : Binds K (fd "_law_pair_right") ["_law_one", "_law_mate", "_law_first", "_law_second"] [] := D.pair.bindsN fun _ _ _ _ _ _ us hl => match us, hl with | [_, _, _, _], _ => rfl
  have b_eq : Binds K (fd "__eq__") ["self", "other"] [] := D.meths.eq.bindsN fun _ _ _ _ _ _ us hl => match us, hl with | [_, _], _ => rfl
  have b_str : Binds K (fd "__str__") ["self"] [] := D.meths.str.bindsN fun _ _ _ _ _ _ us hl => match us, hl with | [_], _ => rfl
  have b_bad : Binds K (fd "bad") ["self", "part"] [] := D.bad.bindsN fun _ _ _ _ _ _ us hl => match us, hl with | [_, _], _ => rfl
  refine D.law.okG sc_law (fun vs H Q E h => ?_) (fun cdv A outer s H vs Q E hr hg h => ?_)
  · obtain ⟨a, ns, rfl, _⟩ := h
    rfl
  · obtain ⟨a, ns, rfl, hS, hn, k⟩ := h
    have hu := room70 hr
    refine ⟨_, PSs.nox (pss_cons (ps_set (i := 1) sc_law.nd rfl (Or.inl rfl) (pe_call G_pen (hr.mono (by decide)) rfl g_pen D.pen.kp b_pen .nil pass0 (pa_cons (pv 0) pa_nil)))
    (pss_cons (ps_for PassesOwn.never rfl (pi_range1 rfl zr (pa_cons pe_int pa_nil)) (pg_name (i := 2) sc_law.nd rfl (Or.inl rfl))
    (pss_cons (ps_set (i := 3) sc_law.nd rfl (Or.inl rfl) (pe_tupN (pa_cons (pe_call G_rank (hr.mono (by decide)) rfl g_rank D.rank.kp b_rank .nil pass0 (pa_cons (pv 1) pa_nil)) (pa_cons (pe_call G_name (hr.mono (by decide)) rfl g_name D.name.kp b_name .nil pass0 (pa_cons (pv 1) pa_nil)) pa_nil))))
    (pss_cons (ps_set (i := 4) sc_law.nd rfl (Or.inl rfl) (pe_tupN (pa_cons (pe_call G_pick (hr.mono (by decide)) rfl g_pick D.pick.kp b_pick .nil pass0 (pa_cons (pv 1) (pa_cons (pe_lstN (pa_cons (pe_ix ix_tup (pv 3) pe_int (fun _ _ => rfl)) (pa_cons (pe_op op_add (pe_ix ix_tup (pv 3) pe_int (fun _ _ => rfl)) (pe_callTy call_int1 (by rfl) zint (by decide +kernel) (pa_cons (pe_cmpR op_lt (pe_callB call_abs (by rfl) zabs (by decide +kernel) (pa_cons (pe_ix ix_tup (pv 3) pe_int (fun _ _ => rfl)) pa_nil)) pe_int (nomark _)) pa_nil))) (pa_cons (pe_call G_rank (hr.mono (by decide)) rfl g_rank D.rank.kp b_rank .nil pass0 (pa_cons (pv 1) pa_nil)) pa_nil)))) pa_nil))) (pa_cons (pe_call G_name (hr.mono (by decide)) rfl g_name D.name.kp b_name .nil pass0 (pa_cons (pv 1) pa_nil)) pa_nil))))
    (pss_mid (ps_if (pt_cmpR op_eq (pe_call G_draw (hr.mono (by decide)) rfl g_draw D.draw.kp b_draw .nil pass0 (pa_cons (pv 1) (pa_cons pe_int pa_nil))) pe_int (nomark _)) (pss_one (ps_set (i := 4) sc_law.nd rfl (Or.inl rfl) (pe_tupN (pa_cons (pe_ix ix_tup (pv 4) pe_int (fun _ _ => rfl)) (pa_cons (pe_ix ix_tup (pv 3) pe_int (fun _ _ => rfl)) pa_nil))))) pss_nil)
    (pss_cons (ps_asg (pe_tupN (pa_cons (pe_make (E := E0) T.mkI G_item (hr.mono (by decide)) rfl gI bI .nil passL (pa_cons (pe_ix ix_tup (pv 3) pe_int (fun _ _ => rfl)) (pa_cons (pe_ix ix_tup (pv 3) pe_int (fun _ _ => rfl)) pa_nil))) (pa_cons (pe_makeK0 (E := E0) T.mkI G_item (hr.mono (by decide)) rfl gI kI passL (pk_cons (pe_ix ix_tup (pv 4) pe_int (fun _ _ => rfl)) (pk_cons (pe_ix ix_tup (pv 4) pe_int (fun _ _ => rfl)) pk_nil))) pa_nil))) (pg_tup (by rfl) (pgs_cons (pg_name (i := 5) sc_law.nd rfl (Or.inr rfl)) (pgs_cons (pg_name (i := 6) sc_law.nd rfl (Or.inl rfl)) pgs_nil))))
    (pss_cons (ps_if (pt_cmpR op_ne (pe_callB (call_reprD hg hu) (by rfl) zrepr Tw.boot_repr (pa_cons (pe_tupN (pa_cons (pe_fld (pv 5) rfl) (pa_cons (pe_fld (pv 5) rfl) (pa_cons (pe_callTy (call_strOwn (E := E0) mS.at_ mS.fn G_str (hr.mono (by decide)) b_str pass0) (by rfl) zstr (by decide +kernel) (pa_cons (pv 5) pa_nil)) pa_nil)))) pa_nil)) (pe_callB (call_reprD hg hu) (by rfl) zrepr Tw.boot_repr (pa_cons (pe_tupN (pa_cons (pe_ix ix_tup (pv 3) pe_int (fun _ _ => rfl)) (pa_cons (pe_ix ix_tup (pv 3) pe_int (fun _ _ => rfl)) (pa_cons (pe_op op_add_str (pe_callTy call_str_int (by rfl) zstr (by decide +kernel) (pa_cons (pe_ix ix_tup (pv 3) pe_int (fun _ _ => rfl)) pa_nil)) (pe_ix ix_tup (pv 3) pe_int (fun _ _ => rfl))) pa_nil)))) pa_nil)) (nomark _)) (pss_one (ps_ret pe_bl)) pss_nil)
    (pss_cons (ps_if (PW.pt (pw_or (pt_not (pt_val (pe_callG G_pair (hr.mono (by decide)) hg rfl g_pair D.pair.kp b_pair .nil pass0 (pa_cons (pv 5) (pa_cons (pv 6) (pa_cons (pv 3) (pa_cons (pv 4) pa_nil))))))) (pw_or1 (pt_not (pt_val (pe_callG G_pair (hr.mono (by decide)) hg rfl g_pair D.pair.kp b_pair .nil pass0 (pa_cons (pv 5) (pa_cons (pv 5) (pa_cons (pv 3) (pa_cons (pv 3) pa_nil)))))))))) (pss_one (ps_ret pe_bl)) pss_nil)
    (pss_cons (ps_set (i := 7) sc_law.nd rfl (Or.inl rfl) (pe_make (E := E0) T.mkI G_item (hr.mono (by decide)) rfl gI bB r2 passL (pa_cons (pe_ix ix_tup (pv 3) pe_int (fun _ _ => rfl)) pa_nil)))
    (pss_cons (ps_if (PW.pt (pw_or (pt_cmpR op_ne (pe_fld (pv 7) rfl) pe_str (nomark _)) (pw_or (pt_cmpR op_ne (pe_callTy (call_strOwn (E := E0) mS.at_ mS.fn G_str (hr.mono (by decide)) b_str pass0) (by rfl) zstr (by decide +kernel) (pa_cons (pv 7) pa_nil)) (pe_callTy call_str_int (by rfl) zstr (by decide +kernel) (pa_cons (pe_ix ix_tup (pv 3) pe_int (fun _ _ => rfl)) pa_nil)) (nomark _)) (pw_or1 (pt_not (pt_cmpR (op_eqOwn (E := E0) mE.at_ mE.fn G_eq (hr.mono (by decide)) b_eq pass0) (pv 7) (pv 5) (nomark _))))))) (pss_one (ps_ret pe_bl)) pss_nil)
    (pss_cons (ps_set (i := 8) sc_law.nd rfl (Or.inl rfl) (pe_lstN (pa_cons (pe_ix ix_tup (pv 3) pe_int (fun _ _ => rfl)) (pa_cons (pv 3) (pa_cons (pe_lstN (pa_cons (pe_ix ix_tup (pv 3) pe_int (fun _ _ => rfl)) (pa_cons (pe_ix ix_tup (pv 3) pe_int (fun _ _ => rfl)) pa_nil))) (pa_cons pe_non (pa_cons (pe_callTy (call_strOwn (E := E0) mS.at_ mS.fn G_str (hr.mono (by decide)) b_str pass0) (by rfl) zstr (by decide +kernel) (pa_cons (pv 5) pa_nil)) (pa_cons (pe_ix ix_tup (pv 3) pe_int (fun _ _ => rfl)) (pa_cons (pe_mkX T.xc.ox T.ini.1 T.ini.2 G_bad (hr.mono (by decide)) b_bad .nil pass0 rfl gB (pa_cons pe_str pa_nil)) pa_nil)))))))))
    (pss_cons (ps_if (pt_cmpR (op_neD hr.units) (pe_lc (own := [("_law_thing", 9)]) (g := gName 9) (by rfl) sc_law.nd (pi_list (pv 8)) (blkOk_by (own := [("_law_thing", 9)]) (N := N_law) (sc := defScope s_law) (by decide +kernel)) (fun _ _ _ _ _ => (pg_name (i := 9) sc_law.nd rfl (Or.inl rfl))) (fun _ _ _ _ _ => pts_one (pt_cmpR (eqOwnK (E := E0) P w K mg base mE.at_ mE.fn G_eq (hr.mono (by decide)) b_eq pass0) (pv 5) (pv 9) (nomark _))) (fun _ _ _ _ _ => (pv 9))) (pe_lstN pa_nil) (nomark _)) (pss_one (ps_ret pe_bl)) pss_nil)
    (pss_one (ps_if (pt_not (pt_val (pe_call G_refused (hr.mono (by decide)) rfl g_refused D.refused.kp b_refused .nil pass0 (pa_cons (pv 1) (pa_cons (pe_ix ix_tup (pv 3) pe_int (fun _ _ => rfl)) (pa_cons (pe_ix ix_tup (pv 3) pe_int (fun _ _ => rfl)) pa_nil)))))) (pss_one (ps_ret pe_bl)) pss_nil)))))))))))))
    (pss_one (ps_ret pe_bl)))), ?_⟩
    refine ⟨_, rfl, a, ns, rfl, hS, hn, fun p l H1 f1 P1 s1 => ?_⟩
    refine ⟨12, rfl, by decide, by decide, for_range (lo := 0) (n := 12) (fun i σ H' => (∃ v2 v3 v4 v5 v6 v7 v8 v9 : Option V, σ = [some (.ref a), some (.ref p), v2, v3, v4, v5, v6, v7, v8, v9]) ∧ PenL H' p l (40 * i)) ⟨⟨_, _, _, _, _, _, _, _, rfl⟩, P1⟩ ?_ ?_⟩
    · rintro n σ H2 hn ⟨⟨v2, v3, v4, v5, v6, v7, v8, v9, rfl⟩, P2⟩
      refine ⟨_, rfl, p, l, 40 * n, rfl, P2, by omega, fun i H3 hi P3 B3 => ?_⟩
      refine ⟨_, rfl, p, l, 40 * n + 4, rfl, P3, by omega, fun z H4 tz lz P4 B4 => ⟨sz1000 (by show 2 ≤ 1000; decide), fun t1 H5 f5 s5 g5 => ?_⟩⟩
      have T5 : SqT K H5 t1 [.int i, .str z] := SqT.of g5
      have P5 := P4.same s5
      have n1 : t1 ≠ p := (P4.new f5).1
      refine ⟨_, rfl, _, rfl, t1, _, _, .int i, rfl, rfl, T5, rfl, _, rfl, t1, _, _, .int i, rfl, rfl, T5, rfl, _, rfl, t1, _, _, .int i, rfl, rfl, T5, rfl, _, rfl, _, _, rfl, rfl, .inr ⟨_, rfl, _, _, rfl, rfl, ?_⟩⟩
      refine ⟨_, rfl, p, l, 40 * n + 13, rfl, P5, by omega, fun r H6 hr6 P6 B6 => ⟨sz1000 (by show 3 ≤ 1000; decide), fun q7 H7 f7 m7 s7 g7 => ?_⟩⟩
      refine ⟨p, l, q7, _, 40 * n + 17, rfl, SqL.of g7, (P6.new f7).1, (by show 0 < 3; decide), (by show 3 < 1000; decide), P6.same s7, by omega, fun v H8 hv P8 B8 => ?_⟩
      obtain ⟨j, rfl, hj⟩ : ∃ j : Int, v = .int j ∧ j.natAbs < 10 ^ 30 := by
        simp only [List.mem_cons, List.not_mem_nil, or_false] at hv
        rcases hv with rfl | rfl | rfl
        · exact ⟨i, rfl, hi⟩
        · refine ⟨_, rfl, ?_⟩
          cases hb : decide ((if i < 0 then -i else i) < 10) with
          | true =>
            have h10 := of_decide_eq_true hb
            rw [if_pos rfl]
            split at h10 <;> omega
          | false =>
            rw [if_neg (by decide)]
            omega
        · exact ⟨r, rfl, hr6⟩
      refine ⟨_, rfl, p, l, 40 * n + 18, rfl, P8, by omega, fun u H9 tu lu P9 B9 => ⟨sz1000 (by show 2 ≤ 1000; decide), fun t2 H10 f10 s10 g10 => ?_⟩⟩
      have P10 := P9.same s10
      have n2 : t2 ≠ p := (P9.new f10).1
      have BB : But p H5 H10 := ((B6.trans (But.of s7)).trans B8).trans (B9.trans (But.of s10))
      refine ⟨fun σ' H' => ∃ (t2 : Addr) (u : Str), σ' = [some (.ref a), some (.ref p), some (.int (0 + (n : Int))), some (.ref t1), some (.ref t2), v5, v6, v7, v8, v9] ∧ H' t1 = some (.tup [.int i, .str z]) ∧ SqT K H' t2 [.int j, .str u] ∧ t2 ≠ p ∧ textOk u = true ∧ PenL H' p l (40 * n + 28), ?_, ?_⟩
      · refine ⟨_, rfl, p, l, 4, 40 * n + 27, rfl, by decide, by decide, P10, by omega, fun r2 H11 _ _ P11 B11 => ⟨rfl, _, rfl, ?_⟩⟩
        have gt1 := (BB.trans B11) _ _ g5 n1
        have T1 : SqT K H11 t1 [.int i, .str z] := SqT.of gt1
        have T2 : SqT K H11 t2 [.int j, .str u] := but_seqT B11 n2 (SqT.of g10)
        refine ite2 (fun _ => ?_) (fun _ => ⟨t2, u, rfl, gt1, T2, n2, tu, P11⟩)
        refine ⟨_, rfl, t2, _, _, .int j, rfl, rfl, T2, rfl, _, rfl, t1, _, _, .str z, rfl, rfl, T1, rfl, sz1000 (by show 2 ≤ 1000; decide), fun t3 H12 f12 s12 g12 => ?_⟩
        exact ⟨t3, z, rfl, s12 _ _ gt1, SqT.of g12, (P11.new f12).1, tz, P11.same s12⟩
      rintro σ3 H13 ⟨t2, u, rfl, gt1, T2, n2, tu, P13⟩
      have T1 : SqT K H13 t1 [.int i, .str z] := SqT.of gt1
      have lz8 := text_len tz
      -- the items
      refine ⟨_, rfl, t1, _, _, .int i, rfl, rfl, T1, rfl, _, rfl, t1, _, _, .str z, rfl, rfl, T1, rfl, fun x1 dx h14 hd hne => item_to h14 hd hne hi tz fun H14 I14 s14 => ⟨rfl, ?_⟩⟩
      have T2b := sqT_same s14 T2
      refine ⟨_, rfl, t2, _, _, .str u, rfl, rfl, T2b, rfl, _, rfl, t2, _, _, .int j, rfl, rfl, T2b, rfl, rfl, rfl, fun x2 dx h15 hd hne => item_to h15 hd hne hj tu fun H15 I15 s15 => ⟨rfl, ?_⟩⟩
      refine ⟨sz1000 (by show 2 ≤ 1000; decide), fun q16 H16 f16 s16 g16 => ?_⟩
      refine ⟨q16, _, rfl, SqT.of g16, rfl, ?_⟩
      refine ⟨_, _, rfl, _, _, rfl, rfl, ?_⟩
      have S16 := (s14.trans s15).trans s16
      have One := (I14.same s15).same s16
      have Mate := I15.same s16
      have P16 := P13.same S16
      replace T1 := sqT_same S16 T1
      replace T2 := sqT_same S16 T2
      have n3 : x1 ≠ p := (P13.new h14).1
      obtain ⟨m1, m2, m3⟩ := str_mild3 hi tz
      obtain ⟨dx1, hx1⟩ := id One
      -- repr of the parts
      refine ⟨_, rfl, x1, _, dx1, _, _, rfl, hx1, T.cls, T.na (by decide +kernel), rfl, _, rfl, x1, _, dx1, _, _, rfl, hx1, T.cls, T.na (by decide +kernel), rfl, _, rfl, x1, dx1, _, rfl, hx1, ⟨x1, i, z, rfl, One, hi, Nat.le_trans lz8 (by decide), _, rfl, ?_⟩⟩
      refine ⟨sz1000 (by show 3 ≤ 1000; decide), fun t17 H17 f17 s17 g17 => ?_⟩
      refine ⟨t17, .tuple [.int i, .str z, .str (itemText i z)], rfl, .tup (SqT.of g17) (.cons (.int i) (.cons (.str z) (.cons (.str _) .nil))), m1, m2, m3, ?_⟩
      have T17 := sqT_same s17 T1
      refine ⟨_, rfl, t1, _, _, .int i, rfl, rfl, T17, rfl, _, rfl, t1, _, _, .str z, rfl, rfl, T17, rfl, _, rfl, t1, _, _, .int i, rfl, rfl, T17, rfl, _, rfl, log_lt hi, _, rfl, t1, _, _, .str z, rfl, rfl, T17, rfl, _, _, rfl, rfl, ?_, sz1000 (by show 3 ≤ 1000; decide), fun t18 H18 f18 s18 g18 => ?_⟩
      · exact Nat.le_trans (Nat.add_le_add (len_int hi) lz8) (by decide)
      refine ⟨t18, .tuple [.int i, .str z, .str (itemText i z)], rfl, .tup (SqT.of g18) (.cons (.int i) (.cons (.str z) (.cons (.str _) .nil))), m1, m2, m3, rfl, _, rfl, ?_⟩
      rw [decide_eq_true rfl]
      refine iteF ?_
      have S18 := s17.trans s18
      -- the pairs
      refine ⟨_, rfl, _, rfl, _, rfl, _, rfl, x1, x2, t1, t2, i, j, z, u, rfl, One.same S18, Mate.same S18, sqT_same S18 T1, sqT_same S18 T2, tz, tu, fun H19 s19 => ⟨true, rfl, ?_⟩⟩
      have S19 := S18.trans s19
      refine ⟨_, rfl, _, rfl, _, rfl, _, rfl, x1, x1, t1, t1, i, i, z, z, rfl, One.same S19, One.same S19, sqT_same S19 T1, sqT_same S19 T1, tz, tz, fun H20 s20 => ⟨true, rfl, ?_⟩⟩
      have S20 := S19.trans s20
      have T20 := sqT_same S20 T1
      -- the bare item
      refine ⟨_, rfl, t1, _, _, .int i, rfl, rfl, T20, rfl, fun x3 dx h21 hd hne => item_to h21 hd hne hi (by decide +kernel) fun H21 I21 s21 => ⟨rfl, ?_⟩⟩
      have S21 := S20.trans s21
      obtain ⟨dx3, hx3⟩ := id I21
      have One21 := One.same S21
      have T21 := sqT_same S21 T1
      have OneO : Oth K H21 (.ref x1) (some i) := .item One21
      obtain ⟨ty1, k1, k2, k3⟩ := OneO.tyA T
      refine ⟨_, rfl, x3, _, dx3, _, _, rfl, hx3, T.cls, T.na (by decide +kernel), rfl, rfl, _, rfl, ?_⟩
      rw [decide_eq_true rfl]
      refine iteF ?_
      refine ⟨_, rfl, x3, dx3, _, rfl, hx3, ⟨x3, i, "", rfl, I21, hi, by decide, _, rfl, ?_⟩⟩
      refine ⟨_, rfl, t1, _, _, .int i, rfl, rfl, T21, rfl, _, rfl, log_lt hi, rfl, _, rfl, ?_⟩
      rw [show itemText i "" = Str.ofString (toString i) from Str.append_empty _, decide_eq_true rfl]
      refine iteF ?_
      refine ⟨_, rfl, _, rfl, x3, dx3, _, ty1, rfl, hx3, k1, k2, ⟨x3, i, "", .ref x1, some i, rfl, I21, OneO, _, rfl, ?_⟩⟩
      rw [show eqTo i (some i) = true from decide_eq_true rfl]
      refine iteF ?_
      -- the others
      refine ⟨_, rfl, t1, _, _, .int i, rfl, rfl, T21, rfl, _, rfl, _, rfl, t1, _, _, .int i, rfl, rfl, T21, rfl, _, rfl, t1, _, _, .str z, rfl, rfl, T21, rfl, sz1000 (by show 2 ≤ 1000; decide), fun q22 H22 f22 m22 s22 g22 => ?_⟩
      have T22 := sqT_same s22 T21
      have One22 := One21.same s22
      obtain ⟨dx4, hx4⟩ := id One22
      refine ⟨_, rfl, x1, dx4, _, rfl, hx4, ⟨x1, i, z, rfl, One22, hi, Nat.le_trans lz8 (by decide), _, rfl, ?_⟩⟩
      refine ⟨_, rfl, t1, _, _, .str z, rfl, rfl, T22, rfl, (by show 1 ≤ 1000; decide), fun e23 he => bad_to he fun d23 H23 X23 Y23 s23 => ⟨rfl, ?_⟩⟩
      refine ⟨sz1000 (by show 7 ≤ 1000; decide), fun q24 H24 f24 m24 s24 g24 => ?_⟩
      have S24 := s22.trans (s23.trans s24)
      have each : ∀ (k : Nat) (x : V), ([.int i, .ref t1, .ref q22, .non, .str (itemText i z), .str z, .ref e23] : List V)[k]? = some x → Oth K H24 x none := fun k x hk => match k, hk with
        | 0, hk => by
          cases hk
          exact .plain (.int i)
        | 1, hk => by
          cases hk
          exact .plain (.tup (S24 _ _ (S21 _ _ (S16 _ _ gt1))))
        | 2, hk => by
          cases hk
          exact .plain (.lst (s24 _ _ (s23 _ _ g22)))
        | 3, hk => by
          cases hk
          exact .plain .non
        | 4, hk => by
          cases hk
          exact .plain (.str _)
        | 5, hk => by
          cases hk
          exact .plain (.str _)
        | 6, hk => by
          cases hk
          exact .err (X23.same s24) (Y23.same s24)
        | k + 7, hk => by cases hk
      have One24 := One21.same S24
      obtain ⟨dx5, hx5⟩ := id One24
      have nq : ∀ D, H24 D = none → D ≠ q24 := fun D hD => (ne_of_none g24 hD).symm
      refine ⟨_, rfl, q24, rfl, ⟨_, SqL.of g24⟩, fun D hD => lc_list (K := K) (a := q24) (xs := [.int i, .ref t1, .ref q22, .non, .str (itemText i z), .str z, .ref e23]) (fun _ H' => Same H24 H' ∧ H' D = some (.lst [])) ⟨same_new hD, upd_same⟩ (fun _ _ _ q => SqL.of (q.1 _ _ g24)) ?_ ?_⟩
      · rintro m x H25 hm ⟨s25, gD⟩
        have ox := (each m x hm).same s25
        obtain ⟨ty, j1, j2, j3⟩ := ox.tyA T
        have One25 := One24.same s25
        obtain ⟨dx6, hx6⟩ := id One25
        refine ⟨rfl, _, rfl, _, rfl, x1, dx6, _, ty, rfl, hx6, j1, j2, ⟨x1, i, z, x, none, rfl, One25, ox, _, rfl, ?_⟩⟩
        exact ⟨s25, gD⟩
      rintro H26 ⟨s26, gD⟩
      refine ⟨sz1000 (Nat.zero_le _), fun q27 H27 f27 m27 s27 g27 => ?_⟩
      refine ⟨.list [], .list [], .lst (SqL.of (s27 _ _ gD)) .nil, .lst (SqL.of g27) .nil, by decide, by decide, _, rfl, ?_⟩
      refine ifSame (by decide) ?_
      have SS := ((S16.trans S21).trans S24).trans (s26.trans s27)
      have T27 : SqT K H27 t1 [.int i, .str z] := SqT.of (SS _ _ gt1)
      have P27 := P13.same SS
      -- what is refused
      refine ⟨_, rfl, _, rfl, t1, _, _, .int i, rfl, rfl, T27, rfl, _, rfl, t1, _, _, .str z, rfl, rfl, T27, rfl, p, l, i, z, 40 * n + 28, rfl, P27, by omega, hi, tz, fun H28 P28 B28 => ⟨true, rfl, ?_⟩⟩
      exact ⟨⟨_, _, _, _, _, _, _, _, rfl⟩, P28.mono (by omega)⟩
    · rintro σ H2 ⟨⟨v2, v3, v4, v5, v6, v7, v8, v9, rfl⟩, P2⟩
      exact k H2
end
end K02
namespace K02
open PySem PySem.Spec PyProof.Rows L2 He Tw
abbrev R : PySem.W.OpenRow := PySem.W.OpenLaw.row PySem.Challenge.rw_twoheads_k02_items
abbrev hk : PySem.W.Hook := hookY 5 fs fn
def ob (s : PySem.W.SharedT) : AlD := obsYG 5 fs fn (HandSHeadRun.getT s)
theorem ob_eq (s : PySem.W.SharedT) : ob s = hk.obs s.abs := obsYG_eq (HandSHeadRun.getT_eq s)
def others : List Str := clss ++ fnames.dropLast ++ (["BEYOND", "LONGEST", "LETTERS"] : List Str)
theorem run (w : World) : HandSHeadRun.RunEq R (PySem.W.view R.prog [22]) hk ob 6000 others w := by
  intro os
  kernel_rfl
theorem facts {P : Program} {w : World} {K : Fg} {h : Heap} {mg : Str → Option Value} (X : K.In h) (G : h.Ns mainGlobals mg) (c : SaysY fs fn K) :
    ∃ fd : FuncData, (∀ (s : Shared) (v : Value), BindsTo s fd ⟨[v], []⟩ [("_law_script", v)]) ∧ ∀ base : Heap, K.In base → base.Ns mainGlobals mg → FnG P w K mg base CX0 7 (ga K "law") fd ["_law_script"] (spLaw K) := by
  obtain ⟨u0, U0⟩ := c.def_ 0 (d := dM "BadItem" 3 0 "__init__" []) rfl
  obtain ⟨u1, U1⟩ := c.def_ 1 (d := dM "Item" 12 0 "__init__" [.str ""]) rfl
  obtain ⟨u2, U2⟩ := c.def_ 2 (d := dM "Item" 12 1 "__eq__" []) rfl
  obtain ⟨u3, U3⟩ := c.def_ 3 (d := dM "Item" 12 2 "__str__" []) rfl
  obtain ⟨u4, U4⟩ := c.def_ 4 (d := dM "Item" 12 3 "before" []) rfl
  obtain ⟨u5, U5⟩ := c.def_ 5 (d := dM "Item" 12 4 "same" []) rfl
  obtain ⟨u6, U6⟩ := c.def_ 6 (d := dF "is_lettered" 7) rfl
  obtain ⟨u7, U7⟩ := c.def_ 7 (d := dF "is_number" 10) rfl
  obtain ⟨u8, U8⟩ := c.def_ 8 (d := dF "is_rank" 11) rfl
  obtain ⟨u9, U9⟩ := c.def_ 9 (d := dF "_law_pen" 14) rfl
  obtain ⟨u10, U10⟩ := c.def_ 10 (d := dF "_law_draw" 15) rfl
  obtain ⟨u11, U11⟩ := c.def_ 11 (d := dF "_law_pick" 16) rfl
  obtain ⟨u12, U12⟩ := c.def_ 12 (d := dF "_law_name" 17) rfl
  obtain ⟨u13, U13⟩ := c.def_ 13 (d := dF "_law_rank" 18) rfl
  obtain ⟨u14, U14⟩ := c.def_ 14 (d := dF "_law_heard" 19) rfl
  obtain ⟨u15, U15⟩ := c.def_ 15 (d := dF "_law_refused" 20) rfl
  obtain ⟨u16, U16⟩ := c.def_ 16 (d := dF "_law_pair_right" 21) rfl
  obtain ⟨u17, U17⟩ := c.def_ 17 (d := dF "law" 22) rfl
  have T : Txt K mg := ⟨c, fun x hx => He.glo_ok X G hx, fun x hx => He.free_ok X G hx, fun x i hx => He.int_ok X G hx, fun x z hx => He.str_ok X G hx⟩
  obtain ⟨fd, hfd⟩ : ∃ fd : Str → FuncData, fd "bad" = u0 ∧ fd "item" = u1 ∧ fd "__eq__" = u2 ∧ fd "__str__" = u3 ∧ fd "before" = u4 ∧ fd "same" = u5 ∧ fd "is_lettered" = u6 ∧ fd "is_number" = u7 ∧ fd "is_rank" = u8 ∧ fd "_law_pen" = u9 ∧ fd "_law_draw" = u10 ∧ fd "_law_pick" = u11 ∧ fd "_law_name" = u12 ∧ fd "_law_rank" = u13 ∧ fd "_law_heard" = u14 ∧ fd "_law_refused" = u15 ∧ fd "_law_pair_right" = u16 ∧ fd "law" = u17 := ⟨fun x => if x = "bad" then u0 else if x = "item" then u1 else if x = "__eq__" then u2 else if x = "__str__" then u3 else if x = "before" then u4 else if x = "same" then u5 else if x = "is_lettered" then u6 else if x = "is_number" then u7 else if x = "is_rank" then u8 else if x = "_law_pen" then u9 else if x = "_law_draw" then u10 else if x = "_law_pick" then u11 else if x = "_law_name" then u12 else if x = "_law_rank" then u13 else if x = "_law_heard" then u14 else if x = "_law_refused" then u15 else if x = "_law_pair_right" then u16 else if x = "law" then u17 else u0, (by dsimp only; rw [if_pos rfl]), (by dsimp only; rw [if_neg (by decide)]; rw [if_pos rfl]), (by dsimp only; rw [if_neg (by decide)]; rw [if_neg (by decide)]; rw [if_pos rfl]), (by dsimp only; rw [if_neg (by decide)]; rw [if_neg (by decide)]; rw [if_neg (by decide)]; rw [if_pos rfl]), (by dsimp only; rw [if_neg (by decide)]; rw [if_neg (by decide)]; rw [if_neg (by decide)]; rw [if_neg (by decide)]; rw [if_pos rfl]), (by dsimp only; rw [if_neg (by decide)]; rw [if_neg (by decide)]; rw [if_neg (by decide)]; rw [if_neg (by decide)]; rw [if_neg (by decide)]; rw [if_pos rfl]), (by dsimp only; rw [if_neg (by decide)]; rw [if_neg (by decide)]; rw [if_neg (by decide)]; rw [if_neg (by decide)]; rw [if_neg (by decide)]; rw [if_neg (by decide)]; rw [if_pos rfl]), (by dsimp only; rw [if_neg (by decide)]; rw [if_neg (by decide)]; rw [if_neg (by decide)]; rw [if_neg (by decide)]; rw [if_neg (by decide)]; rw [if_neg (by decide)]; rw [if_neg (by decide)]; rw [if_pos rfl]), (by dsimp only; rw [if_neg (by decide)]; rw [if_neg (by decide)]; rw [if_neg (by decide)]; rw [if_neg (by decide)]; rw [if_neg (by decide)]; rw [if_neg (by decide)]; rw [if_neg (by decide)]; rw [if_neg (by decide)]; rw [if_pos rfl]), (by dsimp only; rw [if_neg (by decide)]; rw [if_neg (by decide)]; rw [if_neg (by decide)]; rw [if_neg (by decide)]; rw [if_neg (by decide)]; rw [if_neg (by decide)]; rw [if_neg (by decide)]; rw [if_neg (by decide)]; rw [if_neg (by decide)]; rw [if_pos rfl]), (by dsimp only; rw [if_neg (by decide)]; rw [if_neg (by decide)]; rw [if_neg (by decide)]; rw [if_neg (by decide)]; rw [if_neg (by decide)]; rw [if_neg (by decide)]; rw [if_neg (by decide)]; rw [if_neg (by decide)]; rw [if_neg (by decide)]; rw [if_neg (by decide)]; rw [if_pos rfl]), (by dsimp only; rw [if_neg (by decide)]; rw [if_neg (by decide)]; rw [if_neg (by decide)]; rw [if_neg (by decide)]; rw [if_neg (by decide)]; rw [if_neg (by decide)]; rw [if_neg (by decide)]; rw [if_neg (by decide)]; rw [if_neg (by decide)]; rw [if_neg (by decide)]; rw [if_neg (by decide)]; rw [if_pos rfl]), (by dsimp only; rw [if_neg (by decide)]; rw [if_neg (by decide)]; rw [if_neg (by decide)]; rw [if_neg (by decide)]; rw [if_neg (by decide)]; rw [if_neg (by decide)]; rw [if_neg (by decide)]; rw [if_neg (by decide)]; rw [if_neg (by decide)]; rw [if_neg (by decide)]; rw [if_neg (by decide)]; rw [if_neg (by decide)]; rw [if_pos rfl]), (by dsimp only; rw [if_neg (by decide)]; rw [if_neg (by decide)]; rw [if_neg (by decide)]; rw [if_neg (by decide)]; rw [if_neg (by decide)]; rw [if_neg (by decide)]; rw [if_neg (by decide)]; rw [if_neg (by decide)]; rw [if_neg (by decide)]; rw [if_neg (by decide)]; rw [if_neg (by decide)]; rw [if_neg (by decide)]; rw [if_neg (by decide)]; rw [if_pos rfl]), (by dsimp only; rw [if_neg (by decide)]; rw [if_neg (by decide)]; rw [if_neg (by decide)]; rw [if_neg (by decide)]; rw [if_neg (by decide)]; rw [if_neg (by decide)]; rw [if_neg (by decide)]; rw [if_neg (by decide)]; rw [if_neg (by decide)]; rw [if_neg (by decide)]; rw [if_neg (by decide)]; rw [if_neg (by decide)]; rw [if_neg (by decide)]; rw [if_neg (by decide)]; rw [if_pos rfl]), (by dsimp only; rw [if_neg (by decide)]; rw [if_neg (by decide)]; rw [if_neg (by decide)]; rw [if_neg (by decide)]; rw [if_neg (by decide)]; rw [if_neg (by decide)]; rw [if_neg (by decide)]; rw [if_neg (by decide)]; rw [if_neg (by decide)]; rw [if_neg (by decide)]; rw [if_neg (by decide)]; rw [if_neg (by decide)]; rw [if_neg (by decide)]; rw [if_neg (by decide)]; rw [if_neg (by decide)]; rw [if_pos rfl]), (by dsimp only; rw [if_neg (by decide)]; rw [if_neg (by decide)]; rw [if_neg (by decide)]; rw [if_neg (by decide)]; rw [if_neg (by decide)]; rw [if_neg (by decide)]; rw [if_neg (by decide)]; rw [if_neg (by decide)]; rw [if_neg (by decide)]; rw [if_neg (by decide)]; rw [if_neg (by decide)]; rw [if_neg (by decide)]; rw [if_neg (by decide)]; rw [if_neg (by decide)]; rw [if_neg (by decide)]; rw [if_neg (by decide)]; rw [if_pos rfl]), (by dsimp only; rw [if_neg (by decide)]; rw [if_neg (by decide)]; rw [if_neg (by decide)]; rw [if_neg (by decide)]; rw [if_neg (by decide)]; rw [if_neg (by decide)]; rw [if_neg (by decide)]; rw [if_neg (by decide)]; rw [if_neg (by decide)]; rw [if_neg (by decide)]; rw [if_neg (by decide)]; rw [if_neg (by decide)]; rw [if_neg (by decide)]; rw [if_neg (by decide)]; rw [if_neg (by decide)]; rw [if_neg (by decide)]; rw [if_neg (by decide)]; rw [if_pos rfl])⟩
  obtain ⟨j0, j1, j2, j3, j4, j5, j6, j7, j8, j9, j10, j11, j12, j13, j14, j15, j16, j17⟩ := hfd
  have M : Meths K (fd "__eq__") (fd "__str__") (fd "before") (fd "same") := ⟨by rw [j2]; exact U2, by rw [j3]; exact U3, by rw [j4]; exact U4, by rw [j5]; exact U5⟩
  have D : Defs K fd := ⟨by rw [j9]; exact U9, by rw [j10]; exact U10, by rw [j11]; exact U11, by rw [j12]; exact U12, by rw [j13]; exact U13, by rw [j14]; exact U14, by rw [j15]; exact U15, by rw [j16]; exact U16, by rw [j17]; exact U17, by rw [j7]; exact U7, by rw [j8]; exact U8, by rw [j6]; exact U6, by rw [j0]; exact U0, by rw [j1]; exact U1, M⟩
  have b : ∀ (s : Shared) (us : List Value), us.length = (["_law_script"] : List Str).length → BindsTo s (fd "law") ⟨us, []⟩ ((["_law_script"] : List Str).zip us) := FunD.bindsA (ps := ["_law_script"]) D.law fun _ _ _ _ _ _ us hl => match us, hl with | [_], _ => rfl
  exact ⟨fd "law", fun s v => b s [v] rfl, fun base _ _ => ok_law D T⟩
end K02
open PySem PySem.W PySem.Calls PyProof.Rows
set_option maxHeartbeats 0 in
theorem PySem.Challenge.cw_twoheads_k02_items_holds : PySem.Challenge.rw_twoheads_k02_items.Holds := by
  w_on; o_law
  refine HandSHeadRun.head_any (r := OpenLaw.row PySem.Challenge.rw_twoheads_k02_items) (q := view (OpenLaw.row PySem.Challenge.rw_twoheads_k02_items).prog [22]) (H := K02.hk) (ob := K02.ob) (M := 6000) (loose := K02.others) (d := HandSHeadRun.topDef (OpenLaw.row PySem.Challenge.rw_twoheads_k02_items).prog 22) (kwd := []) K02.ob_eq
    (by kernel_rfl) (fun s => by kernel_rfl) K02.run (by kernel_rfl) (by kernel_rfl) (by kernel_rfl) (by rfl) (by first | assumption | decide +kernel) (by decide +kernel) ⟨rfl, rfl, rfl, rfl, rfl, by decide +kernel⟩ ?hw ?hc
  case hw => w_witness2
  case hc =>
    refine Tw.walk_ofEG (l := PySem.Challenge.rw_twoheads_k02_items) (n := 63) (k := 7) (x := "_law_script") (CX := L2.CX0) rfl (by decide) (by kernel_rfl) ⟨rfl, by decide, by decide⟩ ?F (fun _ _ _ _ z => z)
    intro w mg fa h Y G hmg0
    obtain ⟨K, KX, c⟩ := Y
    have hmg : mg ("law" : PySem.Str) = some (.ref fa) := by
      have e : (HandSHeadRun.topDef (OpenLaw.row PySem.Challenge.rw_twoheads_k02_items).prog 22).name = ("law" : PySem.Str) := by kernel_rfl
      rw [← e]
      exact hmg0
    obtain ⟨fd, hb, hF⟩ := K02.facts (P := (PySem.Challenge.rw_twoheads_k02_items).prog) (w := w) KX G c
    have T0 : mg ("law" : PySem.Str) = some (.ref (He.ga K "law")) := He.glo_ok KX G (Tw.of_all (f := fun x => (He.Fa.glo x).ok K) (c.fact 1) (by decide +kernel))
    have ef : fa = He.ga K "law" := by
      rw [hmg] at T0
      exact Value.ref.inj (Option.some.inj T0)
    subst ef
    exact ⟨K, fd, K02.spLaw K, KX, hb, fun H a ns hl _ hS => ⟨a, ns, rfl, hS, hl, fun _ => rfl⟩, hF⟩
#print axioms PySem.Challenge.cw_twoheads_k02_items_holds
