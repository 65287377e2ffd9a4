import PyProof.Rows.All
import Wide.All
import OpenK.AllK
import Wide.FinOn
import HandS.Defaults
import HandS.Head0
import HandS.Head1
import HandS.Head2
import HandS.HeadEnd
import HandS.HeadHook1
import HandS.HeadHook2
import PyProof.StrLawsRepr
import PyProof.EqAt
import PyProof.EqKinds
import PyProof.TupleCall
import PyProof.ReprRoads
import KE.KExcIs
import HandS.ForMost
import HandS.Exc
import HandS.ExcInit
import HandS.ExcValue
import HandS.IsInst
import HandS.WordsExc
import HandS.Style
import PySem.Challenge.RW_twoheads_k01_errors
set_option Elab.async false
set_option linter.all false
set_option maxRecDepth 100000
set_option maxHeartbeats 8000000
/-! Tw, part 1: calls where no repr runs around; errors as values; errors kept behind their except suite. -/
namespace Tw
open PySem PySem.Spec PyProof.Rows L2

/-! ### no repr is running around -/
abbrev NoG (A : Around) : Prop := A.guards = some []
structure FnG (P : Program) (w : World) (K : PySem.W.Frag) (mg : Str → Option Value) (base : Heap) (CX : CXT) (k : Nat) (f : Addr) (fd : FuncData) (ps : List Str) (sp : Sp) : Prop where
  len : ∀ vs H Q E, sp vs H Q E → vs.length = ps.length
  run : ∀ (A : Around) (outer : List Env) (s : Shared) (H : Hp) (args : Args) (us : List Value) (vs : List V) (Q : VK) (E : XK), Room k A → NoG A → Env0 P w K mg base A outer s H →
    BindsTo s fd args (ps.zip us) → Vals vs us → sp vs H Q E → codeAny (model P w) A (.call (.ref f) args) (CR CX outer P w H s Q E) s
section
variable {P : Program} {w : World} {K : PySem.W.Frag} {mg : Str → Option Value} {base : Heap} {CX : CXT}
theorem FnG.of {k : Nat} {f : Addr} {fd : FuncData} {ps : List Str} {sp : Sp} (F : FnOk P w K mg base CX k f fd ps sp) : FnG P w K mg base CX k f fd ps sp :=
  ⟨F.len, fun A outer s H args us vs Q E hr _ => F.run A outer s H args us vs Q E hr⟩
theorem FnG.mono {j k : Nat} {f : Addr} {fd : FuncData} {ps : List Str} {sp : Sp} (F : FnG P w K mg base CX j f fd ps sp) (h : j ≤ k) : FnG P w K mg base CX k f fd ps sp :=
  ⟨F.len, fun A outer s H args us vs Q E hr => F.run A outer s H args us vs Q E (hr.mono h)⟩
/-- a def by its body, where no repr runs around -/
theorem fng {k : Nat} {f : Addr} {name qual : Str} {params : Arguments} {body : List Stmt} {scope : Scope} {dV kV doc pm cdv ct oc : Value} {an od : Option Addr} {osl : Array (Option Value)} {N ps : List Str} {sp : Sp}
    (lk : K.lookup f = some ⟨oc, od, .func (PySem.W.fnOf name qual params body scope dV kV doc pm an cdv ct), osl⟩) (hcd : PySem.W.codeIn K cdv qual = true) (S : FnScope N ps scope) (len : ∀ vs H Q E, sp vs H Q E → vs.length = ps.length)
    (hbody : ∀ (A : Around) (outer : List Env) (s : Shared) (H : Hp) (vs : List V) (Q : VK) (E : XK), Room k (A.deeper (envOfC qual scope s.heap.objs.size f cdv)) → NoG (A.deeper (envOfC qual scope s.heap.objs.size f cdv)) → sp vs H Q E →
      ∃ t, PSs (cxOf CX P w K mg base N qual scope f cdv A outer s H E) body t ∧ t { nx := fun _ H' => Q .non H', rt := Q } (start N vs) H) :
    FnG P w K mg base CX (k + 1) f (PySem.W.fnOf name qual params body scope dV kV doc pm an cdv ct) ps sp := by
  refine ⟨len, fun A outer s H args us vs Q E hr hg e0 hb r hsp => ?_⟩
  have at0 : ∀ b o, base.get? b = some o → s.heap.get? b = some o := fun b o e => (e0.bs b o e).1
  have hkind : ∀ y ∈ ps.zip us, scope.names.lookup y.1 = some .local ∨ (scope.names.lookup y.1 = some .cell ∧ ((cellsFrom (s.heap.objs.size + 1) scope.names []).lookup y.1).isSome = true) := by
    rintro ⟨n, v⟩ hy
    rcases S.par n (List.of_mem_zip hy).1 with q | q
    · exact .inl q
    · exact .inr ⟨q, PySem.W.cellsFrom_some _ _ _ (.inl q)⟩
  refine codeAny_call_function hr.depth ((e0.mod.kin.keeps at0) _ _ lk) rfl S.co S.gen rfl (PySem.W.codeRec_of (e0.mod.kin.keeps at0) hcd) (hb _ _ _ _ ?_)
  refine wpAny_newFunctionEnv_cells S.kind hkind fun env he s1 x => ?_
  subst he
  refine ⟨(e0.mod.nolimit.keeps at0).keeps x.toInCall.keep, codeAny_func ?_⟩
  obtain ⟨t, ht, hq⟩ := hbody A outer s H vs Q E (hr.deeper _) hg hsp
  refine wpAny_mono (ht.run [] s1 (start N vs) H _ (inv_start S hr.hd e0 (len _ _ _ _ hsp) r x) hq) (fun fl s' hs => ?_) fun e s' hs => hs
  cases fl with
  | ret u =>
    obtain ⟨v, σ', H', J, rv, q⟩ := hs
    exact ⟨v, H', J.os, J.bare, J.base, J.hok, rv, q⟩
  | next =>
    obtain ⟨σ', H', J, q⟩ := hs
    exact ⟨.non, H', J.os, J.bare, J.base, J.hok, rfl, q⟩
  | brk => exact hs.elim fun _ z => z.elim fun _ z => z.2.elim
  | cont => exact hs.elim fun _ z => z.elim fun _ z => z.2.elim
/-- the same for a def as the text has it -/
theorem _root_.L2.Fun.okG {x qual : Str} {st : Stmt} {f : Addr} {fd : FuncData} {N ps : List Str} {k : Nat} {sp : Sp} (F : Fun K x qual st f fd) (S : FnScope N ps (defScope st)) (len : ∀ vs H Q E, sp vs H Q E → vs.length = ps.length)
    (hbody : ∀ (cdv : Value) (A : Around) (outer : List Env) (s : Shared) (H : Hp) (vs : List V) (Q : VK) (E : XK), Room k (A.deeper (envOfC qual (defScope st) s.heap.objs.size f cdv)) → NoG (A.deeper (envOfC qual (defScope st) s.heap.objs.size f cdv)) → sp vs H Q E →
      ∃ t, PSs (cxOf CX0 P w K mg base N qual (defScope st) f cdv A outer s H E).nox (defBody st) t ∧ t { nx := fun _ H' => Q .non H', rt := Q } (start N vs) H) : FnG P w K mg base CX0 (k + 1) f fd ps sp := by
  obtain ⟨oc, od, kV, doc, pm, an, cdv, ct, osl, rfl, lk, hcd⟩ := F.ex
  refine fng lk hcd S len fun A outer s H vs Q E hr hg hsp => ?_
  obtain ⟨t, h, q⟩ := hbody cdv A outer s H vs Q E hr hg hsp
  exact ⟨t, h.nox, q⟩
end
section
variable {X : Cx} {CX : CXT} {k : Nat} {f : Addr} {fd : FuncData} {ps : List Str} {sp : Sp} {dvs : List V} {ds : List Value} {E : XK} {x : Str} {p pos : Pos} {e : Expr} {es : List Expr} {t : TA}
theorem run_fnG {pins : List (Addr × Obj)} {σ : L2.St} {H : Hp} {s : Shared} {Q : VK} {us : List Value} {vs : List V} (F : FnG X.prog X.w X.K X.mg X.base CX k f fd ps sp) (hr : Room k X.A) (hG : NoG X.A) (hb : Binds X.K fd ps ds) (hd : Vals dvs ds) (hx : Passes CX X E)
    (I : Inv X pins σ H s) (r : Vals vs us) (h : sp (vs ++ dvs) H Q E) : wpAny (model X.prog X.w) X.A (call (.ref f) us) (EP X pins σ Q) X.xe s := by
  have r2 : Vals (vs ++ dvs) (us ++ ds) := r.append hd
  have hl : (us ++ ds).length = ps.length := r2.length.symm.trans (F.len _ _ _ _ h)
  refine wpAny_call (codeAny_mono (F.run X.A X.stack s H ⟨us, []⟩ (us ++ ds) (vs ++ dvs) Q E hr hG I.env0 (hb s us I.kIn hl) r2 h) fun r s' hq => ?_)
  match r, hq with
  | .error e, hq => exact hx pins σ H s e s' I hq
  | .ok (.ret u), hq => exact I.after hq
/-- f(e, ..) -/
theorem pe_callG (F : FnG X.prog X.w X.K X.mg X.base CX k f fd ps sp) (hr : Room k X.A) (hG : NoG X.A) (hg : Gl X x) (hm : X.mg x = some (.ref f)) (hk : PySem.W.keepIn X.K (.ref f) = true) (hb : Binds X.K fd ps ds) (hd : Vals dvs ds) (hx : Passes CX X E)
    (ha : PA X (e :: es) t) (hdb : (x == ("__debug__" : Str)) = false := by decide) (he : starEach (e :: es) X.env = (false, eval e X.env) :: starEach es X.env := by rfl) (hpl : (backTo pos (starEach es X.env)).any (·.1) = false := by rfl) :
    PE X (.Call (.Name x p) (e :: es) [] pos) (tCall sp dvs E t) :=
  ⟨fun pins s σ H Q I h => wpAny_Call_Name_kw (ld_glob I hg hm (PySem.W.callWith_K (h₀ := X.base) I.ok.mod.kin hk (thn (ha.run pos pins s σ H _ I h) fun us s1 ⟨vs, H1, I1, r, q⟩ => ⟨I1.kIn, run_fnG F hr hG hb hd hx I1 r q⟩) he hpl) hdb)⟩
end
end Tw

/-! ### the law's end -/
namespace Tw
open PySem PySem.Spec PyProof.Rows L2
theorem law_endG {P : Program} {w : World} {K : PySem.W.Frag} {mg mb : Str → Option Value} {CX : CXT} {k : Nat} {fa a : Addr} {fd : FuncData} {x : Str} {sp : Sp} {s : Shared} {vs : List Value} {ns : List Int}
    (KX : K.In s.heap) (hns : s.heap.Ns mainGlobals mg) (hb : s.heap.Ns builtinsNs mb) (hbb : ∀ x : Str, x ≠ "__name__" → mb x = bootBuiltins x) (hlim : s.heap.NoLimit) (hg : s.gens = #[])
    (ha : s.heap.get? a = some { cls := .type "list", data := .seq vs.toArray }) (hi : IntsAre vs ns) (hl : ns.length ≤ sizeLine) (hr : Room k callerA)
    (F : ∀ base : Heap, K.In base → base.Ns mainGlobals mg → FnG P w K mg base CX k fa fd [x] sp) (hbind : ∀ (s : Shared) (u : Value), BindsTo s fd ⟨[u], []⟩ [(x, u)])
    (hsp : ∀ H : Hp, Only H → SqL K H a (ns.map V.int) → sp [.ref a] H (fun v _ => v = .bl true) fun _ _ _ => False)
    (hCX : ∀ H e s', CX [] H s (fun _ _ _ => False) e s' → False) :
    codeAny (model P w) callerA (.call (.ref fa) ⟨[.ref a], []⟩) (fun r s' => r = .ok (.ret (.bool true)) ∧ OldK s.heap s'.heap ∧ s'.os = s.os ∧ AllBare s'.gens) s := by
  have rv := vals_ints hi
  have lv := hi.length
  have go : ∀ H : Hp, Only H → SqL K H a (ns.map V.int) → HOk P w H s.heap → (∀ b, H b ≠ none → b = a) → (H a ≠ none → K.lookup a = none) →
      codeAny (model P w) callerA (.call (.ref fa) ⟨[.ref a], []⟩) (fun r s' => r = .ok (.ret (.bool true)) ∧ OldK s.heap s'.heap ∧ s'.os = s.os ∧ AllBare s'.gens) s := by
    intro H hO hS hok hA hK
    have none_of : ∀ {b : Addr}, b ≠ a → H b = none := fun {b} hb => by
      cases q : H b with
      | none => rfl
      | some u => exact absurd (hA b (by rw [q]; exact Option.some_ne_none u)) hb
    have noD : ∀ {b : Addr} {o : Obj} {es : Array DictEntry} {ep : Nat}, s.heap.get? b = some o → o.data = .dict es ep → H b = none := fun {b o es ep} e d => none_of fun z => by
      rw [z, ha] at e
      have e2 := Option.some.inj e
      rw [← e2] at d
      cases d
    have nsK : ∀ {b : Addr} {m : Str → Option Value}, s.heap.Ns b m → (hidT s.heap H).Ns b m := fun {b m} ⟨o, es, ep, e, d, r⟩ => ⟨o, es, ep, hidT_get e (noD e d), d, r⟩
    have hKb : K.In (hidT s.heap H) := fun b o e => hidT_get (KX b o e) (by
      by_cases hb : b = a
      · cases q : H b with
        | none => rfl
        | some u =>
          subst hb
          have z := hK (by rw [q]; exact Option.some_ne_none u)
          rw [z] at e
          cases e
      · exact none_of hb)
    have hM : Mod K mg (hidT s.heap H) := ⟨hKb, nsK hns, ⟨mb, nsK hb, hbb⟩, hlim.elim fun mc z => ⟨mc, nsK z.1, z.2⟩⟩
    have e0 : Env0 P w K mg (hidT s.heap H) callerA [] s H := ⟨rfl, hM, fun b o e => of_hidT e, Nat.le_of_eq (hidT_size _ _), trivial, (fun b hb => nomatch hb), hok, .of_eq hg⟩
    refine codeAny_mono ((F _ hKb (nsK hns)).run callerA [] s H ⟨[.ref a], []⟩ [.ref a] [.ref a] _ _ hr rfl e0 (hbind s (.ref a)) (.cons rfl .nil) (hsp H hO hS)) fun r s' h => ?_
    match r, h with
    | .error e, h => exact (hCX H e s' h).elim
    | .ok (.ret u), h =>
      obtain ⟨v, H', os, bare, un, hok', rv', q⟩ := h
      have q' : v = .bl true := q
      subst q'
      obtain rfl : u = Value.bool true := rv'
      refine ⟨rfl, OldK.of_keep fun b o e => ?_, os, bare⟩
      cases q : H b with
      | none => exact un.keep b o e q (fun z => nomatch z) (fun z => nomatch z)
      | some u =>
        rcases hO b with z | ⟨ob, xs, z⟩
        · rw [q] at z
          cases z
        · obtain ⟨e1, _⟩ := hok b _ z
          obtain ⟨e2, _⟩ := hok' b _ (un.frzs b ob _ z)
          rw [e] at e1
          cases e1
          exact e2
  cases hk : K.lookup a with
  | some o =>
    have e := KX a o hk
    rw [ha] at e
    cases e
    exact go (fun _ => none) (fun _ => .inl rfl) (.inr ⟨_, vs.toArray, _, hk, rfl, rfl, rfl, by rw [List.size_toArray, lv]; exact hl, by simpa using rv⟩) (fun b u z => nomatch z) (fun b z => absurd rfl z) fun z => absurd rfl z
  | none =>
    have at1 : (fun b => if b = a then some (HO.frz { cls := .type "list", data := .seq vs.toArray } (.lst (ns.map V.int))) else none : Hp) a = some (HO.frz { cls := .type "list", data := .seq vs.toArray } (.lst (ns.map V.int))) := if_pos rfl
    refine go (fun b => if b = a then some (.frz { cls := .type "list", data := .seq vs.toArray } (.lst (ns.map V.int))) else none) (fun b => ?_) (.inl (.inr ⟨_, at1⟩)) (fun b u z => ?_) (fun b z => ?_) fun _ => hk
    · by_cases hb : b = a
      · exact .inr ⟨_, _, if_pos hb⟩
      · exact .inl (if_neg hb)
    · by_cases hb : b = a
      · subst hb
        rw [at1] at z
        cases z
        exact ⟨ha, by rw [List.length_map]; exact hl, vs, _, rv, ha⟩
      · have z' := (if_neg hb).symm.trans z
        cases z'
    · by_cases hb : b = a
      · exact hb
      · exact absurd (if_neg hb) z
theorem walk_ofG {l : PySem.W.OpenLaw} {n k : Nat} {q : Program} {loose : List Str} {XP : (Str → Option Value) → Heap → Prop} {YP : World → Heap → Prop} {d : DefRec} {K : Params → PySem.W.Frag} {CX : World → CXT} {sp : World → Sp} {x : Str}
    (hn : l.most = some n) (hn2 : n ≤ sizeLine) (hdf : d.params.defaults = []) (hr : Room k callerA) (hY : ∀ (w : World) (h : Heap), YP w h → (K w.params).In h)
    (F : ∀ (w : World) (mg : Str → Option Value) (fa : Addr) (h : Heap), (K w.params).In h → h.Ns mainGlobals mg → mg d.name = some (.ref fa) →
      ∃ fd : FuncData, (∀ (s : Shared) (u : Value), BindsTo s fd ⟨[u], []⟩ [(x, u)]) ∧ ∀ base : Heap, (K w.params).In base → base.Ns mainGlobals mg → FnG l.prog w (K w.params) mg base (CX w) k fa fd [x] (sp w))
    (hsp : ∀ (w : World) (H : Hp) (a : Addr) (ns : List Int), ns.length ≤ n → Only H → SqL (K w.params) H a (ns.map V.int) → sp w [.ref a] H (fun v _ => v = .bl true) fun _ _ _ => False)
    (hCX : ∀ (w : World) (H : Hp) (s : Shared) (e : Value) (s' : Shared), CX w [] H s (fun _ _ _ => False) e s' → False) :
    PySem.W.WalkO q loose XP YP l.row.toRowW d [] (fun f vs => PySem.call f vs) := by
  refine Att.attach_call hn hdf fun w s₀ s₁ mg mb fa o pm cd doc a vs ns G Y ho hd hcd hmg hobj hints hlen hg => ?_
  obtain ⟨fd, hb, hF⟩ := F w mg fa _ (hY w _ Y) G.T.g hmg
  exact law_endG (hY w _ Y) G.T.g G.T.b G.T.builtins G.T.nolimit hg hobj hints (Nat.le_trans hlen hn2) hr hF hb (fun H hO hS => hsp w H a ns hlen hO hS) fun H e s' => hCX w H s₁ e s'
end Tw
/-! Tw, part 2: repr of data. -/
namespace Tw
open PySem PySem.Spec PyProof.Rows L2

/-! ### how long a repr may be -/
mutual
def cap : PyData → Nat
  | .none => 4
  | .bool _ => 5
  | .int _ => 1921
  | .str x => 10 * x.length + 2
  | .list xs => 2 + capAll xs
  | .tuple xs => 3 + capAll xs
  | .dict kvs => 2 + capKv kvs
def capAll : List PyData → Nat
  | [] => 0
  | x :: xs => cap x + 2 + capAll xs
def capKv : List (PyData × PyData) → Nat
  | [] => 0
  | (k, v) :: r => cap k + 4 + cap v + capKv r
end
mutual
/-- ints of moderate size, texts of plain signs -/
def mild : PyData → Bool
  | .none | .bool _ => true
  | .int i => decide (i.natAbs.log2 < 1920)
  | .str x => x.cps.toList.all fun c => decide (c < 16 ^ 8)
  | .list xs | .tuple xs => mildAll xs
  | .dict kvs => mildKv kvs
def mildAll : List PyData → Bool
  | [] => true
  | x :: xs => mild x && mildAll xs
def mildKv : List (PyData × PyData) → Bool
  | [] => true
  | (k, v) :: r => mild k && (mild v && mildKv r)
end
mutual
theorem mild_show : ∀ d : PyData, mild d = true → d.showable = true
  | .none, _ => rfl
  | .bool _, _ => rfl
  | .str _, _ => rfl
  | .int i, h => by simpa [mild, PyData.showable] using h
  | .list xs, h => by
    simp only [PyData.showable]
    exact mild_showAll xs (by simpa [mild] using h)
  | .tuple xs, h => by
    simp only [PyData.showable]
    exact mild_showAll xs (by simpa [mild] using h)
  | .dict kvs, h => by
    simp only [PyData.showable]
    exact mild_showKv kvs (by simpa [mild] using h)
theorem mild_showAll : ∀ xs : List PyData, mildAll xs = true → PyData.showableAll xs = true
  | [], _ => rfl
  | x :: xs, h => by
    have h2 := Bool.and_eq_true_iff.mp (show (mild x && mildAll xs) = true by simpa [mildAll] using h)
    simp only [PyData.showableAll, mild_show x h2.1, mild_showAll xs h2.2, Bool.and_self]
theorem mild_showKv : ∀ kvs : List (PyData × PyData), mildKv kvs = true → PyData.showableKv kvs = true
  | [], _ => rfl
  | (k, v) :: r, h => by
    have h2 := Bool.and_eq_true_iff.mp (show (mild k && (mild v && mildKv r)) = true by simpa [mildKv] using h)
    have h3 := Bool.and_eq_true_iff.mp h2.2
    simp only [PyData.showableKv, mild_show k h2.1, mild_show v h3.1, mild_showKv r h3.2, Bool.and_self]
end
theorem textFrom_le : ∀ (ts : List Str) (k : Nat) (acc : Str), (textFrom k acc ts).length ≤ acc.length + piled ts
  | [], k, acc => by
    show acc.length ≤ acc.length + _
    omega
  | t :: r, k, acc => by
    have ih := textFrom_le r (k + 1) (acc ++ (if k > 0 then ", " else "" : String) ++ t)
    rw [piled_cons]
    show (textFrom (k + 1) (acc ++ (if k > 0 then ", " else "" : String) ++ t) r).length ≤ _
    rw [strLen_append, strLen_append] at ih
    have e : (Str.ofString (if k > 0 then ", " else "" : String)).length ≤ 2 := by
      by_cases hk : k > 0
      · rw [if_pos hk]; decide
      · rw [if_neg hk]; decide
    have e' : ((if k > 0 then ", " else "" : String) : Str).length ≤ 2 := e
    omega
theorem join_le (ts : List Str) : (Str.join ", " ts).length ≤ piled ts := by
  by_cases h : ts = []
  · subst h
    decide
  · have := join_length_add ts h
    omega
theorem piled_le : ∀ (xs : List PyData) (ts : List Str), ts.length = xs.length → (∀ (i : Nat) (x : PyData) (t : Str), xs[i]? = some x → ts[i]? = some t → t.length ≤ cap x) → piled ts ≤ capAll xs
  | [], [], _, _ => Nat.le_refl _
  | x :: xs, t :: ts, hl, h => by
    have h1 := h 0 x t rfl rfl
    have h2 := piled_le xs ts (by simpa using hl) fun i y u e1 e2 => h (i + 1) y u (by simpa using e1) (by simpa using e2)
    rw [piled_cons]
    simp only [capAll]
    omega
  | [], _ :: _, hl, _ => by simp at hl
  | _ :: _, [], hl, _ => by simp at hl
mutual
theorem shown_le : ∀ d : PyData, mild d = true → d.shown.length ≤ cap d
  | .none, _ => by simp only [PyData.shown, cap]; decide
  | .bool b, _ => by
    simp only [PyData.shown, cap]
    cases b <;> decide
  | .int i, h => by
    have h2 : i.natAbs.log2 < 1920 := by simpa [mild] using h
    have e := int_text_length_le (a := i) (k := 1920) (by decide) h2
    simp only [PyData.shown, cap]
    show (Str.ofString (toString i)).length ≤ 1921
    rw [PySem.ofString_length]
    exact e
  | .str x, h => by
    simp only [PyData.shown, cap]
    exact PySem.StrLaws.reprText_len x fun c hc => of_decide_eq_true (List.all_eq_true.mp (show (x.cps.toList.all fun c => decide (c < 16 ^ 8)) = true by simpa [mild] using h) c hc)
  | .list xs, h => by
    have h2 := shownAll_le xs (by simpa [mild] using h)
    simp only [PyData.shown, cap]
    have e := textFrom_le (PyData.shownAll xs) 0 "["
    unfold listText
    rw [strLen_append]
    have e1 : ("[" : Str).length = 1 := by decide
    have e2 : ("]" : Str).length = 1 := by decide
    omega
  | .tuple xs, h => by
    have h2 := shownAll_le xs (by simpa [mild] using h)
    simp only [PyData.shown, cap]
    have e := join_le (PyData.shownAll xs)
    unfold tupleText
    rw [strLen_append, strLen_append]
    have e1 : ("(" : Str).length = 1 := by decide
    have e2 : ((if (PyData.shownAll xs).length == 1 then ",)" else ")" : String) : Str).length ≤ 2 := by
      cases (PyData.shownAll xs).length == 1 <;> decide
    omega
  | .dict kvs, h => by
    have h2 := shownKv_le kvs (by simpa [mild] using h)
    simp only [PyData.shown, cap]
    have e := join_le (PyData.shownKv kvs)
    unfold dictText
    rw [strLen_append, strLen_append]
    have e1 : ("{" : Str).length = 1 := by decide
    have e2 : ("}" : Str).length = 1 := by decide
    omega
theorem shownAll_le : ∀ xs : List PyData, mildAll xs = true → piled (PyData.shownAll xs) ≤ capAll xs
  | [], _ => by simp only [PyData.shownAll, capAll]; decide
  | x :: xs, h => by
    have h2 := Bool.and_eq_true_iff.mp (show (mild x && mildAll xs) = true by simpa [mildAll] using h)
    have a := shown_le x h2.1
    have b := shownAll_le xs h2.2
    simp only [PyData.shownAll, capAll, piled_cons]
    omega
theorem shownKv_le : ∀ kvs : List (PyData × PyData), mildKv kvs = true → piled (PyData.shownKv kvs) ≤ capKv kvs
  | [], _ => by simp only [PyData.shownKv, capKv]; decide
  | (k, v) :: r, h => by
    have h2 := Bool.and_eq_true_iff.mp (show (mild k && (mild v && mildKv r)) = true by simpa [mildKv] using h)
    have h3 := Bool.and_eq_true_iff.mp h2.2
    have a := shown_le k h2.1
    have b := shown_le v h3.1
    have c := shownKv_le r h3.2
    simp only [PyData.shownKv, capKv, piled_cons]
    rw [strLen_append, strLen_append]
    have e1 : (": " : Str).length = 2 := by decide
    omega
end

/-! ### data in the abstract heap, with flat dicts -/
def keyD : Key → PyData
  | .inl i => .int i
  | .inr x => .str x
mutual
inductive Dx (K : PySem.W.Frag) (H : Hp) : V → PyData → Prop
  | non : Dx K H .non .none
  | bl (b : Bool) : Dx K H (.bl b) (.bool b)
  | int (i : Int) : Dx K H (.int i) (.int i)
  | str (x : Str) : Dx K H (.str x) (.str x)
  | lst {a : Addr} {xs : List V} {ds : List PyData} : SqL K H a xs → a ≠ sysModules → DxAll K H xs ds → Dx K H (.ref a) (.list ds)
  | tup {a : Addr} {xs : List V} {ds : List PyData} : SqT K H a xs → DxAll K H xs ds → Dx K H (.ref a) (.tuple ds)
  | dic {a : Addr} {kvs : List (Key × V)} {ds : List PyData} : H a = some (.dK kvs) → DxAll K H (kvs.map (·.2)) ds → Dx K H (.ref a) (.dict ((kvs.map fun p => keyD p.1).zip ds))
inductive DxAll (K : PySem.W.Frag) (H : Hp) : List V → List PyData → Prop
  | nil : DxAll K H [] []
  | cons {v : V} {vs : List V} {d : PyData} {ds : List PyData} : Dx K H v d → DxAll K H vs ds → DxAll K H (v :: vs) (d :: ds)
end
section
variable {X : Cx} {pins : List (Addr × Obj)} {σ : L2.St} {H : Hp} {s : Shared}
theorem DxAll.len : ∀ {vs : List V} {ds : List PyData}, DxAll X.K H vs ds → vs.length = ds.length
  | [], _, .nil => rfl
  | _ :: _, _, .cons _ t => by
    have := DxAll.len t
    simp [this]
theorem readsAll_keys {h : Heap} : ∀ {kvs : List (Key × V)} {ws : List (Key × Value)} {es : List DictEntry}, KV kvs ws → Pairs (mixKind X.prog X.w) es ws → ReadsAll h (es.map (·.key)) (kvs.map fun p => keyD p.1) []
  | [], _, _, .nil, .nil => .nil
  | (k, v) :: kvs, (k', u) :: ws, e :: es, .cons r t, .cons a b q => by
    obtain ⟨r1, r2⟩ := r
    have ih := readsAll_keys (h := h) t q
    have hk : keyIs k' e.key = true := a
    have r1' : k = k' := r1
    subst r1'
    rcases keyIs_shape hk with ⟨i, tk, e1, e2⟩ | ⟨x, tk, e1, e2⟩
    · subst e1
      show ReadsAll h (e.key :: es.map (·.key)) (PyData.int i :: _) ([] ++ [])
      rw [e2]
      exact .cons (.int i tk) ih
    · subst e1
      show ReadsAll h (e.key :: es.map (·.key)) (PyData.str x :: _) ([] ++ [])
      rw [e2]
      exact .cons (.str x tk) ih
theorem vals_of_pairs : ∀ {kvs : List (Key × V)} {ws : List (Key × Value)} {es : List DictEntry}, KV kvs ws → Pairs (mixKind X.prog X.w) es ws → Vals (kvs.map (·.2)) (es.map (·.val))
  | [], _, _, .nil, .nil => .nil
  | (k, v) :: kvs, (k', u) :: ws, e :: es, .cons r t, .cons a b q => by
    obtain ⟨r1, r2⟩ := r
    refine .cons ?_ (vals_of_pairs t q)
    have b' : e.val = u := b
    show RelV v e.val
    rw [b']
    exact r2
theorem map_fst_zip' {α β : Type} : ∀ {l : List α} {m : List β}, l.length = m.length → (l.zip m).map (·.1) = l
  | [], [], _ => rfl
  | _ :: l, _ :: m, h => by
    have := map_fst_zip' (l := l) (m := m) (by simpa using h)
    simp [this]
  | [], _ :: _, h => by simp at h
  | _ :: _, [], h => by simp at h
theorem map_snd_zip' {α β : Type} : ∀ {l : List α} {m : List β}, l.length = m.length → (l.zip m).map (·.2) = m
  | [], [], _ => rfl
  | _ :: l, _ :: m, h => by
    have := map_snd_zip' (l := l) (m := m) (by simpa using h)
    simp [this]
  | [], _ :: _, h => by simp at h
  | _ :: _, [], h => by simp at h
mutual
theorem Dx.reads (I : Inv X pins σ H s) : ∀ {v : V} {d : PyData} {u : Value}, Dx X.K H v d → RelV v u → ∃ as, Reads s.heap u d as ∧ sysModules ∉ as
  | _, _, _, .non, r => by
    cases r
    exact ⟨_, Reads.none, fun z => nomatch z⟩
  | _, _, _, .bl b, r => by
    cases r
    exact ⟨_, Reads.bool b, fun z => nomatch z⟩
  | _, _, _, .int i, r => by
    obtain ⟨t, rfl⟩ := r
    exact ⟨_, Reads.int i t, fun z => nomatch z⟩
  | _, _, _, .str x, r => by
    obtain ⟨t, rfl⟩ := r
    exact ⟨_, Reads.str x t, fun z => nomatch z⟩
  | _, _, _, .lst (a := a) hs hne ha, r => by
    cases r
    obtain ⟨its, rv, ⟨o, n, ho, hc, _, hd⟩, _⟩ := I.list hs
    obtain ⟨as, hr, hn⟩ := DxAll.reads I ha rv
    refine ⟨_, Reads.list ho hc hd hr, fun z => ?_⟩
    rcases List.mem_cons.mp z with z | z
    · exact hne z.symm
    · exact hn z
  | _, _, _, .tup hs ha, r => by
    cases r
    obtain ⟨its, rv, ⟨o, ho, hc, n, hd⟩, _⟩ := I.tuple hs
    obtain ⟨as, hr, hn⟩ := DxAll.reads I ha rv
    exact ⟨_, Reads.tuple ho hc hd hr, hn⟩
  | _, _, _, .dic (kvs := kvs) hs ha, r => by
    cases r
    obtain ⟨_, hsys, ws, hkv, o, es, ep, ho, hx, hd, _, hp, _⟩ := I.hok _ _ hs
    have hl := DxAll.len (X := X) ha
    have rv := vals_of_pairs (X := X) hkv hp
    obtain ⟨as, hr, hn⟩ := DxAll.reads I ha rv
    have hk := readsAll_keys (h := s.heap) hkv hp
    refine ⟨_, Reads.dict ho hx.1 hd (as := []) (bs := as) (by rw [map_fst_zip' (by rw [List.length_map, ← hl, List.length_map])]; exact hk) (by rw [map_snd_zip' (by rw [List.length_map, ← hl, List.length_map])]; exact hr), fun z => ?_⟩
    rcases List.mem_cons.mp (by simpa using z) with z | z
    · rw [← z] at hsys
      simp at hsys
    · exact hn z
theorem DxAll.reads (I : Inv X pins σ H s) : ∀ {vs : List V} {ds : List PyData} {us : List Value}, DxAll X.K H vs ds → Vals vs us → ∃ as, ReadsAll s.heap us ds as ∧ sysModules ∉ as
  | _, _, _, .nil, .nil => ⟨_, .nil, fun z => nomatch z⟩
  | _, _, _, .cons h t, .cons r q => by
    obtain ⟨as, h1, n1⟩ := Dx.reads I h r
    obtain ⟨bs, h2, n2⟩ := DxAll.reads I t q
    exact ⟨_, .cons h1 h2, fun z => (List.mem_append.mp z).elim n1 n2⟩
end
end
end Tw

/-! ### the rules -/
namespace Tw
open PySem PySem.Spec PyProof.Rows L2
theorem boot_repr : bootBuiltins "repr" = some (.builtin "repr") := by decide +kernel
section
variable {X : Cx}
/-- repr(x), x a list or a tuple of data -/
def rRepr (K : PySem.W.Frag) : List V → Hp → VK → Prop := fun xs H Q => ∃ (a : Addr) (d : PyData), xs = [.ref a] ∧ Dx K H (.ref a) d ∧ mild d = true ∧ d.depth ≤ 64 ∧ cap d ≤ 16777216 ∧ Q (.str d.shown) H
theorem call_repr (hG : NoG X.A) (hu : X.A.units + 70 < cLine) : CallR X (.builtin "repr") (rRepr X.K) := by
  intro pins s σ H xs us Q I r h
  obtain ⟨a, d, rfl, hd, hm, hdp, hc, q⟩ := h
  obtain ⟨u, rfl, ru⟩ := vals1 r
  obtain ⟨as, hr, hn⟩ := Dx.reads I hd ru
  cases (show u = Value.ref a from ru)
  exact repr_of_reads' hr (mild_show d hm) (fun _ => hn) hG (by omega) (fun _ _ e => e) (fun h' u tk hk => ⟨.str d.shown, H, I.kept (t' := tk) hk, ⟨_, rfl⟩, q⟩) (Nat.le_trans (shown_le d hm) (by rw [sizeLine_eq]; exact hc))
mutual
theorem dp_reads {pins : List (Addr × Obj)} {σ : L2.St} {H : Hp} {s : Shared} (I : Inv X pins σ H s) : ∀ {v : V} {d : PyData}, Dp X.K H v d → d.hasDict = false
  | _, _, .non => by simp only [PyData.hasDict]
  | _, _, .bl _ => by simp only [PyData.hasDict]
  | _, _, .int _ => by simp only [PyData.hasDict]
  | _, _, .str _ => by simp only [PyData.hasDict]
  | _, _, .lst _ ha => by
    simp only [PyData.hasDict]
    exact dpAll_reads I ha
  | _, _, .tup _ ha => by
    simp only [PyData.hasDict]
    exact dpAll_reads I ha
theorem dpAll_reads {pins : List (Addr × Obj)} {σ : L2.St} {H : Hp} {s : Shared} (I : Inv X pins σ H s) : ∀ {vs : List V} {ds : List PyData}, DpAll X.K H vs ds → PyData.hasDictAll ds = false
  | _, _, .nil => by simp only [PyData.hasDictAll]
  | _, _, .cons h t => by simp only [PyData.hasDictAll, dp_reads I h, dpAll_reads I t, Bool.or_self]
end
def rReprD (K : PySem.W.Frag) : List V → Hp → VK → Prop := fun xs H Q => ∃ (a : Addr) (d : PyData), xs = [.ref a] ∧ Dp K H (.ref a) d ∧ mild d = true ∧ d.depth ≤ 64 ∧ cap d ≤ 16777216 ∧ Q (.str d.shown) H
theorem call_reprD (hG : NoG X.A) (hu : X.A.units + 70 < cLine) : CallR X (.builtin "repr") (rReprD X.K) := by
  intro pins s σ H xs us Q I r h
  obtain ⟨a, d, rfl, hd, hm, hdp, hc, q⟩ := h
  obtain ⟨u, rfl, ru⟩ := vals1 r
  obtain ⟨as, hr⟩ := Dp.reads I d _ u hd ru
  cases (show u = Value.ref a from ru)
  exact repr_of_reads' hr (mild_show d hm) (PyData.noDict_hsm (dp_reads I hd)) hG (by omega) (fun _ _ e => e) (fun h' u tk hk => ⟨.str d.shown, H, I.kept (t' := tk) hk, ⟨_, rfl⟩, q⟩) (Nat.le_trans (shown_le d hm) (by rw [sizeLine_eq]; exact hc))
/-! ### lists that are known to stand elsewhere than the table of modules -/
variable {es : List Expr} {t : TA} {pos : Pos}
def tLstB (t : TA) : TE := fun σ H Q => t σ H fun xs H1 => xs.length ≤ sizeLine ∧ ∀ p, H1 p = none → p ≠ sysModules → Q (.ref p) (upd H1 p (.lst xs))
theorem pe_lstB (h : PA X es t) : PE X (.List es pos) (tLstB t) := by
  refine ⟨fun pins s σ H Q I hq => wpAny_List_spliced (thn (h.run pos pins s σ H _ I hq) fun us s1 ⟨xs, H1, I1, r, z, q⟩ => ⟨by rw [← r.length]; exact z, ?_⟩)⟩
  exact ⟨.ref s1.heap.objs.size, upd H1 s1.heap.objs.size (.lst xs), I1.laid (t' := s1.toks) (fun b u e => Heap.get?_push_of_some _ e) (Nat.le_refl _) ⟨z, us, 0, r, Heap.get?_push_size _ rfl⟩, rfl, q _ (I1.hok.fresh (Nat.le_refl _)) (Nat.ne_of_gt I1.big)⟩
def rCatB : R2 := fun x y H Q => ∃ l b xs zs, x = .ref l ∧ y = .ref b ∧ H l = some (.lst xs) ∧ H b = some (.lst zs) ∧ xs.length + zs.length ≤ sizeLine ∧ ∀ p, H p = none → p ≠ sysModules → Q (.ref p) (upd H p (.lst (xs ++ zs)))
theorem op_catB : OpR X (binaryOp .Add) rCatB := by
  intro pins s σ H x y v u Q I rx ry h
  obtain ⟨l, b, xs, zs, rfl, rfl, hH, hB, hz, q⟩ := h
  cases rx
  cases ry
  obtain ⟨z, its, n, r, hl, e⟩ := I.lstM hH
  obtain ⟨z2, its2, n2, r2, hl2, e2⟩ := I.lstM hB
  refine PySem.P.add_list e e2 ?_ (by rw [List.size_toArray, List.size_toArray]; omega)
  rw [show its.toArray ++ its2.toArray = (its ++ its2).toArray by simp]
  exact ⟨.ref _, _, I.lnew (t' := s.toks) (r.append r2) (by rw [List.length_append]; omega), rfl, q _ I.fresh (Nat.ne_of_gt I.big)⟩
end
end Tw
/-! Tw, part 3: errors of own classes as values. -/
namespace Tw
open PySem PySem.Spec PyProof.Rows L2

/-- at a: an error of the class at C (made or caught), its own dict at d -/
def exT (a C : Addr) (d : Option Addr) : HO := .ext fun h => ∃ (oe : Obj) (vs : Array Value), h.get? a = some oe ∧ Zc (.ref C) d oe ∧ oe.data = .fields vs
theorem exT_ok {P : Program} {w : World} {H : Hp} {h : Heap} {a C : Addr} {d : Option Addr} {oe : Obj} {vs : Array Value} (e : h.get? a = some oe) (z : Zc (.ref C) d oe) (hd : oe.data = .fields vs) : ObjOk P w H h a (exT a C d) :=
  ⟨⟨oe, vs, e, z, hd⟩, ⟨oe, e⟩, fun _ _ ⟨o, v, q, r⟩ k => ⟨o, v, k o q, r⟩⟩
def IsX (H : Hp) (a C : Addr) (d : Option Addr) : Prop := H a = some (exo a C d) ∨ H a = some (exT a C d)
def IsXd (H : Hp) (d : Addr) (fs : List (Str × V)) : Prop := H d = some (exd d fs) ∨ H d = some (.xd fs)
theorem IsX.get {P : Program} {w : World} {H : Hp} {h : Heap} {a C : Addr} {d : Option Addr} (hok : HOk P w H h) (x : IsX H a C d) : ∃ (oe : Obj) (vs : Array Value), h.get? a = some oe ∧ Zc (.ref C) d oe ∧ oe.data = .fields vs := by
  rcases x with e | e
  · obtain ⟨t1, q⟩ := exo_at hok e
    exact ⟨_, _, q, ⟨rfl, rfl⟩, rfl⟩
  · have x : ObjOk P w H h a (.ext fun h => ∃ (oe : Obj) (vs : Array Value), h.get? a = some oe ∧ Zc (.ref C) d oe ∧ oe.data = .fields vs) := hok a _ e
    exact x.1
theorem IsXd.get {P : Program} {w : World} {H : Hp} {h : Heap} {d : Addr} {fs : List (Str × V)} (hok : HOk P w H h) (x : IsXd H d fs) : ∃ mA, h.Ns1 d mA ∧ ∀ f, RelO (fs.lookup f) (mA f) := by
  rcases x with e | e
  · exact exd_at hok e
  · exact (show ObjOk P w H h d (.xd fs) from hok d _ e)
theorem IsX.same {H H' : Hp} {a C : Addr} {d : Option Addr} (e : Same H H') (x : IsX H a C d) : IsX H' a C d := x.imp (e _ _) (e _ _)
theorem IsXd.same {H H' : Hp} {d : Addr} {fs : List (Str × V)} (e : Same H H') (x : IsXd H d fs) : IsXd H' d fs := x.imp (e _ _) (e _ _)

/-- what the written part says of an error class -/
structure XC (K : PySem.W.Frag) (C : Addr) : Prop where
  ox : OexC K C
  ga : PySem.W.findIn K (.ref C) "__getattribute__" = some (some (.builtin "BaseException.__getattribute__"))
  gg : PySem.W.findIn K (.ref C) "__getattr__" = some none
  hd : PySem.W.hasDictIn K C = true
  ca : PySem.W.findIn K (.ref C) "__class__" = some (some (.builtin "object.__class__"))
  cm : PySem.W.mroIn K C (.type "object") = some true
/-- what it says of object.__class__ -/
structure XO (K : PySem.W.Frag) : Prop where
  hn : PySem.W.specialIn K (.builtin "object.__class__") "__get__" = some (some (.builtin "getset_descriptor.__get__"))
  ht : PySem.W.takesIn K (.builtin "object.__class__") = some true
theorem oexC_cl {K : PySem.W.Frag} {C : Addr} (T : OexC K C) : (PySem.W.clsIn K C).isSome = true := by
  obtain ⟨nm, q, N, bs, bm, sn, sub, ab, col, dd, k0, k1, k2, k3, k5, hC, _⟩ := T.cls
  unfold PySem.W.clsIn
  rw [hC]
  rfl
section
variable {X : Cx} {CX : CXT} {k : Nat} {fI C : Addr} {fd : FuncData} {ps : List Str} {sp : Sp} {dvs : List V} {ds : List Value} {E : XK} {x f : Str} {p pos : Pos} {e : Expr} {es : List Expr} {ta : TA} {te : TE}
/-- C(e, ..) as a value, C an error class whose __init__ keeps sp -/
def tMkX (C : Addr) (sp : Sp) (dvs : List V) (ta : TA) : TE := fun σ H Q => ta σ H fun vs H1 => vs.length ≤ 1000 ∧ ∀ a, H1 a = none → sp (.ref a :: (vs ++ dvs)) (upd H1 a (exo a C none)) (fun v H2 => v = .non ∧ Q (.ref a) H2) (fun _ _ _ => False)
theorem pe_mkX (T : OexC X.K C) (iC : PySem.W.findIn X.K (.ref C) "__init__" = some (some (.ref fI))) (tI : PySem.W.typeIn X.K (.ref fI) = some (.type "function"))
    (F1 : FnOk X.prog X.w X.K X.mg X.base CX k fI fd ps sp) (hr : Room (k + 1) X.A) (hb : Binds X.K fd ps ds) (hd : Vals dvs ds) (hx : Passes CX X (fun _ _ _ => False)) (hg : Gl X x) (hm : X.mg x = some (.ref C)) (ha : PA X (e :: es) ta)
    (hdb : (x == ("__debug__" : Str)) = false := by decide) (he : starEach (e :: es) X.env = (false, eval e X.env) :: starEach es X.env := by rfl) (hpl : (backTo pos (starEach es X.env)).any (·.1) = false := by rfl) :
    PE X (.Call (.Name x p) (e :: es) [] pos) (tMkX C sp dvs ta) := by
  refine ⟨fun pins s σ H Q I h => ?_⟩
  obtain ⟨nm, q, N, bs, bm, sn, sub, ab, col, dd, k0, k1, k2, k3, k5, hC, hbm⟩ := T.cls
  refine wpAny_Call_Name_kw (ld_glob I hg hm ?_ hdb)
  refine PySem.W.callWith_K (h₀ := X.base) I.ok.mod.kin T.kC (thn (ha.run pos pins s σ H _ I h) fun us s1 ⟨vs, H1, I1, r1, hz, q1⟩ => ⟨I1.kIn, ?_⟩) he hpl
  show wpAny _ _ (call (.ref C) us) _ _ _
  obtain ⟨hp, g, dr, tk, os⟩ := s1
  have hsz : hp.objs.size ≤ hp.objs.size + 1 := Nat.le_succ _
  have hq := q1 (hp.objs.size + 1) (I1.hok.fresh hsz)
  have kk : ∀ b o, hp.get? b = some o → ((hp.push (PySem.W.kdv_tup us)).push (PySem.HandSPX.excO C hp.objs.size)).get? b = some o := fun b o z => Heap.get?_push_of_some _ (Heap.get?_push_of_some _ z)
  have hget : ((hp.push (PySem.W.kdv_tup us)).push (PySem.HandSPX.excO C hp.objs.size)).get? (hp.objs.size + 1) = some (PySem.HandSPX.excO C hp.objs.size) := by heap_get
  have I2 := I1.laid (t' := tk) (a := hp.objs.size + 1) (o := exo (hp.objs.size + 1) C none) (h' := (hp.push (PySem.W.kdv_tup us)).push (PySem.HandSPX.excO C hp.objs.size)) kk hsz (exo_ok hget)
  have r2 : Vals (V.ref (hp.objs.size + 1) :: (vs ++ dvs)) (Value.ref (hp.objs.size + 1) :: (us ++ ds)) := .cons rfl (r1.append hd)
  have hl : (Value.ref (hp.objs.size + 1) :: us ++ ds).length = ps.length := r2.length.symm.trans (F1.len _ _ _ _ hq)
  have hus : us.length ≤ sizeLine := by
    rw [← Paired.length r1, sizeLine_eq]
    omega
  refine wpAny_call (PySem.HandSPX.call_own F.excBase_ValueError (fun Y => PySem.HandSPX.refsVE_contains Y bm hbm) (I1.kIn _ _ hC) (PySem.W.looks_findIn I1.kIn iC) (fun self => PySem.W.bind_fn I1.kIn self tI) hus
    (codeAny_mono (F1.run _ X.stack _ _ ⟨Value.ref (hp.objs.size + 1) :: us, []⟩ (Value.ref (hp.objs.size + 1) :: (us ++ ds)) _ _ (fun _ _ _ => False) (hr.make C us []) (I2.env0.make C us []) (hb _ (Value.ref (hp.objs.size + 1) :: us) I2.kIn hl) r2 hq) fun r s' hq' => ?_))
  match r, hq' with
  | .error er, hq' => exact hx pins σ _ _ er s' I2 hq'
  | .ok (.ret u), hq' =>
    obtain ⟨v, H2, os2, bare2, un2, hok2, rv, ev, q2⟩ := hq'
    subst ev
    obtain ⟨h2, g2, d2, t2, os'⟩ := s'
    obtain rfl : os' = os := os2
    exact ⟨rv, .ref (hp.objs.size + 1), H2, I2.call (h' := h2) (g' := g2) (d' := d2) (t' := t2) (ch := []) un2 hok2 bare2 (fun b z => nomatch z), rfl, q2⟩
/-- e.f, e an error -/
def tXfld (K : PySem.W.Frag) (f : Str) (te : TE) : TE := fun σ H Q => te σ H fun x H1 => ∃ (a C d : Addr) (fs : List (Str × V)) (v : V), x = .ref a ∧ IsX H1 a C (some d) ∧ XC K C ∧ PySem.W.findIn K (.ref C) f = some none ∧ IsXd H1 d fs ∧ fs.lookup f = some v ∧ Q v H1
theorem pe_xfld (he : PE X e te) (hb : attributeBase e f X.env (eval e X.env) = eval e X.env := by rfl) : PE X (.Attribute e f pos) (tXfld X.K f te) := by
  refine ⟨fun pins s σ H Q I h => attr_of hb (thn (he.run pins s σ H _ I h) fun u s1 hh => ?_)⟩
  obtain ⟨x, H1, I1, rx, a, C, d, fs, v, ex, ia, T, hno, idd, hl, q⟩ := hh
  subst ex
  obtain rfl : u = Value.ref a := rx
  obtain ⟨oe, vs, ho, hz, hdt⟩ := ia.get I1.hok
  obtain ⟨mA, hns, hr⟩ := idd.get I1.hok
  obtain ⟨od, hod, hlk⟩ := lookIn_ns hns
  obtain ⟨u, hu, ru⟩ := RelO.some_of (v := v) (o := mA f) (by rw [← hl]; exact hr f)
  have J : PySem.W.InstAt s1.heap a oe C (some od) := ⟨ho, hz.1, by unfold PySem.W.notCls; rw [hdt] <;> rfl, by rw [hz.2]; exact hod⟩
  exact HandSPX.exc_get I1.kIn J T.ga T.gg T.ox.exC (PySem.W.findObj_own T.hd hno rfl (by rw [hlk, hu])) (handed_of ru) ⟨v, H1, I1.tok _, ru, q⟩
/-- isinstance(x, c), x anything that is known, errors too -/
def rIsA (K : PySem.W.Frag) : List V → Hp → VK → Prop := fun xs H Q => ∃ (x c : V) (t u : Value) (b : Bool), xs = [x, c] ∧ ClsV c u ∧ (TyX K H x t ∨ ∃ (a C : Addr) (d : Addr) (fs : List (Str × V)), x = .ref a ∧ t = .ref C ∧ IsX H a C (some d) ∧ IsXd H d fs ∧ XC K C ∧ XO K) ∧ PySem.W.kitOne K t u = some b ∧ Q (.bl b) H
theorem call_isA : CallR X (.builtin "isinstance") (rIsA X.K) := by
  intro pins s σ H xs us Q I r h
  obtain ⟨x, c, t, u, b, rfl, k, ty, e, q⟩ := h
  obtain ⟨u1, u2, rfl, r1, r2⟩ := vals2 r
  have e2 := k.eq r2
  subst e2
  rcases ty with ty | ⟨a, C, d, fs, rfl, rfl, ia, idd, T, O⟩
  · obtain ⟨P, Z, p, hx⟩ := kit_of I r1 ty
    exact PySem.W.kia_one Z I.kIn p e hx fun tk => ⟨.bl b, H, I.tok tk, rfl, q⟩
  · cases (show u1 = Value.ref a from r1)
    obtain ⟨oe, vs, ho, hz, hdt⟩ := ia.get I.hok
    obtain ⟨mA, hns, hr⟩ := idd.get I.hok
    obtain ⟨od, hod, hlk⟩ := lookIn_ns hns
    have J : PySem.W.InstAt s.heap a oe C (some od) := ⟨ho, hz.1, by unfold PySem.W.notCls; rw [hdt] <;> rfl, by rw [hz.2]; exact hod⟩
    exact PySem.W.kia_one (PySem.W.kitx_exc (od := some od) (oexC_cl T.ox) T.ga T.gg T.ox.exC T.ca O.hn O.ht T.cm) I.kIn J e (fun z => nomatch z) fun tk => ⟨.bl b, H, I.tok tk, rfl, q⟩
end
end Tw
/-! Tw, part 4: the head's facts by names, error classes too. -/
namespace Tw
open PySem PySem.Spec PyProof.Rows L2 He
abbrev Fg := PySem.W.Frag
def excB (K : Fg) (C : Addr) : Bool := match K.lookup C with
  | some ⟨.type t, _, .cls cd, sl⟩ => (match cd.mro, sl.toList with
    | .ref C' :: bm, [_, _, _, _, some (.builtin n), _] => decide (t = "type") && (decide (C' = C) && (decide (n = "ValueError.__new__") && (!cd.hasDel && (cd.hasDict && PySem.HandSPX.refsVE bm))))
    | _, _ => false)
  | _ => false
theorem excB_ok {K : Fg} {C : Addr} (h : excB K C = true) : ∃ nm q N bs bm sn sub ab col dd k0 k1 k2 k3 k5, K.lookup C = some (excClassObj nm q C N bs bm true sn sub ab col dd k0 k1 k2 k3 k5 "ValueError.__new__") ∧ PySem.HandSPX.refsVE bm = true := by
  unfold excB at h
  cases e : K.lookup C with
  | none =>
    rw [e] at h
    cases h
  | some o =>
    rw [e] at h
    obtain ⟨oc, od, dt, sl⟩ := o
    cases oc with
    | type t =>
      cases dt with
      | cls cd =>
        obtain ⟨nm, bs, mro, ns, q, hd, sn, sb, ab, col, del⟩ := cd
        dsimp only at h
        obtain ⟨sl⟩ := sl
        dsimp only at h
        match mro, sl, h with
        | .ref C' :: bm, [k0, k1, k2, k3, some (.builtin n), k5], h =>
          obtain ⟨h1, h⟩ := ba h
          obtain ⟨h2, h⟩ := ba h
          obtain ⟨h3, h⟩ := ba h
          obtain ⟨h4, h⟩ := ba h
          obtain ⟨h5, h6⟩ := ba h
          have e1 := of_decide_eq_true h1
          have e2 := of_decide_eq_true h2
          have e3 := of_decide_eq_true h3
          subst e1 e2 e3
          have e4 : del = false := by simpa using h4
          subst e4
          subst h5
          exact ⟨_, _, _, _, _, _, _, _, _, _, _, _, _, _, _, rfl, h6⟩
      | _ => cases h
    | _ => cases h
inductive Fy where
  | fa (f : Fa)
  | xc (x : Str)
  | xo
  | ini (x : Str)
  | kit (x y : Str) (b : Bool)
  | kitT (x : Str) (T : String) (b : Bool)
  | names (x : Str) (zs : List Str)
def Fy.ok (K : Fg) : Fy → Bool
  | .fa f => f.ok K
  | .xc x => excB K (ga K x) && (eqO (PySem.W.findIn K (.ref (ga K x)) "__setattr__") (some (some (.builtin "object.__setattr__"))) && (decide (PySem.W.subIn K (.ref (ga K x)) (.type "BaseException") = some true) && (decide (PySem.W.typeIn K (.ref (ga K x)) = some (.type "type")) &&
      (PySem.W.keepIn K (.ref (ga K x)) && (eqO (PySem.W.findIn K (.ref (ga K x)) "__getattribute__") (some (some (.builtin "BaseException.__getattribute__"))) && (eqO (PySem.W.findIn K (.ref (ga K x)) "__getattr__") (some none) &&
      (PySem.W.hasDictIn K (ga K x) && (eqO (PySem.W.findIn K (.ref (ga K x)) "__class__") (some (some (.builtin "object.__class__"))) && decide (PySem.W.mroIn K (ga K x) (.type "object") = some true)))))))))
  | .xo => eqO (PySem.W.specialIn K (.builtin "object.__class__") "__get__") (some (some (.builtin "getset_descriptor.__get__"))) && decide (PySem.W.takesIn K (.builtin "object.__class__") = some true)
  | .ini x => eqO (PySem.W.findIn K (.ref (ga K x)) "__init__") (some (some (.ref (ma K (ga K x) "__init__")))) && decide (PySem.W.typeIn K (.ref (ma K (ga K x) "__init__")) = some (.type "function"))
  | .kit x y b => decide (PySem.W.kitOne K (.ref (ga K x)) (.ref (ga K y)) = some b)
  | .kitT x T b => decide (PySem.W.kitOne K (.ref (ga K x)) (.type T) = some b)
  | .names x zs => zs.all fun z => eqO (PySem.W.findIn K (.ref (ga K x)) z) (some none)
section
variable {K : Fg} {h : Heap} {mg : Str → Option Value}
theorem xc_ok {x : Str} (c : (Fy.xc x).ok K = true) : XC K (ga K x) := by
  obtain ⟨c1, c⟩ := ba c
  obtain ⟨c2, c⟩ := ba c
  obtain ⟨c3, c⟩ := ba c
  obtain ⟨c4, c⟩ := ba c
  obtain ⟨c5, c⟩ := ba c
  obtain ⟨c6, c⟩ := ba c
  obtain ⟨c7, c⟩ := ba c
  obtain ⟨c8, c⟩ := ba c
  obtain ⟨c9, c10⟩ := ba c
  exact ⟨⟨excB_ok c1, eqO_ok c2, of_decide_eq_true c3, of_decide_eq_true c4, c5⟩, eqO_ok c6, eqO_ok c7, c8, eqO_ok c9, of_decide_eq_true c10⟩
theorem xo_ok (c : Fy.xo.ok K = true) : XO K := by
  unfold Fy.ok at c
  obtain ⟨c1, c2⟩ := ba c
  exact ⟨eqO_ok c1, of_decide_eq_true c2⟩
theorem ini_ok {x : Str} (c : (Fy.ini x).ok K = true) : PySem.W.findIn K (.ref (ga K x)) "__init__" = some (some (.ref (ma K (ga K x) "__init__"))) ∧ PySem.W.typeIn K (.ref (ma K (ga K x) "__init__")) = some (.type "function") := by
  obtain ⟨c1, c2⟩ := ba c
  exact ⟨eqO_ok c1, of_decide_eq_true c2⟩
theorem kit_ok {x y : Str} {b : Bool} (c : (Fy.kit x y b).ok K = true) : PySem.W.kitOne K (.ref (ga K x)) (.ref (ga K y)) = some b := of_decide_eq_true c
theorem kitT_ok {x : Str} {T : String} {b : Bool} (c : (Fy.kitT x T b).ok K = true) : PySem.W.kitOne K (.ref (ga K x)) (.type T) = some b := of_decide_eq_true c
theorem names_ok {x : Str} {zs : List Str} (c : (Fy.names x zs).ok K = true) {z : Str} (hz : z ∈ zs) : PySem.W.findIn K (.ref (ga K x)) z = some none := eqO_ok (List.all_eq_true.mp c z hz)
end
/-! ### the hook: any truths of the written part, in groups -/
abbrev Fz := List (Fg → Bool)
def obsY (fs : Fz) (fn : List DefD) (K : Fg) : AlD := ((fs.all fun f => f K) && fn.all fun d => d.ok K, fn.map fun d => fnW K d.at_)
def SaysY (fs : Fz) (fn : List DefD) (K : Fg) : Prop := obsY fs fn K = valD fn
def obsYG (n : Nat) (fs : Fz) (fn : List DefD) (g : Addr → Option Obj) : AlD := obsY fs fn (frG g (asD g n))
def hookY (n : Nat) (fs : Fz) (fn : List DefD) : PySem.W.Hook where
  α := AlD
  obs := fun s => obsYG n fs fn s.heap.get?
  val := fun _ => valD fn
  says := fun _ h => ∃ K : Fg, K.In h ∧ SaysY fs fn K
  of := fun _ _ e => ⟨_, frG_in, e⟩
  keeps := fun _ _ _ ⟨K, hK, c⟩ k => ⟨K, PySem.W.Frag.In.keeps hK k, c⟩
theorem obsYG_eq {n : Nat} {fs : Fz} {fn : List DefD} {g : Addr → Option Obj} {s : Shared} (h : ∀ a, g a = s.heap.get? a) : obsYG n fs fn g = (hookY n fs fn).obs s := by
  have e : g = s.heap.get? := funext h
  rw [e] <;> rfl
section
variable {fs : Fz} {fn : List DefD} {K : Fg}
theorem SaysY.fact (c : SaysY fs fn K) (i : Nat) {f : Fg → Bool} (h : fs[i]? = some f := by rfl) : f K = true := by
  have c1 := (ba (show ((fs.all fun f => f K) && fn.all fun d => d.ok K) = true from congrArg (fun z : AlD => z.1) c)).1
  exact List.all_eq_true.mp c1 f (List.mem_of_getElem? h)
theorem SaysY.def_ (c : SaysY fs fn K) (i : Nat) {d : DefD} (h : fn[i]? = some d := by rfl) : ∃ fd, FunD K d.name d.qual d.params d.body d.scope (d.dvs K) (d.kws K) (fAd K d.at_) fd := by
  have c2 := (ba (show ((fs.all fun f => f K) && fn.all fun d => d.ok K) = true from congrArg (fun z : AlD => z.1) c)).2
  have e : fn.map (fun d => fnW K d.at_) = fn.map DefD.val := congrArg (fun z : AlD => z.2) c
  have e2 : (fn.map fun d => fnW K d.at_)[i]? = (fn.map DefD.val)[i]? := by rw [e]
  rw [List.getElem?_map, List.getElem?_map, h] at e2
  exact DefD.funD (Option.some.inj e2) (List.all_eq_true.mp c2 d (List.mem_of_getElem? h))
/-- a group told of each item of a list -/
theorem of_all {α : Type} {l : List α} {f : α → Bool} (h : l.all f = true) {x : α} (hx : x ∈ l) : f x = true := List.all_eq_true.mp h x hx
end
/-! ### defs as data -/
abbrev FnP (K : Fg) (x qual : Str) (st : Stmt) (f : Addr) (fd : FuncData) : Prop := FunD K x qual (defArgs st) (defBody st) (defScope st) [] [] f fd
theorem _root_.L2.FunD.okG {P : Program} {w : World} {K : Fg} {mg : Str → Option Value} {base : Heap} {CX : CXT} {x qual : Str} {params : Arguments} {body : List Stmt} {scope : Scope} {dvs : List V} {kws : List (Str × V)} {f : Addr} {fd : FuncData} {N ps : List Str} {k : Nat} {sp : Sp}
    (F : FunD K x qual params body scope dvs kws f fd) (S : FnScope N ps scope) (len : ∀ vs H Q E, sp vs H Q E → vs.length = ps.length)
    (hbody : ∀ (cdv : Value) (A : Around) (outer : List Env) (s : Shared) (H : Hp) (vs : List V) (Q : VK) (E : XK), Room k (A.deeper (envOfC qual scope s.heap.objs.size f cdv)) → NoG (A.deeper (envOfC qual scope s.heap.objs.size f cdv)) → sp vs H Q E →
      ∃ t, PSs (cxOf CX P w K mg base N qual scope f cdv A outer s H E) body t ∧ t { nx := fun _ H' => Q .non H', rt := Q } (start N vs) H) : FnG P w K mg base CX (k + 1) f fd ps sp := by
  obtain ⟨oc, od, dV, kV, doc, pm, an, cdv, ct, osl, rfl, lk, hcd, _, _⟩ := F.ex
  exact fng lk hcd S len fun A outer s H vs Q E hr hg hsp => hbody cdv A outer s H vs Q E hr hg hsp
/-! ### the law's end over facts -/
theorem walk_ofEG {l : PySem.W.OpenLaw} {n k : Nat} {q : Program} {loose : List Str} {XP : (Str → Option Value) → Heap → Prop} {YP : World → Heap → Prop} {d : DefRec} {CX : CXT} {x : Str}
    (hn : l.most = some n) (hn2 : n ≤ sizeLine) (hdf : d.params.defaults = []) (hr : Room k callerA)
    (F : ∀ (w : World) (mg : Str → Option Value) (fa : Addr) (h : Heap), YP w h → h.Ns mainGlobals mg → mg d.name = some (.ref fa) →
      ∃ (K : Fg) (fd : FuncData) (sp : Sp), K.In h ∧ (∀ (s : Shared) (u : Value), BindsTo s fd ⟨[u], []⟩ [(x, u)]) ∧
        (∀ (H : Hp) (a : Addr) (ns : List Int), ns.length ≤ n → Only H → SqL K H a (ns.map V.int) → sp [.ref a] H (fun v _ => v = .bl true) fun _ _ _ => False) ∧
        ∀ base : Heap, K.In base → base.Ns mainGlobals mg → FnG l.prog w K mg base CX k fa fd [x] sp)
    (hCX : ∀ (H : Hp) (s : Shared) (e : Value) (s' : Shared), CX [] H s (fun _ _ _ => False) e s' → False) :
    PySem.W.WalkO q loose XP YP l.row.toRowW d [] (fun f vs => PySem.call f vs) := by
  refine Att.attach_call hn hdf fun w s₀ s₁ mg mb fa o pm cd doc a vs ns G Y ho hd hcd hmg hobj hints hlen hg => ?_
  obtain ⟨K, fd, sp, KX, hb, hsp, hF⟩ := F w mg fa _ Y G.T.g hmg
  exact law_endG KX G.T.g G.T.b G.T.builtins G.T.nolimit hg hobj hints (Nat.le_trans hlen hn2) hr hF hb (fun H hO hS => hsp H a ns hlen hO hS) fun H e s' => hCX H s₁ e s'
end Tw
/-! Tw: new objects, told by what holds of the heap behind them alone. -/
namespace Tw
open PySem PySem.Spec PyProof.Rows L2
theorem same_new {H : Hp} {p : Addr} {o : HO} (h : H p = none) : Same H (upd H p o) := fun b u e => by
  rw [upd_ne (ne_of_none e h)]
  exact e
section
variable {X : Cx} {es : List Expr} {t : TA} {pos : Pos}
/-- a new object o: its place, the heap behind -/
def New (H : Hp) (o : HO) (Q : Addr → Hp → Prop) : Prop := ∀ (p : Addr) (H' : Hp), H p = none → p ≠ sysModules → Same H H' → H' p = some o → Q p H'
theorem New.at {H : Hp} {o : HO} {Q : Addr → Hp → Prop} (h : New H o Q) {p : Addr} (h1 : H p = none) (h2 : p ≠ sysModules) : Q p (upd H p o) := h p _ h1 h2 (same_new h1) upd_same
def tLstN (t : TA) : TE := fun σ H Q => t σ H fun xs H1 => xs.length ≤ sizeLine ∧ New H1 (.lst xs) fun p H' => Q (.ref p) H'
theorem pe_lstN (h : PA X es t) : PE X (.List es pos) (tLstN t) := by
  refine ⟨fun pins s σ H Q I hq => wpAny_List_spliced (thn (h.run pos pins s σ H _ I hq) fun us s1 ⟨xs, H1, I1, r, z, q⟩ => ⟨by rw [← r.length]; exact z, ?_⟩)⟩
  exact ⟨.ref s1.heap.objs.size, upd H1 s1.heap.objs.size (.lst xs), I1.laid (t' := s1.toks) (fun b u e => Heap.get?_push_of_some _ e) (Nat.le_refl _) ⟨z, us, 0, r, Heap.get?_push_size _ rfl⟩, rfl, q.at (I1.hok.fresh (Nat.le_refl _)) (Nat.ne_of_gt I1.big)⟩
def tTupN (t : TA) : TE := fun σ H Q => t σ H fun xs H1 => xs.length ≤ sizeLine ∧ ∀ (p : Addr) (H' : Hp), H1 p = none → Same H1 H' → H' p = some (.tup xs) → Q (.ref p) H'
theorem pe_tupN {x1} (h : PA X es t) : PE X (.Tuple es x1 pos) (tTupN t) := by
  refine ⟨fun pins s σ H Q I hq => wpAny_Tuple_spliced (thn (h.run pos pins s σ H _ I hq) fun us s1 ⟨xs, H1, I1, r, z, q⟩ => ⟨by rw [← r.length]; exact z, ?_⟩)⟩
  have hf : H1 s1.heap.objs.size = none := I1.hok.fresh (Nat.le_refl _)
  exact ⟨.ref s1.heap.objs.size, upd H1 s1.heap.objs.size (.tup xs), I1.laid (t' := s1.toks) (fun b u e => Heap.get?_push_of_some _ e) (Nat.le_refl _) ⟨z, us, r, _, Heap.get?_push_size _ rfl, rfl, 0, rfl⟩, rfl, q _ _ hf (same_new hf) upd_same⟩
def tDnewN : TE := fun _ H Q => New H (.dK []) fun p H' => Q (.ref p) H'
theorem pe_dnewN : PE X (.Dict [] [] pos) tDnewN := ⟨fun pins s σ H Q I h =>
  wpAny_Dict_empty ⟨.ref s.heap.objs.size, _, I.laid (a := s.heap.objs.size) (o := .dK []) (t' := s.toks) (fun _ _ q => Heap.get?_push_of_some _ q) (Nat.le_refl _) (dk_empty s.heap I.big), rfl, h.at (I.hok.fresh (Nat.le_refl _)) (Nat.ne_of_gt I.big)⟩⟩
def rCatN : R2 := fun x y H Q => ∃ l b xs zs, x = .ref l ∧ y = .ref b ∧ H l = some (.lst xs) ∧ H b = some (.lst zs) ∧ xs.length + zs.length ≤ sizeLine ∧ New H (.lst (xs ++ zs)) fun p H' => Q (.ref p) H'
theorem op_catN : OpR X (binaryOp .Add) rCatN := by
  intro pins s σ H x y v u Q I rx ry h
  obtain ⟨l, b, xs, zs, rfl, rfl, hH, hB, hz, q⟩ := h
  cases rx
  cases ry
  obtain ⟨z, its, n, r, hl, e⟩ := I.lstM hH
  obtain ⟨z2, its2, n2, r2, hl2, e2⟩ := I.lstM hB
  refine PySem.P.add_list e e2 ?_ (by rw [List.size_toArray, List.size_toArray]; omega)
  rw [show its.toArray ++ its2.toArray = (its ++ its2).toArray by simp]
  exact ⟨.ref _, _, I.lnew (t' := s.toks) (r.append r2) (by rw [List.length_append]; omega), rfl, q.at I.fresh (Nat.ne_of_gt I.big)⟩
end
end Tw
namespace Tw
open PySem PySem.Spec PyProof.Rows L2
theorem room70 {k : Nat} {A : Around} (r : Room k A) : A.units + 70 < cLine := by
  have := r.un
  omega
section
variable {X : Cx} {K : PySem.W.Frag}
theorem ixl (K : PySem.W.Frag) (h : X.K = K := by rfl) : IxR X (rIxL K) := by
  subst h
  exact ix_list
theorem ixt (K : PySem.W.Frag) (h : X.K = K := by rfl) : IxR X (rIxT K) := by
  subst h
  exact ix_tup
end
end Tw
/-! Tw, part 5: the pen that draws. -/
namespace Tw
open PySem PySem.Spec PyProof.Rows L2 He
/-- a statement, what holds behind it on every way, the rest once -/
def tMid (t u : TS) : TS := fun D σ H => ∃ W : L2.St → Hp → Prop, t { D with nx := W } σ H ∧ ∀ σ' H', W σ' H' → u D σ' H'
theorem pss_mid {X : Cx} {st : Stmt} {rest : List Stmt} {t u : TS} (h1 : PS X st t) (h2 : PSs X rest u) : PSs X (st :: rest) (tMid t u) :=
  ⟨fun pins s σ H D I ⟨W, hm, hu⟩ => wpAny_execs_cons (thn (h1.run pins s σ H { D with nx := W } I hm) fun f s1 q => match f, q with
    | .next, ⟨σ', H', I', q⟩ => h2.run pins s1 σ' H' D I' (hu σ' H' q)
    | .ret _, q => q
    | .brk, q => q
    | .cont, q => q)⟩
/-- all that was tracked but p stands -/
def But (p : Addr) (H H' : Hp) : Prop := ∀ b o, H b = some o → b ≠ p → H' b = some o
theorem But.refl {p : Addr} (H : Hp) : But p H H := fun _ _ e _ => e
theorem But.trans {p : Addr} {H H1 H2 : Hp} (a : But p H H1) (b : But p H1 H2) : But p H H2 := fun c o e h => b c o (a c o e h) h
theorem But.of {p : Addr} {H H' : Hp} (e : Same H H') : But p H H' := fun b o h _ => e b o h
theorem But.upd {p : Addr} {H : Hp} {o : HO} : But p H (upd H p o) := fun b u e h => by
  rw [upd_ne h]
  exact e
/-- the pen: the script's ints, the number of draws so far, what is left of a great number -/
def PenAt (H : Hp) (p : Addr) (c : Nat) : Prop := ∃ (l : Addr) (ns : List Int) (i g : Int), H p = some (.lst [.ref l, .int i, .int g]) ∧ H l = some (.lst (ns.map V.int)) ∧ l ≠ p ∧ ns.length ≤ 63 ∧ 0 ≤ i ∧ i ≤ (c : Int) ∧ 0 ≤ g
theorem PenAt.mono {H : Hp} {p : Addr} {c c' : Nat} (h : PenAt H p c) (hc : c ≤ c') : PenAt H p c' := by
  obtain ⟨l, ns, i, g, h1, h2, h3, h4, h5, h6, h7⟩ := h
  exact ⟨l, ns, i, g, h1, h2, h3, h4, h5, by omega, h7⟩
theorem PenAt.same {H H' : Hp} {p : Addr} {c : Nat} (e : Same H H') (h : PenAt H p c) : PenAt H' p c := by
  obtain ⟨l, ns, i, g, h1, h2, h3⟩ := h
  exact ⟨l, ns, i, g, e _ _ h1, e _ _ h2, h3⟩
/-- a draw: below many, the pen one further, nothing else touched -/
def spDraw : Sp := fun vs H Q _ => ∃ (p : Addr) (m : Int) (c : Nat), vs = [.ref p, .int m] ∧ 0 < m ∧ m < 1073741824 ∧ PenAt H p c ∧ c ≤ 1000000 ∧
  ∀ (r : Int) (H' : Hp), 0 ≤ r → r < m → PenAt H' p (c + 1) → But p H H' → Q (.int r) H'
theorem dp_ints {K : Fg} {H : Hp} : ∀ ns : List Int, DpAll K H (ns.map V.int) (ns.map PyData.int)
  | [] => .nil
  | n :: ns => .cons (.int n) (dp_ints ns)
theorem lay_ints : ∀ ns : List Int, PyData.canLayAll0 (ns.map PyData.int) = true ∧ PyData.depthAll (ns.map PyData.int) = 0
  | [] => ⟨rfl, rfl⟩
  | n :: ns => by
    obtain ⟨h1, h2⟩ := lay_ints ns
    constructor
    · simp only [List.map_cons, PyData.canLayAll0, PyData.canLay0, h1, Bool.and_self]
    · simp only [List.map_cons, PyData.depthAll, PyData.depth, h2, Nat.max_self]
theorem shaped_ints (ns : List Int) : SeqAt.shaped (.list (ns.map PyData.int)) = true := by
  obtain ⟨h1, h2⟩ := lay_ints ns
  simp [SeqAt.shaped, PyData.canLay0, PyData.depth, h1, h2]
theorem atI_of {xs : List V} {i : Int} {v : V} (h0 : 0 ≤ i) (h : xs[i.toNat]? = some v) : atI xs i = some v := by
  have e : i = (i.toNat : Int) := (Int.toNat_of_nonneg h0).symm
  rw [e]
  exact atI_nat h
theorem mul_le' {a b A B : Int} (h1 : 0 ≤ a) (h2 : a ≤ A) (h3 : 0 ≤ b) (h4 : b ≤ B) : 0 ≤ a * b ∧ a * b ≤ A * B :=
  ⟨Int.mul_nonneg h1 h3, Int.mul_le_mul h2 h4 h3 (Int.le_trans h1 h2)⟩
theorem pow_ok (i : Int) (h0 : 0 ≤ i) (h : i < 2 ^ 64) : i.natAbs < 2 ^ 64 := by omega
end Tw
namespace Tw
open PySem PySem.Spec PyProof.Rows L2 He
theorem But.seq {K : Fg} {p a : Addr} {H H' : Hp} {xs : List V} (e : But p H H') (hne : a ≠ p) (h : SqL K H a xs) : SqL K H' a xs := by
  rcases h with (h | ⟨o, h⟩) | h
  · exact .inl (.inl (e _ _ h hne))
  · exact .inl (.inr ⟨o, e _ _ h hne⟩)
  · exact .inr h
theorem cut_ints (ns : List Int) (lo hi : Option Int) : ∃ ms : List Int, cutV (ns.map V.int) lo hi = ms.map V.int ∧ ms.length ≤ ns.length := by
  refine ⟨(ns.drop (HT.sIx (ns.map V.int).length 0 lo)).take (HT.sIx (ns.map V.int).length (ns.map V.int).length hi - HT.sIx (ns.map V.int).length 0 lo), ?_, ?_⟩
  · unfold cutV
    rw [List.map_take, List.map_drop]
  · rw [List.length_take, List.length_drop]
    omega
/-- a new pen -/
def spPen (K : Fg) : Sp := fun vs H Q _ => ∃ (a : Addr) (ns : List Int), vs = [.ref a] ∧ SqL K H a (ns.map V.int) ∧ ns.length ≤ 63 ∧ ∀ (p : Addr) (H' : Hp), H p = none → PenAt H' p 0 → Same H H' → Q (.ref p) H'
/-- an item of a list that is not the pen, drawn -/
def spPick (K : Fg) : Sp := fun vs H Q _ => ∃ (p q : Addr) (xs : List V) (c : Nat), vs = [.ref p, .ref q] ∧ SqL K H q xs ∧ q ≠ p ∧ 0 < xs.length ∧ xs.length < 1000 ∧ PenAt H p c ∧ c ≤ 1000000 ∧
  ∀ (v : V) (H' : Hp), v ∈ xs → PenAt H' p (c + 1) → But p H H' → Q v H'
/-- the heap without the pen -/
def hid (p : Addr) (H : Hp) : Hp := fun b => if b = p then none else H b
theorem hid_ne {p b : Addr} {H : Hp} (h : b ≠ p) : hid p H b = H b := if_neg h
theorem hid_same {p : Addr} {H : Hp} : Same (hid p H) H := fun b o e => by
  unfold hid at e
  split at e
  · cases e
  · exact e
theorem hid_but {p : Addr} {H H' : Hp} (e : But p H H') : Same (hid p H) (hid p H') := fun b o h => by
  unfold hid at h ⊢
  split at h
  · cases h
  · rename_i hb
    rw [if_neg hb]
    exact e b o h hb
theorem sqT_same {K : Fg} {H H' : Hp} {a : Addr} {xs : List V} (e : Same H H') (h : SqT K H a xs) : SqT K H' a xs := by
  rcases h with (h | ⟨o, h⟩) | h
  · exact .inl (.inl (e _ _ h))
  · exact .inl (.inr ⟨o, e _ _ h⟩)
  · exact .inr h
mutual
theorem Dx.same {K : Fg} {H H' : Hp} (e : Same H H') : ∀ {v : V} {d : PyData}, Dx K H v d → Dx K H' v d
  | _, _, .non => .non
  | _, _, .bl b => .bl b
  | _, _, .int i => .int i
  | _, _, .str x => .str x
  | _, _, .lst h n a => .lst (e.seq h) n (DxAll.same e a)
  | _, _, .tup h a => .tup (sqT_same e h) (DxAll.same e a)
  | _, _, .dic h a => .dic (e _ _ h) (DxAll.same e a)
theorem DxAll.same {K : Fg} {H H' : Hp} (e : Same H H') : ∀ {vs : List V} {ds : List PyData}, DxAll K H vs ds → DxAll K H' vs ds
  | _, _, .nil => .nil
  | _, _, .cons h t => .cons (Dx.same e h) (DxAll.same e t)
end
theorem sz1000 {n : Nat} (h : n ≤ 1000) : n ≤ sizeLine := Nat.le_trans h (by decide)
end Tw
namespace K01
open PySem PySem.Spec PyProof.Rows L2 He Tw
def topS (i : Nat) : Stmt := PySem.Challenge.pw_twoheads_k01_errors.main.body.getD i (.Pass ⟨0, 0, 0, 0⟩)
def excs : List (Str × Nat) := [("BadItem", 5), ("BadPlace", 6), ("Disordered", 7), ("BadTest", 8), ("BadWalk", 9), ("BadText", 10), ("BadName", 11), ("Behind", 12), ("Unlike", 13), ("Endless", 14), ("Unfit", 15), ("TooMany", 16), ("TooLarge", 17), ("NotNow", 18)]
def dE (p : Str × Nat) : DefD := ⟨(p.1, some "__init__"), "__init__", p.1 ++ ".__init__", defArgs (inClass (topS p.2) 0), defBody (inClass (topS p.2) 0), defScope (inClass (topS p.2) 0), [], []⟩
def dF (x : Str) (i : Nat) : DefD := ⟨(x, none), x, x, defArgs (topS i), defBody (topS i), defScope (topS i), [], []⟩
def clss : List Str := (["HeadsError", "BadInput", "Fall", "Refused"] : List Str) ++ excs.map (·.1)
def fnames : List Str := ["_law_pen", "_law_draw", "_law_pick", "_law_value", "_law_bases", "_law_kinds", "_law_right", "_law_inputs", "_law_others", "law"]
def fields : List Str := ["part", "at", "word", "reason", "line", "row", "name", "side", "claim", "most", "what"]
def blts : List Str := ["list", "int", "len", "abs", "isinstance", "repr", "range", "ValueError"]
def fn : List DefD := excs.map dE ++ [dF "_law_pen" 20, dF "_law_draw" 21, dF "_law_pick" 22, dF "_law_value" 23, dF "_law_bases" 24, dF "_law_kinds" 25, dF "_law_right" 26, dF "_law_inputs" 27, dF "_law_others" 28, dF "law" 29]
def isIn (e : Str × Nat) (y : Str) : Bool := decide (y = e.1) || decide (y = "HeadsError") || (decide (e.2 ≤ 11) && decide (y = "BadInput")) || (decide (12 ≤ e.2 ∧ e.2 ≤ 14) && decide (y = "Fall")) || (decide (15 ≤ e.2) && decide (y = "Refused"))
def fs : Fz := [fun K => clss.all fun x => (Fa.glo x).ok K, fun K => excs.all fun e => (Fy.xc e.1).ok K, fun K => Fy.xo.ok K, fun K => excs.all fun e => (Fy.ini e.1).ok K, fun K => excs.all fun e => (Fy.names e.1 fields).ok K,
  fun K => excs.all fun e => clss.all fun y => (Fy.kit e.1 y (isIn e y)).ok K, fun K => excs.all fun e => (Fy.kitT e.1 "ValueError" true).ok K, fun K => fnames.all fun x => (Fa.glo x).ok K, fun K => blts.all fun x => (Fa.free x).ok K]
/-- what the walk asks of the written part and of the module's names -/
structure Txt (K : Fg) (mg : Str → Option Value) : Prop where
  c : SaysY fs fn K
  gl : ∀ x, (Fa.glo x).ok K = true → mg x = some (.ref (ga K x))
  fr : ∀ x, (Fa.free x).ok K = true → mg x = none
section
variable {K : Fg} {mg : Str → Option Value}
theorem Txt.cl (T : Txt K mg) {x : Str} (h : x ∈ clss) : mg x = some (.ref (ga K x)) := T.gl x (of_all (f := fun x => (Fa.glo x).ok K) (T.c.fact 0) h)
theorem Txt.xc (T : Txt K mg) {e : Str × Nat} (h : e ∈ excs) : XC K (ga K e.1) := xc_ok (of_all (f := fun e => (Fy.xc e.1).ok K) (T.c.fact 1) h)
theorem Txt.xo (T : Txt K mg) : XO K := xo_ok (T.c.fact 2)
theorem Txt.ini (T : Txt K mg) {e : Str × Nat} (h : e ∈ excs) : PySem.W.findIn K (.ref (ga K e.1)) "__init__" = some (some (.ref (ma K (ga K e.1) "__init__"))) ∧ PySem.W.typeIn K (.ref (ma K (ga K e.1) "__init__")) = some (.type "function") := ini_ok (of_all (f := fun e => (Fy.ini e.1).ok K) (T.c.fact 3) h)
theorem Txt.no (T : Txt K mg) {e : Str × Nat} (h : e ∈ excs) {z : Str} (hz : z ∈ fields) : PySem.W.findIn K (.ref (ga K e.1)) z = some none := names_ok (of_all (f := fun e => (Fy.names e.1 fields).ok K) (T.c.fact 4) h) hz
theorem Txt.kit (T : Txt K mg) {e : Str × Nat} (h : e ∈ excs) {y : Str} (hy : y ∈ clss) : PySem.W.kitOne K (.ref (ga K e.1)) (.ref (ga K y)) = some (isIn e y) := kit_ok (of_all (f := fun y => (Fy.kit e.1 y (isIn e y)).ok K) (of_all (f := fun e => clss.all fun y => (Fy.kit e.1 y (isIn e y)).ok K) (T.c.fact 5) h) hy)
theorem Txt.ve (T : Txt K mg) {e : Str × Nat} (h : e ∈ excs) : PySem.W.kitOne K (.ref (ga K e.1)) (.type "ValueError") = some true := kitT_ok (of_all (f := fun e => (Fy.kitT e.1 "ValueError" true).ok K) (T.c.fact 6) h)
theorem Txt.fn (T : Txt K mg) {x : Str} (h : x ∈ fnames) : mg x = some (.ref (ga K x)) := T.gl x (of_all (f := fun x => (Fa.glo x).ok K) (T.c.fact 7) h)
theorem Txt.bl (T : Txt K mg) {x : Str} (h : x ∈ blts) : mg x = none := T.fr x (of_all (f := fun x => (Fa.free x).ok K) (T.c.fact 8) h)
end
abbrev s_draw : Stmt := topS 21
abbrev N_draw : List Str := ["_law_pen_here", "_law_many", "_law_digit", "_law_at", "_law_cell", "_law_great", "_law_mixed"]
theorem sc_draw : FnScope N_draw ["_law_pen_here", "_law_many"] (defScope s_draw) := ⟨rfl, rfl, rfl, by decide +kernel, rfl, by decide +kernel, by decide +kernel⟩
section
variable {P : Program} {w : World} {K : Fg} {mg : Str → Option Value} {base : Heap}
theorem ok_draw {f : Addr} {fd : FuncData} (F : FnP K "_law_draw" "_law_draw" s_draw f fd) (T : Txt K mg) : FnOk P w K mg base CX0 1 f fd ["_law_pen_here", "_law_many"] spDraw := by
  have zint : mg "int" = none := T.bl (by decide +kernel)
  have zlen : mg "len" = none := T.bl (by decide +kernel)
  have zabs : mg "abs" = none := T.bl (by decide +kernel)
  refine F.ok sc_draw (fun vs H Q E h => ?_) (fun cdv A outer s H vs Q E hr h => ?_)
  · obtain ⟨p, m, c, rfl, _⟩ := h
    rfl
  · obtain ⟨p, m, c, rfl, hm0, hm1, ⟨l, ns, i, g, hp, hl, hlp, hn, hi0, hic, hg0⟩, hc, k⟩ := h
    have hsp : SqL K H p [.ref l, .int i, .int g] := SqL.of hp
    have hsl : SqL K H l (ns.map V.int) := SqL.of hl
    refine ⟨_, PSs.nox (pss_cons (ps_if (pt_cmpR op_gt (pe_ix ix_list (pv 0) pe_int (fun _ _ => rfl)) pe_int (nomark _)) (pss_cons (ps_set (i := 2) sc_draw.nd rfl (Or.inl rfl) (pe_op op_mod (pe_callTy call_int1 (by rfl) zint (by decide +kernel) (pa_cons (pe_ix ix_list (pv 0) pe_int (fun _ _ => rfl)) pa_nil)) (pv 1)))
    (pss_cons (ps_asg (pe_op op_fdiv (pe_callTy call_int1 (by rfl) zint (by decide +kernel) (pa_cons (pe_ix ix_list (pv 0) pe_int (fun _ _ => rfl)) pa_nil)) (pv 1)) (pg_sub (pv 0) pe_int set_list))
    (pss_one (ps_ret (pv 2))))) pss_nil)
    (pss_cons (ps_set (i := 3) sc_draw.nd rfl (Or.inl rfl) (pe_ix ix_list (pv 0) pe_int (fun _ _ => rfl)))
    (pss_cons (ps_asg (pe_op op_add (pv 3) pe_int) (pg_sub (pv 0) pe_int set_list))
    (pss_cons (ps_set (i := 4) sc_draw.nd rfl (Or.inl rfl) (pe_op op_add (pe_op op_mul pe_int (pv 3)) pe_int))
    (pss_mid (ps_if (pt_cmpR (op_neD hr.units) (pe_ix ix_list (pv 0) pe_int (fun _ _ => rfl)) (pe_lst pa_nil) (nomark _)) (pss_one (ps_set (i := 4) sc_draw.nd rfl (Or.inl rfl) (pe_ix ix_list (pe_ix ix_list (pv 0) pe_int (fun _ _ => rfl)) (pe_op op_mod (pe_callTy call_int1 (by rfl) zint (by decide +kernel) (pa_cons (pv 3) pa_nil)) (pe_callB call_len (by rfl) zlen (by decide +kernel) (pa_cons (pe_ix ix_list (pv 0) pe_int (fun _ _ => rfl)) pa_nil))) (fun _ _ => rfl)))) pss_nil)
    (pss_mid (ps_if (PW.pt (pw_and (pt_cmpR op_lt (pv 3) (pe_callB call_len (by rfl) zlen (by decide +kernel) (pa_cons (pe_ix ix_list (pv 0) pe_int (fun _ _ => rfl)) pa_nil)) (nomark _)) (pw_and1 (pt_cmpR op_ge (pe_callB call_abs (by rfl) zabs (by decide +kernel) (pa_cons (pv 4) pa_nil)) (pe_op op_pow pe_int pe_int) (nomark _))))) (pss_cons (ps_set (i := 5) sc_draw.nd rfl (Or.inl rfl) (pe_op op_add (pe_op op_mul pe_int (pe_op op_sub (pe_callB call_abs (by rfl) zabs (by decide +kernel) (pa_cons (pv 4) pa_nil)) (pe_op op_pow pe_int pe_int))) (pe_callTy call_int1 (by rfl) zint (by decide +kernel) (pa_cons (pe_cmpR op_lt (pv 4) pe_int (nomark _)) pa_nil))))
    (pss_cons (ps_asg (pe_op op_fdiv (pe_callTy call_int1 (by rfl) zint (by decide +kernel) (pa_cons (pv 5) pa_nil)) (pv 1)) (pg_sub (pv 0) pe_int set_list))
    (pss_one (ps_ret (pe_op op_mod (pe_callTy call_int1 (by rfl) zint (by decide +kernel) (pa_cons (pv 5) pa_nil)) (pv 1)))))) pss_nil)
    (pss_mid (ps_set (i := 6) sc_draw.nd rfl (Or.inl rfl) (pe_op op_mod (pe_callTy call_int1 (by rfl) zint (by decide +kernel) (pa_cons (pe_op op_pow (pe_op op_add (pe_op op_add (pe_op op_mod (pe_callTy call_int1 (by rfl) zint (by decide +kernel) (pa_cons (pv 4) pa_nil)) pe_int) (pe_op op_mul pe_int (pv 3))) pe_int) pe_int) pa_nil)) pe_int))
    (pss_mid (ps_set (i := 6) sc_draw.nd rfl (Or.inl rfl) (pe_op op_mod (pe_callTy call_int1 (by rfl) zint (by decide +kernel) (pa_cons (pe_op op_pow (pe_op op_add (pe_op op_add (pe_op op_mul (pv 6) (pe_op op_add (pe_op op_mul pe_int (pv 3)) pe_int)) (pe_op op_mul (pe_op op_mul pe_int (pv 3)) (pv 3))) pe_int) pe_int) pa_nil)) pe_int))
    (pss_one (ps_ret (pe_op op_mod (pe_callTy call_int1 (by rfl) zint (by decide +kernel) (pa_cons (pe_op op_fdiv (pv 6) pe_int) pa_nil)) (pv 1)))))))))))), ?_⟩
    -- if pen[2] > 0
    refine ⟨_, rfl, p, _, 2, .int g, rfl, rfl, hsp, rfl, _, _, rfl, rfl, _, rfl, ?_⟩
    refine ite2 (fun hgt => ?_) (fun hle => ?_)
    · refine ⟨_, rfl, p, _, 2, .int g, rfl, rfl, hsp, rfl, .inl ⟨g, rfl, _, rfl, g, m, rfl, rfl, hm0, ?_⟩⟩
      refine ⟨_, rfl, p, _, 2, .int g, rfl, rfl, hsp, rfl, .inl ⟨g, rfl, _, rfl, g, m, rfl, rfl, ⟨hm0, hm1⟩, ?_⟩⟩
      refine ⟨_, rfl, p, _, 2, 2, rfl, rfl, hp, rfl, _, rfl, ?_⟩
      refine k (g % m) _ (Int.emod_nonneg _ (by omega)) (Int.emod_lt_of_pos _ hm0) ⟨l, ns, i, g / m, upd_same, by rw [upd_ne hlp]; exact hl, hlp, hn, hi0, by omega, Int.ediv_nonneg hg0 (by omega)⟩ But.upd
    · -- at = pen[1]; pen[1] = at + 1; cell = ..
      refine ⟨_, rfl, p, _, 1, .int i, rfl, rfl, hsp, rfl, ?_⟩
      refine ⟨_, rfl, i, 1, rfl, rfl, _, rfl, p, _, 1, 1, rfl, rfl, hp, rfl, ?_⟩
      refine ⟨_, rfl, _, i, rfl, rfl, .inl ⟨by decide, by decide⟩, _, _, rfl, rfl, ?_⟩
      have hp1 : (upd H p (.lst ([V.ref l, .int i, .int g].set 1 (.int (i + 1))))) p = some (.lst [.ref l, .int (i + 1), .int g]) := upd_same
      have hl1 : (upd H p (.lst ([V.ref l, .int i, .int g].set 1 (.int (i + 1))))) l = some (.lst (ns.map V.int)) := by rw [upd_ne hlp]; exact hl
      have b1 : But p H (upd H p (.lst ([V.ref l, .int i, .int g].set 1 (.int (i + 1))))) := But.upd
      generalize upd H p (.lst ([V.ref l, .int i, .int g].set 1 (.int (i + 1)))) = H1 at hp1 hl1 b1 ⊢
      -- if pen[0] != []
      refine ⟨fun σ' H' => ∃ z : Int, σ' = [some (.ref p), some (.int m), none, some (.int i), some (.int z), none, none] ∧ H' p = some (.lst [.ref l, .int (i + 1), .int g]) ∧ H' l = some (.lst (ns.map V.int)) ∧ But p H H', ?_, ?_⟩
      · refine ⟨_, rfl, p, _, 0, .ref l, rfl, rfl, SqL.of hp1, rfl, (by show 0 ≤ sizeLine; decide), fun q hq => ?_⟩
        have hq1 : p ≠ q := ne_of_none hp1 hq
        have hq2 : l ≠ q := ne_of_none hl1 hq
        have hp2 : (upd H1 q (.lst [])) p = some (.lst [.ref l, .int (i + 1), .int g]) := by rw [upd_ne hq1]; exact hp1
        have hl2 : (upd H1 q (.lst [])) l = some (.lst (ns.map V.int)) := by rw [upd_ne hq2]; exact hl1
        have hq3 : (upd H1 q (.lst [])) q = some (.lst []) := upd_same
        have b2 : But p H (upd H1 q (.lst [])) := b1.trans (But.of (same_new hq))
        generalize upd H1 q (.lst []) = H2 at hp2 hl2 hq3 b2 ⊢
        refine ⟨_, _, .lst (SqL.of hl2) (dp_ints ns), .lst (SqL.of hq3) .nil, shaped_ints ns, shaped_ints [], _, rfl, ?_⟩
        refine ite2 (fun hne => ?_) (fun _ => ⟨_, rfl, hp2, hl2, b2⟩)
        have hns : 0 < ns.length := by
          cases ns with
          | nil => exact absurd hne (by decide)
          | cons n r => exact Nat.succ_pos _
        have hz : (0 : Int) < ((ns.map V.int).length : Int) := by rw [List.length_map]; omega
        have j0 := Int.emod_nonneg i (Int.ne_of_gt hz)
        have j1 := Int.emod_lt_of_pos i hz
        obtain ⟨z, ez⟩ : ∃ z, (ns.map V.int)[(i % ((ns.map V.int).length : Int)).toNat]? = some (V.int z) := by
          rw [List.length_map] at j0 j1 ⊢
          have hlt : (i % (ns.length : Int)).toNat < ns.length := by omega
          exact ⟨ns[(i % (ns.length : Int)).toNat], by rw [List.getElem?_map, List.getElem?_eq_getElem hlt]; rfl⟩
        exact ⟨_, rfl, p, _, 0, .ref l, rfl, rfl, SqL.of hp2, rfl, _, rfl, .inl ⟨i, rfl, _, rfl, p, _, 0, .ref l, rfl, rfl, SqL.of hp2, rfl, _, _, rfl, .inl ⟨_, SqL.of hl2, rfl⟩, _, _, rfl, rfl, hz, l, _, _, .int z, rfl, rfl, SqL.of hl2, atI_of j0 ez, _, rfl, hp2, hl2, b2⟩⟩
      · rintro σ2 H2 ⟨z, rfl, hp2, hl2, b2⟩
        -- if at < len(pen[0]) and abs(cell) >= 10 ** 18
        refine ⟨fun σ' H' => σ' = [some (.ref p), some (.int m), none, some (.int i), some (.int z), none, none] ∧ H' = H2, ?_, ?_⟩
        · refine ⟨_, rfl, _, rfl, p, _, 0, .ref l, rfl, rfl, SqL.of hp2, rfl, _, _, rfl, .inl ⟨_, SqL.of hl2, rfl⟩, _, _, rfl, rfl, _, rfl, ?_⟩
          refine ite2 (fun _ => ?_) (fun _ => ⟨rfl, rfl⟩)
          refine ⟨_, rfl, _, rfl, _, _, rfl, rfl, ⟨by decide, by decide, by decide⟩, _, _, rfl, rfl, _, rfl, ?_⟩
          refine ite2 (fun hgr => ?_) (fun _ => ⟨rfl, rfl⟩)
          have hgr' := of_decide_eq_true hgr
          refine ⟨_, rfl, _, rfl, _, _, rfl, rfl, ⟨by decide, by decide, by decide⟩, _, _, rfl, rfl, _, _, rfl, rfl, .inl ⟨by decide, by decide⟩, _, rfl, _, _, rfl, rfl, .inr ⟨_, rfl, _, _, rfl, rfl, ?_⟩⟩
          refine ⟨_, rfl, .inl ⟨_, rfl, _, rfl, _, _, rfl, rfl, ⟨hm0, hm1⟩, _, rfl, p, _, 2, 2, rfl, rfl, hp2, rfl, ?_⟩⟩
          refine ⟨_, rfl, .inl ⟨_, rfl, _, rfl, _, _, rfl, rfl, hm0, ?_⟩⟩
          have hpos : (0 : Int) ≤ 2 * ((if z < 0 then -z else z) - 10 ^ (18 : Int).toNat) + (if decide (z < 0) = true then 1 else 0) := by
            have h2 : (0 : Int) ≤ (if decide (z < 0) = true then 1 else 0) := by split <;> decide
            omega
          exact k _ _ (Int.emod_nonneg _ (Int.ne_of_gt hm0)) (Int.emod_lt_of_pos _ hm0) ⟨l, ns, i + 1, _, upd_same, by rw [upd_ne hlp]; exact hl2, hlp, hn, by omega, by omega, Int.ediv_nonneg hpos (Int.le_of_lt hm0)⟩ (b2.trans But.upd)
        · rintro σ3 H3 ⟨rfl, rfl⟩
          -- the two mixings
          refine ⟨fun σ' H' => ∃ x : Int, σ' = [some (.ref p), some (.int m), none, some (.int i), some (.int z), none, some (.int x)] ∧ H' = H3 ∧ 0 ≤ x ∧ x < 2147483648, ?_, ?_⟩
          · refine ⟨_, rfl, .inl ⟨_, rfl, _, _, rfl, rfl, (by show (0 : Int) < _; decide), _, rfl, _, _, rfl, rfl, .inl ⟨by decide, by decide⟩, _, _, rfl, rfl, _, _, rfl, rfl, _, _, rfl, rfl, ⟨by decide, by decide, ?_⟩, .inl ⟨_, rfl, _, _, rfl, rfl, (by show (0 : Int) < _; decide), _, rfl, rfl, Int.emod_nonneg _ (by decide), Int.lt_trans (Int.emod_lt_of_pos _ (by decide)) (by decide)⟩⟩⟩
            apply pow_ok <;> omega
          rintro σ4 H4 ⟨x, rfl, rfl, x0, x1⟩
          have hi6 : i ≤ 1000000 := by omega
          have q1 := mul_le' x0 (Int.le_of_lt x1) (show (0 : Int) ≤ 2 * i by omega) (show 2 * i ≤ 2000000 by omega)
          have q2 := mul_le' hi0 hi6 hi0 hi6
          refine ⟨fun σ' H' => ∃ y : Int, σ' = [some (.ref p), some (.int m), none, some (.int i), some (.int z), none, some (.int y)] ∧ H' = H4, ?_, ?_⟩
          · refine ⟨_, rfl, _, rfl, _, _, rfl, rfl, .inl ⟨by decide, by decide⟩, _, _, rfl, rfl, _, _, rfl, rfl, .inl ⟨by omega, by omega⟩, _, rfl, _, _, rfl, rfl, .inl ⟨by decide, by decide⟩, _, rfl, _, _, rfl, rfl, .inl ⟨by omega, by omega⟩, _, _, rfl, rfl, _, _, rfl, rfl, _, _, rfl, rfl, ⟨by decide, by decide, ?_⟩, .inl ⟨_, rfl, _, _, rfl, rfl, (by show (0 : Int) < _; decide), _, rfl, rfl⟩⟩
            rw [Int.mul_add, Int.mul_assoc _ i i]
            apply pow_ok <;> omega
          rintro σ5 H5 ⟨y, rfl, rfl⟩
          refine ⟨_, rfl, _, _, rfl, rfl, ⟨by decide, by decide⟩, .inl ⟨_, rfl, _, rfl, _, _, rfl, rfl, hm0, ?_⟩⟩
          exact k _ _ (Int.emod_nonneg _ (Int.ne_of_gt hm0)) (Int.emod_lt_of_pos _ hm0) ⟨l, ns, i + 1, g, hp2, hl2, hlp, hn, by omega, by omega, hg0⟩ b2
end
end K01
namespace K01
open PySem PySem.Spec PyProof.Rows L2 He Tw
abbrev s_pen : Stmt := topS 20
abbrev N_pen : List Str := ["_law_script"]
theorem sc_pen : FnScope N_pen ["_law_script"] (defScope s_pen) := ⟨rfl, rfl, rfl, by decide +kernel, rfl, by decide +kernel, by decide +kernel⟩
abbrev s_pick : Stmt := topS 22
abbrev N_pick : List Str := ["_law_pen_here", "_law_some"]
theorem sc_pick : FnScope N_pick ["_law_pen_here", "_law_some"] (defScope s_pick) := ⟨rfl, rfl, rfl, by decide +kernel, rfl, by decide +kernel, by decide +kernel⟩
abbrev s_value : Stmt := topS 23
abbrev N_value : List Str := ["_law_pen_here", "_law_number", "_law_some"]
theorem sc_value : FnScope N_value ["_law_pen_here"] (defScope s_value) := ⟨rfl, rfl, rfl, by decide +kernel, rfl, by decide +kernel, by decide +kernel⟩
/-- a value of any kind, apart from the pen -/
def spValue (K : Fg) : Sp := fun vs H Q _ => ∃ (p : Addr) (c : Nat), vs = [.ref p] ∧ PenAt H p c ∧ c ≤ 100000 ∧
  ∀ (v : V) (d : PyData) (H' : Hp), PenAt H' p (c + 2) → But p H H' → Dx K (hid p H') v d → mild d = true → d.depth ≤ 3 → cap d ≤ 100000 → Q v H'
section
variable {P : Program} {w : World} {K : Fg} {mg : Str → Option Value} {base : Heap}
theorem ok_pen {f : Addr} {fd : FuncData} (F : FnP K "_law_pen" "_law_pen" s_pen f fd) (T : Txt K mg) : FnOk P w K mg base CX0 1 f fd ["_law_script"] (spPen K) := by
  have zlist : mg "list" = none := T.bl (by decide +kernel)
  refine F.ok sc_pen (fun vs H Q E h => ?_) (fun cdv A outer s H vs Q E hr h => ?_)
  · obtain ⟨a, ns, rfl, _⟩ := h
    rfl
  · obtain ⟨a, ns, rfl, hS, hn, k⟩ := h
    obtain ⟨ms, em, hm⟩ := cut_ints ns none (some 63)
    refine ⟨_, PSs.nox (pss_one (ps_ret (pe_lst (pa_cons (pe_callTy call_list_of (by rfl) zlist (by decide +kernel) (pa_cons (pe_slice sl_list (pv 0) po_none (po_some pe_int)) pa_nil)) (pa_cons pe_int (pa_cons pe_int pa_nil)))))), ?_⟩
    refine ⟨_, rfl, _, rfl, a, _, rfl, hS, fun q hq => ⟨q, _, rfl, .inl (SqL.of upd_same), fun l hl => ⟨sz1000 (by show 3 ≤ 1000; decide), fun p hp => ?_⟩⟩⟩
    rw [em] at hl hp ⊢
    have s1 := same_new (o := .lst (ms.map V.int)) hq
    have s2 := same_new (o := .lst (ms.map V.int)) hl
    have s3 := same_new (o := .lst [.ref l, .int 0, .int 0]) hp
    have hl' : (upd (upd H q (.lst (ms.map V.int))) l (.lst (ms.map V.int))) l = some (.lst (ms.map V.int)) := upd_same
    exact k p _ ((s1.trans s2).free hp) ⟨l, ms, 0, 0, upd_same, s3 _ _ hl', ne_of_none hl' hp, by omega, by decide, by decide, by decide⟩ ((s1.trans s2).trans s3)
theorem ok_pick {f fD : Addr} {fd fdD : FuncData} (F : FnP K "_law_pick" "_law_pick" s_pick f fd) (FD : FnP K "_law_draw" "_law_draw" s_draw fD fdD) (gD : mg "_law_draw" = some (.ref fD)) (T : Txt K mg) : FnOk P w K mg base CX0 2 f fd ["_law_pen_here", "_law_some"] (spPick K) := by
  have zlen : mg "len" = none := T.bl (by decide +kernel)
  have G_draw : FnOk P w K mg base CX0 1 fD fdD ["_law_pen_here", "_law_many"] spDraw := ok_draw FD T
  have b_draw : Binds K fdD ["_law_pen_here", "_law_many"] [] := FD.bindsN fun _ _ _ _ _ _ us hl => match us, hl with | [_, _], _ => rfl
  refine F.ok sc_pick (fun vs H Q E h => ?_) (fun cdv A outer s H vs Q E hr h => ?_)
  · obtain ⟨p, q, xs, c, rfl, _⟩ := h
    rfl
  · obtain ⟨p, q, xs, c, rfl, hS, hqp, hx0, hx1, hP, hc, k⟩ := h
    refine ⟨_, PSs.nox (pss_one (ps_ret (pe_ix ix_list (pv 1) (pe_call G_draw (hr.mono (by decide)) rfl gD FD.kp b_draw .nil pass0 (pa_cons (pv 0) (pa_cons (pe_callB call_len (by rfl) zlen (by decide +kernel) (pa_cons (pv 1) pa_nil)) pa_nil))) (fun _ _ => rfl)))), ?_⟩
    refine ⟨_, rfl, _, rfl, _, rfl, _, _, rfl, .inl ⟨xs, hS, rfl⟩, p, (xs.length : Int), c, rfl, by omega, by omega, hP, hc, fun r H' h0 h1 hP' hB => ?_⟩
    have hlt : r.toNat < xs.length := by omega
    exact ⟨q, xs, r, _, rfl, rfl, hB.seq hqp hS, atI_of h0 (List.getElem?_eq_getElem hlt), k _ H' (List.getElem_mem hlt) hP' hB⟩
end
end K01
namespace K01
open PySem PySem.Spec PyProof.Rows L2 He Tw
theorem log_small (n : Int) (h : n.natAbs < 2 ^ 250) : n.natAbs.log2 < 1920 := by
  by_cases h0 : n.natAbs = 0
  · rw [h0]; decide
  · exact Nat.lt_trans ((Nat.log2_lt h0).mpr h) (by decide)
theorem mild_int {n : Int} (h : n.natAbs < 2 ^ 250) : mild (.int n) = true := by
  simp only [mild, log_small n h, decide_true]
section
variable {P : Program} {w : World} {K : Fg} {mg : Str → Option Value} {base : Heap}
theorem ok_value {f fD fP : Addr} {fd fdD fdP : FuncData} (F : FnP K "_law_value" "_law_value" s_value f fd) (FD : FnP K "_law_draw" "_law_draw" s_draw fD fdD) (gD : mg "_law_draw" = some (.ref fD))
    (FP : FnP K "_law_pick" "_law_pick" s_pick fP fdP) (gP : mg "_law_pick" = some (.ref fP)) (T : Txt K mg) : FnOk P w K mg base CX0 3 f fd ["_law_pen_here"] (spValue K) := by
  have G_draw : FnOk P w K mg base CX0 1 fD fdD ["_law_pen_here", "_law_many"] spDraw := ok_draw FD T
  have b_draw : Binds K fdD ["_law_pen_here", "_law_many"] [] := FD.bindsN fun _ _ _ _ _ _ us hl => match us, hl with | [_, _], _ => rfl
  have G_pick : FnOk P w K mg base CX0 2 fP fdP ["_law_pen_here", "_law_some"] (spPick K) := ok_pick FP FD gD T
  have b_pick : Binds K fdP ["_law_pen_here", "_law_some"] [] := FP.bindsN fun _ _ _ _ _ _ us hl => match us, hl with | [_, _], _ => rfl
  refine F.ok sc_value (fun vs H Q E h => ?_) (fun cdv A outer s H vs Q E hr h => ?_)
  · obtain ⟨p, c, rfl, _⟩ := h
    rfl
  · obtain ⟨p, c, rfl, hP, hc, k⟩ := h
    refine ⟨_, PSs.nox (pss_cons (ps_set (i := 1) sc_value.nd rfl (Or.inl rfl) (pe_call G_draw (hr.mono (by decide)) rfl gD FD.kp b_draw .nil pass0 (pa_cons (pv 0) (pa_cons (pe_op op_pow pe_int pe_int) pa_nil))))
    (pss_cons (ps_set (i := 2) sc_value.nd rfl (Or.inl rfl) (pe_lstN (pa_cons pe_non (pa_cons pe_bl (pa_cons pe_bl (pa_cons (pv 1) (pa_cons (pe_un un_neg (pv 1)) (pa_cons (pe_op op_pow pe_int pe_int) (pa_cons pe_str (pa_cons pe_str (pa_cons pe_str (pa_cons (pe_tupN pa_nil) (pa_cons (pe_tupN (pa_cons pe_int (pa_cons pe_int pa_nil))) (pa_cons (pe_lstN (pa_cons (pv 1) pa_nil)) (pa_cons pe_dnewN pa_nil)))))))))))))))
    (pss_one (ps_ret (pe_call G_pick (hr.mono (by decide)) rfl gP FP.kp b_pick .nil pass0 (pa_cons (pv 0) (pa_cons (pe_op op_catN (pv 2) (pe_lstN (pa_cons (pe_disp (pps_cons pe_str pe_int pps_nil) (by rfl) (by rfl) (fun z => by cases z) (by decide)) (pa_cons (pe_lstN (pa_cons (pe_lstN (pa_cons (pv 1) pa_nil)) (pa_cons pe_str pa_nil))) (pa_cons (pe_tupN (pa_cons (pe_tupN pa_nil) (pa_cons (pe_tupN (pa_cons pe_int (pa_cons pe_str pa_nil))) pa_nil))) pa_nil))))) pa_nil))))))), ?_⟩
    -- number = draw(pen, 10 ** 6)
    refine ⟨_, rfl, _, _, rfl, rfl, ⟨by decide, by decide, by decide⟩, p, _, c, rfl, by decide, by decide, hP, by omega, fun n H1 n0 n1 P1 B1 => ?_⟩
    have hn : n.natAbs < 2 ^ 250 := by
      have e : (10 : Int) ^ (6 : Int).toNat = 1000000 := by decide
      rw [e] at n1
      have : n.natAbs < 1000000 := by omega
      exact Nat.lt_trans this (by decide)
    have sz : ∀ {n : Nat}, n ≤ 1000 → n ≤ sizeLine := sz1000
    -- the first display
    refine ⟨_, rfl, _, rfl, _, rfl, _, _, rfl, rfl, ⟨by decide, by decide, by decide⟩, sz (Nat.zero_le _), fun a1 G1 f1 s1 g1 => ⟨sz (by decide), fun a2 G2 f2 s2 g2 => ⟨_, rfl, sz (by show 1 ≤ 1000; decide), fun a3 G3 f3 m3 s3 g3 => fun a4 G4 f4 m4 s4 g4 => ⟨sz (by show 13 ≤ 1000; decide), fun q G5 f5 m5 s5 g5 => ?_⟩⟩⟩⟩
    -- the second display, the sum
    refine ⟨_, rfl, _, rfl, fun a5 f6 => ⟨upd_same, [(.inr "a", .int 1)], rfl, by decide, ?_⟩⟩
    have s6 := same_new (o := .dK []) f6
    have u6 : (upd (upd G5 a5 (.dK [])) a5 (.dK (mergeK [] [((.inr "a" : Key), V.int 1)]))) = upd G5 a5 (.dK [(.inr "a", .int 1)]) := by
      rw [upd_upd]
      rfl
    rw [u6]
    have s7 := same_new (o := .dK [((.inr "a" : Key), V.int 1)]) f6
    have g7 : (upd G5 a5 (.dK [((.inr "a" : Key), V.int 1)])) a5 = some (.dK [((.inr "a" : Key), V.int 1)]) := upd_same
    generalize upd G5 a5 (.dK [((.inr "a" : Key), V.int 1)]) = G6 at s7 g7 ⊢
    refine ⟨_, rfl, sz (by show 1 ≤ 1000; decide), fun b1 G7 f7 m7 s8 g8 => ⟨sz (by show 2 ≤ 1000; decide), fun b2 G8 f8 m8 s9 g9 => ⟨sz (Nat.zero_le _), fun b3 G9 f9 s10 g10 => ⟨sz (by show 2 ≤ 1000; decide), fun b4 G10 f10 s11 g11 => ⟨sz (by show 2 ≤ 1000; decide), fun b5 G11 f11 s12 g12 => ⟨sz (by show 3 ≤ 1000; decide), fun q2 G12 f12 m12 s13 g13 => ?_⟩⟩⟩⟩⟩⟩
    have up5 : Same G5 G12 := (((((s7.trans s8).trans s9).trans s10).trans s11).trans s12).trans s13
    refine ⟨q, q2, _, _, rfl, rfl, up5 _ _ g5, g13, sz (by show 16 ≤ 1000; decide), fun q3 G13 f13 m13 s14 g14 => ?_⟩
    have all : Same H1 G13 := (((((s1.trans s2).trans s3).trans s4).trans s5).trans up5).trans s14
    have ne : ∀ {a : Addr} {o : HO}, G13 a = some o → H1 a = none → a ≠ p := fun {a o} h1 h2 z => by
      obtain ⟨l, ns, i, g, hp, _⟩ := P1
      rw [z, hp] at h2
      cases h2
    have up12 : Same G12 G13 := s14
    have fr : ∀ {a : Addr} {G : Hp}, G a = none → Same H1 G → H1 a = none := fun h e => e.free h
    have t1 := s1
    have t2 := t1.trans s2
    have t3 := t2.trans s3
    have t4 := t3.trans s4
    have t5 := t4.trans s5
    have t6 := t5.trans s7
    have t7 := t6.trans s8
    have t8 := t7.trans s9
    have t9 := t8.trans s10
    have t10 := t9.trans s11
    have t11 := t10.trans s12
    have t12 := t11.trans s13
    refine ⟨p, q3, _, c + 1, rfl, SqL.of g14, ne g14 (fr f13 t12), by show 0 < 16; decide, by show 16 < 1000; decide, P1.same all, by omega, fun v H' hv P' B' => ?_⟩
    have BB : But p H H' := (B1.trans (But.of all)).trans B'
    have kk : ∀ {a : Addr} {o : HO} {G : Hp}, G a = some o → Same G G13 → H1 a = none → hid p H' a = some o := fun h e n => by
      have z := ne (e _ _ h) n
      rw [hid_ne z]
      exact B' _ _ (e _ _ h) z
    have e12 := s14
    have e11 := s13.trans e12
    have e10 := s12.trans e11
    have e9 := s11.trans e10
    have e8 := s10.trans e9
    have e7 := s9.trans e8
    have e6 := s8.trans e7
    have e5 := s7.trans e6
    have e4 := s5.trans e5
    have e3 := s4.trans e4
    have e2 := s3.trans e3
    have e1 := s2.trans e2
    have x1 := kk g1 e1 f1
    have x2 := kk g2 e2 (fr f2 t1)
    have x3 := kk g3 e3 (fr f3 t2)
    have x4 := kk g4 e4 (fr f4 t3)
    have x5 := kk g7 e6 (fr f6 t5)
    have y1 := kk g8 e7 (fr f7 t6)
    have y2 := kk g9 e8 (fr f8 t7)
    have y3 := kk g10 e9 (fr f9 t8)
    have y4 := kk g11 e10 (fr f10 t9)
    have y5 := kk g12 e11 (fr f11 t10)
    have mn : mild (.int n) = true := mild_int hn
    have mm : mild (.int (-n)) = true := mild_int (by rw [Int.natAbs_neg]; exact hn)
    have d2 : Dx K (hid p H') (.ref a2) (.tuple [.int 2, .int 3]) := .tup (SqT.of x2) (.cons (.int 2) (.cons (.int 3) .nil))
    have d3 : Dx K (hid p H') (.ref a3) (.list [.int n]) := .lst (SqL.of x3) m3 (.cons (.int n) .nil)
    have d4 : Dx K (hid p H') (.ref a4) (.dict []) := .dic x4 .nil
    have d5 : Dx K (hid p H') (.ref a5) (.dict [(.str "a", .int 1)]) := .dic x5 (.cons (.int 1) .nil)
    have d6 : Dx K (hid p H') (.ref b2) (.list [.list [.int n], .str "x"]) := .lst (SqL.of y2) m8 (.cons (.lst (SqL.of y1) m7 (.cons (.int n) .nil)) (.cons (.str "x") .nil))
    have d7 : Dx K (hid p H') (.ref b5) (.tuple [.tuple [], .tuple [.int 1, .str "b"]]) := .tup (SqT.of y5) (.cons (.tup (SqT.of y3) .nil) (.cons (.tup (SqT.of y4) (.cons (.int 1) (.cons (.str "b") .nil))) .nil))
    simp only [List.cons_append, List.nil_append, List.mem_cons, List.not_mem_nil, or_false] at hv
    rcases hv with rfl | rfl | rfl | rfl | rfl | rfl | rfl | rfl | rfl | rfl | rfl | rfl | rfl | rfl | rfl | rfl
    · exact k _ _ H' P' BB .non rfl (by decide) (by decide)
    · exact k _ _ H' P' BB (.bl _) rfl (by decide) (by decide)
    · exact k _ _ H' P' BB (.bl _) rfl (by decide) (by decide)
    · exact k _ _ H' P' BB (.int _) mn (by simp [PyData.depth]) (by simp [cap])
    · exact k _ _ H' P' BB (.int _) mm (by simp [PyData.depth]) (by simp [cap])
    · exact k _ _ H' P' BB (.int _) (by decide +kernel) (by simp [PyData.depth]) (by simp [cap])
    · exact k _ _ H' P' BB (.str _) (by decide +kernel) (by simp [PyData.depth]) (by decide +kernel)
    · exact k _ _ H' P' BB (.str _) (by decide +kernel) (by simp [PyData.depth]) (by decide +kernel)
    · exact k _ _ H' P' BB (.str _) (by decide +kernel) (by simp [PyData.depth]) (by decide +kernel)
    · exact k _ _ H' P' BB (.tup (SqT.of x1) .nil) (by decide +kernel) (by decide +kernel) (by decide +kernel)
    · exact k _ _ H' P' BB d2 (by decide +kernel) (by decide +kernel) (by decide +kernel)
    · exact k _ _ H' P' BB d3 (by simp only [mild, mildAll, Bool.and_true] at mn ⊢; exact mn) (by simp [PyData.depth, PyData.depthAll]) (by simp [cap, capAll])
    · exact k _ _ H' P' BB d4 (by decide +kernel) (by decide +kernel) (by decide +kernel)
    · exact k _ _ H' P' BB d5 (by decide +kernel) (by decide +kernel) (by decide +kernel)
    · exact k _ _ H' P' BB d6 (by simp only [mild, mildAll, Bool.and_true] at mn ⊢; rw [mn]; decide +kernel) (by simp [PyData.depth, PyData.depthAll]) (by
        have e : ("x" : Str).length = 1 := by decide
        simp [cap, capAll, e])
    · exact k _ _ H' P' BB d7 (by decide +kernel) (by decide +kernel) (by decide +kernel)
end
end K01
namespace K01
open PySem PySem.Spec PyProof.Rows L2 He Tw
/-- what an error's __init__ leaves -/
def spIni1 (C : Addr) (f : Str) : Sp := fun vs H Q _ => ∃ (a : Addr) (v : V), vs = [.ref a, v] ∧ H a = some (exo a C none) ∧ ∀ (d : Addr) (H' : Hp), H d = none → d ≠ a → H' a = some (exo a C (some d)) → H' d = some (exd d [(f, v)]) → But a H H' → Q .non H'
def spIni2 (C : Addr) (f g : Str) : Sp := fun vs H Q _ => ∃ (a : Addr) (v u : V), vs = [.ref a, v, u] ∧ H a = some (exo a C none) ∧ ∀ (d : Addr) (H' : Hp), H d = none → d ≠ a → H' a = some (exo a C (some d)) → H' d = some (exd d [(g, u), (f, v)]) → But a H H' → Q .non H'
section
variable {P : Program} {w : World} {K : Fg} {mg : Str → Option Value} {base : Heap}
abbrev s_BadItem : Stmt := inClass (topS 5) 0
theorem sc_BadItem : FnScope ["self", "part"] ["self", "part"] (defScope s_BadItem) := ⟨rfl, rfl, rfl, by decide +kernel, rfl, by decide +kernel, by decide +kernel⟩
theorem ok_BadItem {f : Addr} {fd : FuncData} (F : FnP K "__init__" "BadItem.__init__" s_BadItem f fd) (T : Txt K mg) : FnOk P w K mg base CX0 1 f fd ["self", "part"] (spIni1 (ga K "BadItem") "part") := by
  have m : (("BadItem", 5) : Str × Nat) ∈ excs := by decide +kernel
  refine F.ok sc_BadItem (fun vs H Q E h => ?_) (fun cdv A outer s H vs Q E hr h => ?_)
  · obtain ⟨a, v, rfl, _⟩ := h
    rfl
  · obtain ⟨a, v, rfl, ha, k⟩ := h
    refine ⟨_, PSs.nox (pss_one (ps_ost (pv 0) (pv 1))), ?_⟩
    refine ⟨_, rfl, _, rfl, a, _, rfl, (T.xc m).ox, T.no m (by decide +kernel), .inl ⟨ha, fun d hd hda => k d _ hd hda upd_same (by rw [upd_ne hda]; exact upd_same) fun b o hb hba => ?_⟩⟩
    rw [upd_ne hba, upd_ne (ne_of_none hb hd)]
    exact hb
abbrev s_BadPlace : Stmt := inClass (topS 6) 0
theorem sc_BadPlace : FnScope ["self", "at"] ["self", "at"] (defScope s_BadPlace) := ⟨rfl, rfl, rfl, by decide +kernel, rfl, by decide +kernel, by decide +kernel⟩
theorem ok_BadPlace {f : Addr} {fd : FuncData} (F : FnP K "__init__" "BadPlace.__init__" s_BadPlace f fd) (T : Txt K mg) : FnOk P w K mg base CX0 1 f fd ["self", "at"] (spIni1 (ga K "BadPlace") "at") := by
  have m : (("BadPlace", 6) : Str × Nat) ∈ excs := by decide +kernel
  refine F.ok sc_BadPlace (fun vs H Q E h => ?_) (fun cdv A outer s H vs Q E hr h => ?_)
  · obtain ⟨a, v, rfl, _⟩ := h
    rfl
  · obtain ⟨a, v, rfl, ha, k⟩ := h
    refine ⟨_, PSs.nox (pss_one (ps_ost (pv 0) (pv 1))), ?_⟩
    refine ⟨_, rfl, _, rfl, a, _, rfl, (T.xc m).ox, T.no m (by decide +kernel), .inl ⟨ha, fun d hd hda => k d _ hd hda upd_same (by rw [upd_ne hda]; exact upd_same) fun b o hb hba => ?_⟩⟩
    rw [upd_ne hba, upd_ne (ne_of_none hb hd)]
    exact hb
abbrev s_Disordered : Stmt := inClass (topS 7) 0
theorem sc_Disordered : FnScope ["self", "at"] ["self", "at"] (defScope s_Disordered) := ⟨rfl, rfl, rfl, by decide +kernel, rfl, by decide +kernel, by decide +kernel⟩
theorem ok_Disordered {f : Addr} {fd : FuncData} (F : FnP K "__init__" "Disordered.__init__" s_Disordered f fd) (T : Txt K mg) : FnOk P w K mg base CX0 1 f fd ["self", "at"] (spIni1 (ga K "Disordered") "at") := by
  have m : (("Disordered", 7) : Str × Nat) ∈ excs := by decide +kernel
  refine F.ok sc_Disordered (fun vs H Q E h => ?_) (fun cdv A outer s H vs Q E hr h => ?_)
  · obtain ⟨a, v, rfl, _⟩ := h
    rfl
  · obtain ⟨a, v, rfl, ha, k⟩ := h
    refine ⟨_, PSs.nox (pss_one (ps_ost (pv 0) (pv 1))), ?_⟩
    refine ⟨_, rfl, _, rfl, a, _, rfl, (T.xc m).ox, T.no m (by decide +kernel), .inl ⟨ha, fun d hd hda => k d _ hd hda upd_same (by rw [upd_ne hda]; exact upd_same) fun b o hb hba => ?_⟩⟩
    rw [upd_ne hba, upd_ne (ne_of_none hb hd)]
    exact hb
abbrev s_BadTest : Stmt := inClass (topS 8) 0
theorem sc_BadTest : FnScope ["self", "at", "word"] ["self", "at", "word"] (defScope s_BadTest) := ⟨rfl, rfl, rfl, by decide +kernel, rfl, by decide +kernel, by decide +kernel⟩
theorem ok_BadTest {f : Addr} {fd : FuncData} (F : FnP K "__init__" "BadTest.__init__" s_BadTest f fd) (T : Txt K mg) : FnOk P w K mg base CX0 1 f fd ["self", "at", "word"] (spIni2 (ga K "BadTest") "at" "word") := by
  have m : (("BadTest", 8) : Str × Nat) ∈ excs := by decide +kernel
  refine F.ok sc_BadTest (fun vs H Q E h => ?_) (fun cdv A outer s H vs Q E hr h => ?_)
  · obtain ⟨a, v, u, rfl, _⟩ := h
    rfl
  · obtain ⟨a, v, u, rfl, ha, k⟩ := h
    refine ⟨_, PSs.nox (pss_cons (ps_ost (pv 0) (pv 1)) (pss_one (ps_ost (pv 0) (pv 2)))), ?_⟩
    refine ⟨_, rfl, _, rfl, a, _, rfl, (T.xc m).ox, T.no m (by decide +kernel), .inl ⟨ha, fun d hd hda => ?_⟩⟩
    refine ⟨_, rfl, _, rfl, a, _, rfl, (T.xc m).ox, T.no m (by decide +kernel), .inr ⟨d, _, upd_same, (by rw [upd_ne hda]; exact upd_same), (by show 1 ≤ 900; decide), ?_⟩⟩
    refine k d _ hd hda (by rw [upd_ne hda.symm]; exact upd_same) upd_same fun b o hb hba => ?_
    have hbd : b ≠ d := ne_of_none hb hd
    rw [upd_ne hbd, upd_ne hba, upd_ne hbd]
    exact hb
abbrev s_BadWalk : Stmt := inClass (topS 9) 0
theorem sc_BadWalk : FnScope ["self", "reason", "line"] ["self", "reason", "line"] (defScope s_BadWalk) := ⟨rfl, rfl, rfl, by decide +kernel, rfl, by decide +kernel, by decide +kernel⟩
theorem ok_BadWalk {f : Addr} {fd : FuncData} (F : FnP K "__init__" "BadWalk.__init__" s_BadWalk f fd) (T : Txt K mg) : FnOk P w K mg base CX0 1 f fd ["self", "reason", "line"] (spIni2 (ga K "BadWalk") "reason" "line") := by
  have m : (("BadWalk", 9) : Str × Nat) ∈ excs := by decide +kernel
  refine F.ok sc_BadWalk (fun vs H Q E h => ?_) (fun cdv A outer s H vs Q E hr h => ?_)
  · obtain ⟨a, v, u, rfl, _⟩ := h
    rfl
  · obtain ⟨a, v, u, rfl, ha, k⟩ := h
    refine ⟨_, PSs.nox (pss_cons (ps_ost (pv 0) (pv 1)) (pss_one (ps_ost (pv 0) (pv 2)))), ?_⟩
    refine ⟨_, rfl, _, rfl, a, _, rfl, (T.xc m).ox, T.no m (by decide +kernel), .inl ⟨ha, fun d hd hda => ?_⟩⟩
    refine ⟨_, rfl, _, rfl, a, _, rfl, (T.xc m).ox, T.no m (by decide +kernel), .inr ⟨d, _, upd_same, (by rw [upd_ne hda]; exact upd_same), (by show 1 ≤ 900; decide), ?_⟩⟩
    refine k d _ hd hda (by rw [upd_ne hda.symm]; exact upd_same) upd_same fun b o hb hba => ?_
    have hbd : b ≠ d := ne_of_none hb hd
    rw [upd_ne hbd, upd_ne hba, upd_ne hbd]
    exact hb
abbrev s_BadText : Stmt := inClass (topS 10) 0
theorem sc_BadText : FnScope ["self", "row", "word"] ["self", "row", "word"] (defScope s_BadText) := ⟨rfl, rfl, rfl, by decide +kernel, rfl, by decide +kernel, by decide +kernel⟩
theorem ok_BadText {f : Addr} {fd : FuncData} (F : FnP K "__init__" "BadText.__init__" s_BadText f fd) (T : Txt K mg) : FnOk P w K mg base CX0 1 f fd ["self", "row", "word"] (spIni2 (ga K "BadText") "row" "word") := by
  have m : (("BadText", 10) : Str × Nat) ∈ excs := by decide +kernel
  refine F.ok sc_BadText (fun vs H Q E h => ?_) (fun cdv A outer s H vs Q E hr h => ?_)
  · obtain ⟨a, v, u, rfl, _⟩ := h
    rfl
  · obtain ⟨a, v, u, rfl, ha, k⟩ := h
    refine ⟨_, PSs.nox (pss_cons (ps_ost (pv 0) (pv 1)) (pss_one (ps_ost (pv 0) (pv 2)))), ?_⟩
    refine ⟨_, rfl, _, rfl, a, _, rfl, (T.xc m).ox, T.no m (by decide +kernel), .inl ⟨ha, fun d hd hda => ?_⟩⟩
    refine ⟨_, rfl, _, rfl, a, _, rfl, (T.xc m).ox, T.no m (by decide +kernel), .inr ⟨d, _, upd_same, (by rw [upd_ne hda]; exact upd_same), (by show 1 ≤ 900; decide), ?_⟩⟩
    refine k d _ hd hda (by rw [upd_ne hda.symm]; exact upd_same) upd_same fun b o hb hba => ?_
    have hbd : b ≠ d := ne_of_none hb hd
    rw [upd_ne hbd, upd_ne hba, upd_ne hbd]
    exact hb
abbrev s_BadName : Stmt := inClass (topS 11) 0
theorem sc_BadName : FnScope ["self", "name"] ["self", "name"] (defScope s_BadName) := ⟨rfl, rfl, rfl, by decide +kernel, rfl, by decide +kernel, by decide +kernel⟩
theorem ok_BadName {f : Addr} {fd : FuncData} (F : FnP K "__init__" "BadName.__init__" s_BadName f fd) (T : Txt K mg) : FnOk P w K mg base CX0 1 f fd ["self", "name"] (spIni1 (ga K "BadName") "name") := by
  have m : (("BadName", 11) : Str × Nat) ∈ excs := by decide +kernel
  refine F.ok sc_BadName (fun vs H Q E h => ?_) (fun cdv A outer s H vs Q E hr h => ?_)
  · obtain ⟨a, v, rfl, _⟩ := h
    rfl
  · obtain ⟨a, v, rfl, ha, k⟩ := h
    refine ⟨_, PSs.nox (pss_one (ps_ost (pv 0) (pv 1))), ?_⟩
    refine ⟨_, rfl, _, rfl, a, _, rfl, (T.xc m).ox, T.no m (by decide +kernel), .inl ⟨ha, fun d hd hda => k d _ hd hda upd_same (by rw [upd_ne hda]; exact upd_same) fun b o hb hba => ?_⟩⟩
    rw [upd_ne hba, upd_ne (ne_of_none hb hd)]
    exact hb
abbrev s_Behind : Stmt := inClass (topS 12) 0
theorem sc_Behind : FnScope ["self", "line", "side"] ["self", "line", "side"] (defScope s_Behind) := ⟨rfl, rfl, rfl, by decide +kernel, rfl, by decide +kernel, by decide +kernel⟩
theorem ok_Behind {f : Addr} {fd : FuncData} (F : FnP K "__init__" "Behind.__init__" s_Behind f fd) (T : Txt K mg) : FnOk P w K mg base CX0 1 f fd ["self", "line", "side"] (spIni2 (ga K "Behind") "line" "side") := by
  have m : (("Behind", 12) : Str × Nat) ∈ excs := by decide +kernel
  refine F.ok sc_Behind (fun vs H Q E h => ?_) (fun cdv A outer s H vs Q E hr h => ?_)
  · obtain ⟨a, v, u, rfl, _⟩ := h
    rfl
  · obtain ⟨a, v, u, rfl, ha, k⟩ := h
    refine ⟨_, PSs.nox (pss_cons (ps_ost (pv 0) (pv 1)) (pss_one (ps_ost (pv 0) (pv 2)))), ?_⟩
    refine ⟨_, rfl, _, rfl, a, _, rfl, (T.xc m).ox, T.no m (by decide +kernel), .inl ⟨ha, fun d hd hda => ?_⟩⟩
    refine ⟨_, rfl, _, rfl, a, _, rfl, (T.xc m).ox, T.no m (by decide +kernel), .inr ⟨d, _, upd_same, (by rw [upd_ne hda]; exact upd_same), (by show 1 ≤ 900; decide), ?_⟩⟩
    refine k d _ hd hda (by rw [upd_ne hda.symm]; exact upd_same) upd_same fun b o hb hba => ?_
    have hbd : b ≠ d := ne_of_none hb hd
    rw [upd_ne hbd, upd_ne hba, upd_ne hbd]
    exact hb
abbrev s_Unlike : Stmt := inClass (topS 13) 0
theorem sc_Unlike : FnScope ["self", "line"] ["self", "line"] (defScope s_Unlike) := ⟨rfl, rfl, rfl, by decide +kernel, rfl, by decide +kernel, by decide +kernel⟩
theorem ok_Unlike {f : Addr} {fd : FuncData} (F : FnP K "__init__" "Unlike.__init__" s_Unlike f fd) (T : Txt K mg) : FnOk P w K mg base CX0 1 f fd ["self", "line"] (spIni1 (ga K "Unlike") "line") := by
  have m : (("Unlike", 13) : Str × Nat) ∈ excs := by decide +kernel
  refine F.ok sc_Unlike (fun vs H Q E h => ?_) (fun cdv A outer s H vs Q E hr h => ?_)
  · obtain ⟨a, v, rfl, _⟩ := h
    rfl
  · obtain ⟨a, v, rfl, ha, k⟩ := h
    refine ⟨_, PSs.nox (pss_one (ps_ost (pv 0) (pv 1))), ?_⟩
    refine ⟨_, rfl, _, rfl, a, _, rfl, (T.xc m).ox, T.no m (by decide +kernel), .inl ⟨ha, fun d hd hda => k d _ hd hda upd_same (by rw [upd_ne hda]; exact upd_same) fun b o hb hba => ?_⟩⟩
    rw [upd_ne hba, upd_ne (ne_of_none hb hd)]
    exact hb
abbrev s_Endless : Stmt := inClass (topS 14) 0
theorem sc_Endless : FnScope ["self", "line"] ["self", "line"] (defScope s_Endless) := ⟨rfl, rfl, rfl, by decide +kernel, rfl, by decide +kernel, by decide +kernel⟩
theorem ok_Endless {f : Addr} {fd : FuncData} (F : FnP K "__init__" "Endless.__init__" s_Endless f fd) (T : Txt K mg) : FnOk P w K mg base CX0 1 f fd ["self", "line"] (spIni1 (ga K "Endless") "line") := by
  have m : (("Endless", 14) : Str × Nat) ∈ excs := by decide +kernel
  refine F.ok sc_Endless (fun vs H Q E h => ?_) (fun cdv A outer s H vs Q E hr h => ?_)
  · obtain ⟨a, v, rfl, _⟩ := h
    rfl
  · obtain ⟨a, v, rfl, ha, k⟩ := h
    refine ⟨_, PSs.nox (pss_one (ps_ost (pv 0) (pv 1))), ?_⟩
    refine ⟨_, rfl, _, rfl, a, _, rfl, (T.xc m).ox, T.no m (by decide +kernel), .inl ⟨ha, fun d hd hda => k d _ hd hda upd_same (by rw [upd_ne hda]; exact upd_same) fun b o hb hba => ?_⟩⟩
    rw [upd_ne hba, upd_ne (ne_of_none hb hd)]
    exact hb
abbrev s_Unfit : Stmt := inClass (topS 15) 0
theorem sc_Unfit : FnScope ["self", "claim"] ["self", "claim"] (defScope s_Unfit) := ⟨rfl, rfl, rfl, by decide +kernel, rfl, by decide +kernel, by decide +kernel⟩
theorem ok_Unfit {f : Addr} {fd : FuncData} (F : FnP K "__init__" "Unfit.__init__" s_Unfit f fd) (T : Txt K mg) : FnOk P w K mg base CX0 1 f fd ["self", "claim"] (spIni1 (ga K "Unfit") "claim") := by
  have m : (("Unfit", 15) : Str × Nat) ∈ excs := by decide +kernel
  refine F.ok sc_Unfit (fun vs H Q E h => ?_) (fun cdv A outer s H vs Q E hr h => ?_)
  · obtain ⟨a, v, rfl, _⟩ := h
    rfl
  · obtain ⟨a, v, rfl, ha, k⟩ := h
    refine ⟨_, PSs.nox (pss_one (ps_ost (pv 0) (pv 1))), ?_⟩
    refine ⟨_, rfl, _, rfl, a, _, rfl, (T.xc m).ox, T.no m (by decide +kernel), .inl ⟨ha, fun d hd hda => k d _ hd hda upd_same (by rw [upd_ne hda]; exact upd_same) fun b o hb hba => ?_⟩⟩
    rw [upd_ne hba, upd_ne (ne_of_none hb hd)]
    exact hb
abbrev s_TooMany : Stmt := inClass (topS 16) 0
theorem sc_TooMany : FnScope ["self", "most"] ["self", "most"] (defScope s_TooMany) := ⟨rfl, rfl, rfl, by decide +kernel, rfl, by decide +kernel, by decide +kernel⟩
theorem ok_TooMany {f : Addr} {fd : FuncData} (F : FnP K "__init__" "TooMany.__init__" s_TooMany f fd) (T : Txt K mg) : FnOk P w K mg base CX0 1 f fd ["self", "most"] (spIni1 (ga K "TooMany") "most") := by
  have m : (("TooMany", 16) : Str × Nat) ∈ excs := by decide +kernel
  refine F.ok sc_TooMany (fun vs H Q E h => ?_) (fun cdv A outer s H vs Q E hr h => ?_)
  · obtain ⟨a, v, rfl, _⟩ := h
    rfl
  · obtain ⟨a, v, rfl, ha, k⟩ := h
    refine ⟨_, PSs.nox (pss_one (ps_ost (pv 0) (pv 1))), ?_⟩
    refine ⟨_, rfl, _, rfl, a, _, rfl, (T.xc m).ox, T.no m (by decide +kernel), .inl ⟨ha, fun d hd hda => k d _ hd hda upd_same (by rw [upd_ne hda]; exact upd_same) fun b o hb hba => ?_⟩⟩
    rw [upd_ne hba, upd_ne (ne_of_none hb hd)]
    exact hb
abbrev s_TooLarge : Stmt := inClass (topS 17) 0
theorem sc_TooLarge : FnScope ["self", "most"] ["self", "most"] (defScope s_TooLarge) := ⟨rfl, rfl, rfl, by decide +kernel, rfl, by decide +kernel, by decide +kernel⟩
theorem ok_TooLarge {f : Addr} {fd : FuncData} (F : FnP K "__init__" "TooLarge.__init__" s_TooLarge f fd) (T : Txt K mg) : FnOk P w K mg base CX0 1 f fd ["self", "most"] (spIni1 (ga K "TooLarge") "most") := by
  have m : (("TooLarge", 17) : Str × Nat) ∈ excs := by decide +kernel
  refine F.ok sc_TooLarge (fun vs H Q E h => ?_) (fun cdv A outer s H vs Q E hr h => ?_)
  · obtain ⟨a, v, rfl, _⟩ := h
    rfl
  · obtain ⟨a, v, rfl, ha, k⟩ := h
    refine ⟨_, PSs.nox (pss_one (ps_ost (pv 0) (pv 1))), ?_⟩
    refine ⟨_, rfl, _, rfl, a, _, rfl, (T.xc m).ox, T.no m (by decide +kernel), .inl ⟨ha, fun d hd hda => k d _ hd hda upd_same (by rw [upd_ne hda]; exact upd_same) fun b o hb hba => ?_⟩⟩
    rw [upd_ne hba, upd_ne (ne_of_none hb hd)]
    exact hb
abbrev s_NotNow : Stmt := inClass (topS 18) 0
theorem sc_NotNow : FnScope ["self", "what"] ["self", "what"] (defScope s_NotNow) := ⟨rfl, rfl, rfl, by decide +kernel, rfl, by decide +kernel, by decide +kernel⟩
theorem ok_NotNow {f : Addr} {fd : FuncData} (F : FnP K "__init__" "NotNow.__init__" s_NotNow f fd) (T : Txt K mg) : FnOk P w K mg base CX0 1 f fd ["self", "what"] (spIni1 (ga K "NotNow") "what") := by
  have m : (("NotNow", 18) : Str × Nat) ∈ excs := by decide +kernel
  refine F.ok sc_NotNow (fun vs H Q E h => ?_) (fun cdv A outer s H vs Q E hr h => ?_)
  · obtain ⟨a, v, rfl, _⟩ := h
    rfl
  · obtain ⟨a, v, rfl, ha, k⟩ := h
    refine ⟨_, PSs.nox (pss_one (ps_ost (pv 0) (pv 1))), ?_⟩
    refine ⟨_, rfl, _, rfl, a, _, rfl, (T.xc m).ox, T.no m (by decide +kernel), .inl ⟨ha, fun d hd hda => k d _ hd hda upd_same (by rw [upd_ne hda]; exact upd_same) fun b o hb hba => ?_⟩⟩
    rw [upd_ne hba, upd_ne (ne_of_none hb hd)]
    exact hb
end
end K01
namespace K01
open PySem PySem.Spec PyProof.Rows L2 He Tw
/-- an error of the class e, with its fields -/
structure Er (K : Fg) (H : Hp) (e : Str × Nat) (a : Addr) (fl : List (Str × V)) : Prop where
  ex : ∃ d, IsX H a (ga K e.1) (some d) ∧ IsXd H d fl
theorem Er.same {K : Fg} {H H' : Hp} {e : Str × Nat} {a : Addr} {fl : List (Str × V)} (s : Same H H') (h : Er K H e a fl) : Er K H' e a fl := by
  obtain ⟨d, h1, h2⟩ := h.ex
  exact ⟨d, h1.same s, h2.same s⟩
def basesOf (e : Str × Nat) : List Bool := [true, isIn e "HeadsError", isIn e "BadInput", isIn e "Fall", isIn e "Refused"]
def kindsOf (e : Str × Nat) : List Bool := excs.map fun y => isIn e y.1
def grp (e : Str × Nat) : Int := if e.2 ≤ 11 then 0 else if e.2 ≤ 14 then 1 else 2
def idx (e : Str × Nat) : Int := (e.2 : Int) - 5
theorem bases_eq : ∀ e ∈ excs, basesOf e = [true, true, decide (grp e = 0), decide (grp e = 1), decide (grp e = 2)] := by decide +kernel
theorem kinds_eq : ∀ e ∈ excs, kindsOf e = (List.range 14).map fun (k : Nat) => decide ((k : Int) = idx e) := by decide +kernel
def spBools (K : Fg) (f : Str × Nat → List Bool) : Sp := fun vs H Q _ => ∃ (a : Addr) (e : Str × Nat) (fl : List (Str × V)), vs = [.ref a] ∧ e ∈ excs ∧ Er K H e a fl ∧ New H (.lst ((f e).map V.bl)) fun p H' => Q (.ref p) H'
def spRight (K : Fg) : Sp := fun vs H Q _ => ∃ (a : Addr) (e : Str × Nat) (fl : List (Str × V)), vs = [.ref a, .int (grp e), .int (idx e)] ∧ e ∈ excs ∧ Er K H e a fl ∧ ∀ H', Same H H' → Q (.bl true) H'
abbrev s_bases : Stmt := topS 24
abbrev N_bases : List Str := ["_law_error", "_law_found"]
theorem sc_bases : FnScope N_bases ["_law_error"] (defScope s_bases) := ⟨rfl, rfl, rfl, by decide +kernel, rfl, by decide +kernel, by decide +kernel⟩
abbrev s_kinds : Stmt := topS 25
theorem sc_kinds : FnScope N_bases ["_law_error"] (defScope s_kinds) := ⟨rfl, rfl, rfl, by decide +kernel, rfl, by decide +kernel, by decide +kernel⟩
section
variable {P : Program} {w : World} {K : Fg} {mg : Str → Option Value} {base : Heap} {X : Cx}
theorem ok_bases {f : Addr} {fd : FuncData} (F : FnP K "_law_bases" "_law_bases" s_bases f fd) (T : Txt K mg) : FnOk P w K mg base CX0 1 f fd ["_law_error"] (spBools K basesOf) := by
  have zi : mg "isinstance" = none := T.bl (by decide +kernel)
  have zv : mg "ValueError" = none := T.bl (by decide +kernel)
  have c1 : (("HeadsError") : Str) ∈ clss := by decide +kernel
  have c2 : (("BadInput") : Str) ∈ clss := by decide +kernel
  have c3 : (("Fall") : Str) ∈ clss := by decide +kernel
  have c4 : (("Refused") : Str) ∈ clss := by decide +kernel
  refine F.ok sc_bases (fun vs H Q E h => ?_) (fun cdv A outer s H vs Q E hr h => ?_)
  · obtain ⟨a, e, fl, rfl, _⟩ := h
    rfl
  · obtain ⟨a, e, fl, rfl, m, hE, k⟩ := h
    refine ⟨_, PSs.nox (pss_cons (ps_set (i := 1) sc_bases.nd rfl (Or.inl rfl) (pe_lstN (pa_cons (pe_callB call_isA (by rfl) zi (by decide +kernel) (pa_cons (pv 0) (pa_cons (pe_bltn (v := .ty "ValueError") (by rfl) zv (by decide +kernel) rfl) pa_nil))) (pa_cons (pe_callB call_isA (by rfl) zi (by decide +kernel) (pa_cons (pv 0) (pa_cons (pe_glob (v := .ref _) rfl (T.cl c1) rfl) pa_nil))) (pa_cons (pe_callB call_isA (by rfl) zi (by decide +kernel) (pa_cons (pv 0) (pa_cons (pe_glob (v := .ref _) rfl (T.cl c2) rfl) pa_nil))) pa_nil)))))
    (pss_one (ps_ret (pe_op op_catN (pv 1) (pe_lstN (pa_cons (pe_callB call_isA (by rfl) zi (by decide +kernel) (pa_cons (pv 0) (pa_cons (pe_glob (v := .ref _) rfl (T.cl c3) rfl) pa_nil))) (pa_cons (pe_callB call_isA (by rfl) zi (by decide +kernel) (pa_cons (pv 0) (pa_cons (pe_glob (v := .ref _) rfl (T.cl c4) rfl) pa_nil))) pa_nil))))))), ?_⟩
    obtain ⟨d, h1, h2⟩ := hE.ex
    have ki := fun {y : Str} (hy : y ∈ clss) => T.kit m hy
    refine ⟨_, rfl, .ref a, _, _, _, _, rfl, .ty _, .inr ⟨a, _, d, fl, rfl, rfl, h1, h2, T.xc m, T.xo⟩, T.ve m, ?_⟩
    refine ⟨_, rfl, .ref a, _, _, _, _, rfl, .own _, .inr ⟨a, _, d, fl, rfl, rfl, h1, h2, T.xc m, T.xo⟩, ki c1, ?_⟩
    refine ⟨_, rfl, .ref a, _, _, _, _, rfl, .own _, .inr ⟨a, _, d, fl, rfl, rfl, h1, h2, T.xc m, T.xo⟩, ki c2, ?_⟩
    refine ⟨sz1000 (by show 3 ≤ 1000; decide), fun q G1 f1 m1 s1 g1 => ?_⟩
    have h1' := h1.same s1
    have h2' := h2.same s1
    refine ⟨_, rfl, ?_⟩
    refine ⟨_, rfl, .ref a, _, _, _, _, rfl, .own _, .inr ⟨a, _, d, fl, rfl, rfl, h1', h2', T.xc m, T.xo⟩, ki c3, ?_⟩
    refine ⟨_, rfl, .ref a, _, _, _, _, rfl, .own _, .inr ⟨a, _, d, fl, rfl, rfl, h1', h2', T.xc m, T.xo⟩, ki c4, ?_⟩
    refine ⟨sz1000 (by show 2 ≤ 1000; decide), fun q2 G2 f2 m2 s2 g2 => ?_⟩
    refine ⟨q, q2, _, _, rfl, rfl, s2 _ _ g1, g2, sz1000 (by show 5 ≤ 1000; decide), fun q3 G3 f3 m3 s3 g3 => ?_⟩
    exact k q3 G3 ((s1.trans s2).free f3) m3 ((s1.trans s2).trans s3) g3
end
end K01
namespace K01
open PySem PySem.Spec PyProof.Rows L2 He Tw
section
variable {P : Program} {w : World} {K : Fg} {mg : Str → Option Value} {base : Heap}
theorem ok_kinds {f : Addr} {fd : FuncData} (F : FnP K "_law_kinds" "_law_kinds" s_kinds f fd) (T : Txt K mg) : FnOk P w K mg base CX0 1 f fd ["_law_error"] (spBools K kindsOf) := by
  have zi : mg "isinstance" = none := T.bl (by decide +kernel)
  have c_BadItem : (("BadItem") : Str) ∈ clss := by decide +kernel
  have c_BadPlace : (("BadPlace") : Str) ∈ clss := by decide +kernel
  have c_Disordered : (("Disordered") : Str) ∈ clss := by decide +kernel
  have c_BadTest : (("BadTest") : Str) ∈ clss := by decide +kernel
  have c_BadWalk : (("BadWalk") : Str) ∈ clss := by decide +kernel
  have c_BadText : (("BadText") : Str) ∈ clss := by decide +kernel
  have c_BadName : (("BadName") : Str) ∈ clss := by decide +kernel
  have c_Behind : (("Behind") : Str) ∈ clss := by decide +kernel
  have c_Unlike : (("Unlike") : Str) ∈ clss := by decide +kernel
  have c_Endless : (("Endless") : Str) ∈ clss := by decide +kernel
  have c_Unfit : (("Unfit") : Str) ∈ clss := by decide +kernel
  have c_TooMany : (("TooMany") : Str) ∈ clss := by decide +kernel
  have c_TooLarge : (("TooLarge") : Str) ∈ clss := by decide +kernel
  have c_NotNow : (("NotNow") : Str) ∈ clss := by decide +kernel
  refine F.ok sc_kinds (fun vs H Q E h => ?_) (fun cdv A outer s H vs Q E hr h => ?_)
  · obtain ⟨a, e, fl, rfl, _⟩ := h
    rfl
  · obtain ⟨a, e, fl, rfl, m, hE, k⟩ := h
    refine ⟨_, PSs.nox (pss_cons (ps_set (i := 1) sc_kinds.nd rfl (Or.inl rfl) (pe_lstN (pa_cons (pe_callB call_isA (by rfl) zi (by decide +kernel) (pa_cons (pv 0) (pa_cons (pe_glob (v := .ref _) rfl (T.cl c_BadItem) rfl) pa_nil))) (pa_cons (pe_callB call_isA (by rfl) zi (by decide +kernel) (pa_cons (pv 0) (pa_cons (pe_glob (v := .ref _) rfl (T.cl c_BadPlace) rfl) pa_nil))) (pa_cons (pe_callB call_isA (by rfl) zi (by decide +kernel) (pa_cons (pv 0) (pa_cons (pe_glob (v := .ref _) rfl (T.cl c_Disordered) rfl) pa_nil))) pa_nil)))))
    (pss_cons (ps_set (i := 1) sc_kinds.nd rfl (Or.inl rfl) (pe_op op_catN (pv 1) (pe_lstN (pa_cons (pe_callB call_isA (by rfl) zi (by decide +kernel) (pa_cons (pv 0) (pa_cons (pe_glob (v := .ref _) rfl (T.cl c_BadTest) rfl) pa_nil))) (pa_cons (pe_callB call_isA (by rfl) zi (by decide +kernel) (pa_cons (pv 0) (pa_cons (pe_glob (v := .ref _) rfl (T.cl c_BadWalk) rfl) pa_nil))) (pa_cons (pe_callB call_isA (by rfl) zi (by decide +kernel) (pa_cons (pv 0) (pa_cons (pe_glob (v := .ref _) rfl (T.cl c_BadText) rfl) pa_nil))) pa_nil))))))
    (pss_cons (ps_set (i := 1) sc_kinds.nd rfl (Or.inl rfl) (pe_op op_catN (pv 1) (pe_lstN (pa_cons (pe_callB call_isA (by rfl) zi (by decide +kernel) (pa_cons (pv 0) (pa_cons (pe_glob (v := .ref _) rfl (T.cl c_BadName) rfl) pa_nil))) (pa_cons (pe_callB call_isA (by rfl) zi (by decide +kernel) (pa_cons (pv 0) (pa_cons (pe_glob (v := .ref _) rfl (T.cl c_Behind) rfl) pa_nil))) (pa_cons (pe_callB call_isA (by rfl) zi (by decide +kernel) (pa_cons (pv 0) (pa_cons (pe_glob (v := .ref _) rfl (T.cl c_Unlike) rfl) pa_nil))) pa_nil))))))
    (pss_cons (ps_set (i := 1) sc_kinds.nd rfl (Or.inl rfl) (pe_op op_catN (pv 1) (pe_lstN (pa_cons (pe_callB call_isA (by rfl) zi (by decide +kernel) (pa_cons (pv 0) (pa_cons (pe_glob (v := .ref _) rfl (T.cl c_Endless) rfl) pa_nil))) (pa_cons (pe_callB call_isA (by rfl) zi (by decide +kernel) (pa_cons (pv 0) (pa_cons (pe_glob (v := .ref _) rfl (T.cl c_Unfit) rfl) pa_nil))) (pa_cons (pe_callB call_isA (by rfl) zi (by decide +kernel) (pa_cons (pv 0) (pa_cons (pe_glob (v := .ref _) rfl (T.cl c_TooMany) rfl) pa_nil))) pa_nil))))))
    (pss_one (ps_ret (pe_op op_catN (pv 1) (pe_lstN (pa_cons (pe_callB call_isA (by rfl) zi (by decide +kernel) (pa_cons (pv 0) (pa_cons (pe_glob (v := .ref _) rfl (T.cl c_TooLarge) rfl) pa_nil))) (pa_cons (pe_callB call_isA (by rfl) zi (by decide +kernel) (pa_cons (pv 0) (pa_cons (pe_glob (v := .ref _) rfl (T.cl c_NotNow) rfl) pa_nil))) pa_nil)))))))))), ?_⟩
    obtain ⟨d, h1, h2⟩ := hE.ex
    refine ⟨_, rfl, .ref a, _, _, _, _, rfl, .own _, .inr ⟨a, _, d, fl, rfl, rfl, h1, h2, T.xc m, T.xo⟩, T.kit m c_BadItem, ?_⟩
    refine ⟨_, rfl, .ref a, _, _, _, _, rfl, .own _, .inr ⟨a, _, d, fl, rfl, rfl, h1, h2, T.xc m, T.xo⟩, T.kit m c_BadPlace, ?_⟩
    refine ⟨_, rfl, .ref a, _, _, _, _, rfl, .own _, .inr ⟨a, _, d, fl, rfl, rfl, h1, h2, T.xc m, T.xo⟩, T.kit m c_Disordered, ?_⟩
    refine ⟨sz1000 (by show 3 ≤ 1000; decide), fun q G1 f1 m1 s1 g1 => ?_⟩
    replace h1 := h1.same s1
    replace h2 := h2.same s1
    have S1 := s1
    refine ⟨_, rfl, ?_⟩
    refine ⟨_, rfl, .ref a, _, _, _, _, rfl, .own _, .inr ⟨a, _, d, fl, rfl, rfl, h1, h2, T.xc m, T.xo⟩, T.kit m c_BadTest, ?_⟩
    refine ⟨_, rfl, .ref a, _, _, _, _, rfl, .own _, .inr ⟨a, _, d, fl, rfl, rfl, h1, h2, T.xc m, T.xo⟩, T.kit m c_BadWalk, ?_⟩
    refine ⟨_, rfl, .ref a, _, _, _, _, rfl, .own _, .inr ⟨a, _, d, fl, rfl, rfl, h1, h2, T.xc m, T.xo⟩, T.kit m c_BadText, ?_⟩
    refine ⟨sz1000 (by show 3 ≤ 1000; decide), fun q2 G2 f2 m2 s2 g2 => ?_⟩
    replace h1 := h1.same s2
    replace h2 := h2.same s2
    have S2 := S1.trans s2
    refine ⟨q, q2, _, _, rfl, rfl, s2 _ _ g1, g2, sz1000 (by show 6 ≤ 1000; decide), fun q3 G3 f3 m3 s3 g3 => ?_⟩
    replace h1 := h1.same s3
    replace h2 := h2.same s3
    have S3 := S2.trans s3
    refine ⟨_, rfl, ?_⟩
    refine ⟨_, rfl, .ref a, _, _, _, _, rfl, .own _, .inr ⟨a, _, d, fl, rfl, rfl, h1, h2, T.xc m, T.xo⟩, T.kit m c_BadName, ?_⟩
    refine ⟨_, rfl, .ref a, _, _, _, _, rfl, .own _, .inr ⟨a, _, d, fl, rfl, rfl, h1, h2, T.xc m, T.xo⟩, T.kit m c_Behind, ?_⟩
    refine ⟨_, rfl, .ref a, _, _, _, _, rfl, .own _, .inr ⟨a, _, d, fl, rfl, rfl, h1, h2, T.xc m, T.xo⟩, T.kit m c_Unlike, ?_⟩
    refine ⟨sz1000 (by show 3 ≤ 1000; decide), fun q4 G4 f4 m4 s4 g4 => ?_⟩
    replace h1 := h1.same s4
    replace h2 := h2.same s4
    have S4 := S3.trans s4
    refine ⟨q3, q4, _, _, rfl, rfl, s4 _ _ g3, g4, sz1000 (by show 9 ≤ 1000; decide), fun q5 G5 f5 m5 s5 g5 => ?_⟩
    replace h1 := h1.same s5
    replace h2 := h2.same s5
    have S5 := S4.trans s5
    refine ⟨_, rfl, ?_⟩
    refine ⟨_, rfl, .ref a, _, _, _, _, rfl, .own _, .inr ⟨a, _, d, fl, rfl, rfl, h1, h2, T.xc m, T.xo⟩, T.kit m c_Endless, ?_⟩
    refine ⟨_, rfl, .ref a, _, _, _, _, rfl, .own _, .inr ⟨a, _, d, fl, rfl, rfl, h1, h2, T.xc m, T.xo⟩, T.kit m c_Unfit, ?_⟩
    refine ⟨_, rfl, .ref a, _, _, _, _, rfl, .own _, .inr ⟨a, _, d, fl, rfl, rfl, h1, h2, T.xc m, T.xo⟩, T.kit m c_TooMany, ?_⟩
    refine ⟨sz1000 (by show 3 ≤ 1000; decide), fun q6 G6 f6 m6 s6 g6 => ?_⟩
    replace h1 := h1.same s6
    replace h2 := h2.same s6
    have S6 := S5.trans s6
    refine ⟨q5, q6, _, _, rfl, rfl, s6 _ _ g5, g6, sz1000 (by show 12 ≤ 1000; decide), fun q7 G7 f7 m7 s7 g7 => ?_⟩
    replace h1 := h1.same s7
    replace h2 := h2.same s7
    have S7 := S6.trans s7
    refine ⟨_, rfl, ?_⟩
    refine ⟨_, rfl, .ref a, _, _, _, _, rfl, .own _, .inr ⟨a, _, d, fl, rfl, rfl, h1, h2, T.xc m, T.xo⟩, T.kit m c_TooLarge, ?_⟩
    refine ⟨_, rfl, .ref a, _, _, _, _, rfl, .own _, .inr ⟨a, _, d, fl, rfl, rfl, h1, h2, T.xc m, T.xo⟩, T.kit m c_NotNow, ?_⟩
    refine ⟨sz1000 (by show 2 ≤ 1000; decide), fun q8 G8 f8 m8 s8 g8 => ?_⟩
    replace h1 := h1.same s8
    replace h2 := h2.same s8
    have S8 := S7.trans s8
    refine ⟨q7, q8, _, _, rfl, rfl, s8 _ _ g7, g8, sz1000 (by show 14 ≤ 1000; decide), fun q9 G9 f9 m9 s9 g9 => ?_⟩
    replace h1 := h1.same s9
    replace h2 := h2.same s9
    have S9 := S8.trans s9
    exact k q9 _ (S8.free f9) m9 S9 g9
abbrev s_right : Stmt := topS 26
abbrev N_right : List Str := ["_law_error", "_law_base", "_law_at", "_law_k"]
theorem sc_right : FnScope N_right ["_law_error", "_law_base", "_law_at"] (defScope s_right) := ⟨rfl, rfl, rfl, by decide +kernel, rfl, by decide +kernel, by decide +kernel⟩
theorem dp_bools {H : Hp} : ∀ bs : List Bool, DpAll K H (bs.map V.bl) (bs.map PyData.bool)
  | [] => .nil
  | b :: bs => .cons (.bl b) (dp_bools bs)
theorem lay_bools : ∀ bs : List Bool, PyData.canLayAll0 (bs.map PyData.bool) = true ∧ PyData.depthAll (bs.map PyData.bool) = 0
  | [] => ⟨rfl, rfl⟩
  | b :: bs => by
    obtain ⟨h1, h2⟩ := lay_bools bs
    constructor
    · simp only [List.map_cons, PyData.canLayAll0, PyData.canLay0, h1, Bool.and_self]
    · simp only [List.map_cons, PyData.depthAll, PyData.depth, h2, Nat.max_self]
theorem shaped_bools (bs : List Bool) : SeqAt.shaped (.list (bs.map PyData.bool)) = true := by
  obtain ⟨h1, h2⟩ := lay_bools bs
  simp [SeqAt.shaped, PyData.canLay0, PyData.depth, h1, h2]
theorem eqv_bools (bs : List Bool) : PyData.eqv (.list (bs.map PyData.bool)) (.list (bs.map PyData.bool)) = true :=
  SeqAt.eqv_refl _ (by simpa [PyData.canLay0] using (lay_bools bs).1)
end
end K01
namespace K01
open PySem PySem.Spec PyProof.Rows L2 He Tw
theorem dec_int (i j : Int) : decide (V.int i = V.int j) = decide (i = j) := by
  by_cases h : i = j
  · rw [h]; simp
  · have h2 : ¬ V.int i = V.int j := fun z => h (V.int.inj z)
    rw [decide_eq_false h, decide_eq_false h2]
theorem if_same {d : PyData} {A B : Prop} (h : PyData.eqv d d = true) (b : B) : if (!PyData.eqv d d) = true then A else B := by
  rw [h]
  exact iteF b
section
variable {P : Program} {w : World} {K : Fg} {mg : Str → Option Value} {base : Heap}
theorem ok_right {f fB fK : Addr} {fd fdB fdK : FuncData} (F : FnP K "_law_right" "_law_right" s_right f fd) (FB : FnP K "_law_bases" "_law_bases" s_bases fB fdB) (gB : mg "_law_bases" = some (.ref fB))
    (FK : FnP K "_law_kinds" "_law_kinds" s_kinds fK fdK) (gK : mg "_law_kinds" = some (.ref fK)) (T : Txt K mg) : FnOk P w K mg base CX0 2 f fd ["_law_error", "_law_base", "_law_at"] (spRight K) := by
  have G_bases : FnOk P w K mg base CX0 1 fB fdB ["_law_error"] (spBools K basesOf) := ok_bases FB T
  have b_bases : Binds K fdB ["_law_error"] [] := FB.bindsN fun _ _ _ _ _ _ us hl => match us, hl with | [_], _ => rfl
  have G_kinds : FnOk P w K mg base CX0 1 fK fdK ["_law_error"] (spBools K kindsOf) := ok_kinds FK T
  have b_kinds : Binds K fdK ["_law_error"] [] := FK.bindsN fun _ _ _ _ _ _ us hl => match us, hl with | [_], _ => rfl
  have zr : mg "range" = none := T.bl (by decide +kernel)
  refine F.ok sc_right (fun vs H Q E h => ?_) (fun cdv A outer s H vs Q E hr h => ?_)
  · obtain ⟨a, e, fl, rfl, _⟩ := h
    rfl
  · obtain ⟨a, e, fl, rfl, m, hE, k⟩ := h
    refine ⟨_, PSs.nox (pss_cons (ps_if (pt_cmpR (op_neD hr.units) (pe_call G_bases (hr.mono (by decide)) rfl gB FB.kp b_bases .nil pass0 (pa_cons (pv 0) pa_nil)) (pe_lstN (pa_cons pe_bl (pa_cons pe_bl (pa_cons (pe_cmpR op_eq (pv 1) pe_int (nomark _)) (pa_cons (pe_cmpR op_eq (pv 1) pe_int (nomark _)) (pa_cons (pe_cmpR op_eq (pv 1) pe_int (nomark _)) pa_nil)))))) (nomark _)) (pss_one (ps_ret pe_bl)) pss_nil)
    (pss_one (ps_ret (pe_cmpR (op_eqD hr.units) (pe_call G_kinds (hr.mono (by decide)) rfl gK FK.kp b_kinds .nil pass0 (pa_cons (pv 0) pa_nil)) (pe_lc (own := [("_law_k", 3)]) (g := gName 3) (by rfl) sc_right.nd (pi_range1 rfl zr (pa_cons pe_int pa_nil)) (blkOk_by (own := [("_law_k", 3)]) (N := N_right) (sc := defScope s_right) (by decide +kernel)) (fun _ _ _ _ _ => (pg_name (i := 3) sc_right.nd rfl (Or.inl rfl))) (fun _ _ _ _ _ => pts_nil) (fun _ _ _ _ _ => (pe_cmpR op_eq (pv 3) (pv 2) (nomark _)))) (nomark _))))), ?_⟩
    refine ⟨_, rfl, a, e, fl, rfl, m, hE, fun q1 G1 f1 m1 s1 g1 => ?_⟩
    refine ⟨_, rfl, rfl, _, rfl, rfl, _, rfl, rfl, sz1000 (by show 5 ≤ 1000; decide), fun q2 G2 f2 m2 s2 g2 => ?_⟩
    rw [dec_int, dec_int, dec_int] at g2
    have g2' : G2 q2 = some (.lst ((basesOf e).map V.bl)) := by
      rw [bases_eq e m]
      exact g2
    refine ⟨.list ((basesOf e).map .bool), .list ((basesOf e).map .bool), .lst (SqL.of (s2 _ _ g1)) (dp_bools _), .lst (SqL.of g2') (dp_bools _), shaped_bools _, shaped_bools _, _, rfl, ?_⟩
    refine if_same (eqv_bools _) ?_
    refine ⟨_, rfl, a, e, fl, rfl, m, (hE.same s1).same s2, fun q3 G3 f3 m3 s3 g3 => ?_⟩
    refine ⟨14, rfl, by decide, by decide, fun D hD => lc_range (lo := 0) (n := 14) (fun i H' => Same G3 H' ∧ H' D = some (.lst (((List.range i).map fun (k : Nat) => decide ((k : Int) = idx e)).map V.bl))) ⟨same_new hD, upd_same⟩ ?_ ?_⟩
    · rintro i H' hi ⟨sD, gD⟩
      refine ⟨rfl, _, rfl, _, rfl, rfl, _, gD, ?_, ?_, ?_⟩
      · rw [List.length_map, List.length_map, List.length_range]
        exact Nat.lt_of_lt_of_le hi (sz1000 (by decide))
      · exact fun b o hb => by
          rw [upd_ne (ne_of_none hb hD)]
          exact sD b o hb
      · rw [upd_same, dec_int, Int.zero_add, List.range_succ, List.map_append, List.map_append]
        rfl
    · rintro H' ⟨sD, gD⟩
      rw [← kinds_eq e m] at gD
      refine ⟨.list ((kindsOf e).map .bool), .list ((kindsOf e).map .bool), .lst (SqL.of (sD _ _ g3)) (dp_bools _), .lst (SqL.of gD) (dp_bools _), shaped_bools _, shaped_bools _, ?_⟩
      rw [eqv_bools]
      exact k H' (((s1.trans s2).trans s3).trans sD)
end
end K01
namespace K01
open PySem PySem.Spec PyProof.Rows L2 He Tw
theorem lk1 {f : Str} {v : V} : List.lookup f [(f, v)] = some v := by simp [List.lookup]
theorem lk2a {f g : Str} {u v : V} : List.lookup g [(g, u), (f, v)] = some u := by simp [List.lookup]
theorem lk2b {f g : Str} {u v : V} (h : (f == g) = false) : List.lookup f [(g, u), (f, v)] = some v := by simp [List.lookup, h]
theorem made_same {a : Addr} {o : HO} {H H' : Hp} (ha : H a = none) (b : But a (upd H a o) H') : Same H H' := fun c u e => b c u (by rw [upd_ne (ne_of_none e ha)]; exact e) (ne_of_none e ha)
theorem made_free {a d : Addr} {o : HO} {H : Hp} (hd : upd H a o d = none) (h : d ≠ a) : H d = none := by
  rw [upd_ne h] at hd
  exact hd
/-- two values are told, whatever they are -/
def spTell (K : Fg) : Sp := fun vs H Q _ => ∃ (v1 v2 : V) (d1 d2 : PyData), vs = [v1, v2] ∧ Dx K H v1 d1 ∧ Dx K H v2 d2 ∧ mild d1 = true ∧ mild d2 = true ∧ d1.depth ≤ 3 ∧ d2.depth ≤ 3 ∧ cap d1 ≤ 100000 ∧ cap d2 ≤ 100000 ∧ ∀ H', Same H H' → Q (.bl true) H'
abbrev s_inputs : Stmt := topS 27
abbrev N_inputs : List Str := ["_law_one", "_law_other", "_law_item", "_law_place", "_law_row", "_law_test", "_law_walk", "_law_text", "_law_name", "_law_some", "_law_k", "_law_fields"]
theorem sc_inputs : FnScope N_inputs ["_law_one", "_law_other"] (defScope s_inputs) := ⟨rfl, rfl, rfl, by decide +kernel, rfl, by decide +kernel, by decide +kernel⟩
section
variable {P : Program} {w : World} {K : Fg} {mg : Str → Option Value} {base : Heap}
/-- the __init__s -/
structure Inis (K : Fg) (fd : Str → FuncData) : Prop where
  f_BadItem : FnP K "__init__" "BadItem.__init__" s_BadItem (ma K (ga K "BadItem") "__init__") (fd "BadItem")
  f_BadPlace : FnP K "__init__" "BadPlace.__init__" s_BadPlace (ma K (ga K "BadPlace") "__init__") (fd "BadPlace")
  f_Disordered : FnP K "__init__" "Disordered.__init__" s_Disordered (ma K (ga K "Disordered") "__init__") (fd "Disordered")
  f_BadTest : FnP K "__init__" "BadTest.__init__" s_BadTest (ma K (ga K "BadTest") "__init__") (fd "BadTest")
  f_BadWalk : FnP K "__init__" "BadWalk.__init__" s_BadWalk (ma K (ga K "BadWalk") "__init__") (fd "BadWalk")
  f_BadText : FnP K "__init__" "BadText.__init__" s_BadText (ma K (ga K "BadText") "__init__") (fd "BadText")
  f_BadName : FnP K "__init__" "BadName.__init__" s_BadName (ma K (ga K "BadName") "__init__") (fd "BadName")
  f_Behind : FnP K "__init__" "Behind.__init__" s_Behind (ma K (ga K "Behind") "__init__") (fd "Behind")
  f_Unlike : FnP K "__init__" "Unlike.__init__" s_Unlike (ma K (ga K "Unlike") "__init__") (fd "Unlike")
  f_Endless : FnP K "__init__" "Endless.__init__" s_Endless (ma K (ga K "Endless") "__init__") (fd "Endless")
  f_Unfit : FnP K "__init__" "Unfit.__init__" s_Unfit (ma K (ga K "Unfit") "__init__") (fd "Unfit")
  f_TooMany : FnP K "__init__" "TooMany.__init__" s_TooMany (ma K (ga K "TooMany") "__init__") (fd "TooMany")
  f_TooLarge : FnP K "__init__" "TooLarge.__init__" s_TooLarge (ma K (ga K "TooLarge") "__init__") (fd "TooLarge")
  f_NotNow : FnP K "__init__" "NotNow.__init__" s_NotNow (ma K (ga K "NotNow") "__init__") (fd "NotNow")
theorem ok_inputs {f fR : Addr} {fd fdR : FuncData} {fi : Str → FuncData} (F : FnP K "_law_inputs" "_law_inputs" s_inputs f fd) (G_right : FnOk P w K mg base CX0 2 fR fdR ["_law_error", "_law_base", "_law_at"] (spRight K)) (FR : FnP K "_law_right" "_law_right" s_right fR fdR) (gR : mg "_law_right" = some (.ref fR)) (I : Inis K fi) (T : Txt K mg) :
    FnG P w K mg base CX0 3 f fd ["_law_one", "_law_other"] (spTell K) := by
  have b_right : Binds K fdR ["_law_error", "_law_base", "_law_at"] [] := FR.bindsN fun _ _ _ _ _ _ us hl => match us, hl with | [_, _, _], _ => rfl
  have zr : mg "range" = none := T.bl (by decide +kernel)
  have zp : mg "repr" = none := T.bl (by decide +kernel)
  have m_BadItem : (("BadItem", 5) : Str × Nat) ∈ excs := by decide +kernel
  have c_BadItem : (("BadItem") : Str) ∈ clss := by decide +kernel
  have G_BadItem : FnOk P w K mg base CX0 1 (ma K (ga K "BadItem") "__init__") (fi "BadItem") ["self", "part"] (spIni1 (ga K "BadItem") "part") := ok_BadItem I.f_BadItem T
  have b_BadItem : Binds K (fi "BadItem") ["self", "part"] [] := I.f_BadItem.bindsN fun _ _ _ _ _ _ us hl => match us, hl with | [_, _], _ => rfl
  have m_BadPlace : (("BadPlace", 6) : Str × Nat) ∈ excs := by decide +kernel
  have c_BadPlace : (("BadPlace") : Str) ∈ clss := by decide +kernel
  have G_BadPlace : FnOk P w K mg base CX0 1 (ma K (ga K "BadPlace") "__init__") (fi "BadPlace") ["self", "at"] (spIni1 (ga K "BadPlace") "at") := ok_BadPlace I.f_BadPlace T
  have b_BadPlace : Binds K (fi "BadPlace") ["self", "at"] [] := I.f_BadPlace.bindsN fun _ _ _ _ _ _ us hl => match us, hl with | [_, _], _ => rfl
  have m_Disordered : (("Disordered", 7) : Str × Nat) ∈ excs := by decide +kernel
  have c_Disordered : (("Disordered") : Str) ∈ clss := by decide +kernel
  have G_Disordered : FnOk P w K mg base CX0 1 (ma K (ga K "Disordered") "__init__") (fi "Disordered") ["self", "at"] (spIni1 (ga K "Disordered") "at") := ok_Disordered I.f_Disordered T
  have b_Disordered : Binds K (fi "Disordered") ["self", "at"] [] := I.f_Disordered.bindsN fun _ _ _ _ _ _ us hl => match us, hl with | [_, _], _ => rfl
  have m_BadTest : (("BadTest", 8) : Str × Nat) ∈ excs := by decide +kernel
  have c_BadTest : (("BadTest") : Str) ∈ clss := by decide +kernel
  have G_BadTest : FnOk P w K mg base CX0 1 (ma K (ga K "BadTest") "__init__") (fi "BadTest") ["self", "at", "word"] (spIni2 (ga K "BadTest") "at" "word") := ok_BadTest I.f_BadTest T
  have b_BadTest : Binds K (fi "BadTest") ["self", "at", "word"] [] := I.f_BadTest.bindsN fun _ _ _ _ _ _ us hl => match us, hl with | [_, _, _], _ => rfl
  have m_BadWalk : (("BadWalk", 9) : Str × Nat) ∈ excs := by decide +kernel
  have c_BadWalk : (("BadWalk") : Str) ∈ clss := by decide +kernel
  have G_BadWalk : FnOk P w K mg base CX0 1 (ma K (ga K "BadWalk") "__init__") (fi "BadWalk") ["self", "reason", "line"] (spIni2 (ga K "BadWalk") "reason" "line") := ok_BadWalk I.f_BadWalk T
  have b_BadWalk : Binds K (fi "BadWalk") ["self", "reason", "line"] [] := I.f_BadWalk.bindsN fun _ _ _ _ _ _ us hl => match us, hl with | [_, _, _], _ => rfl
  have m_BadText : (("BadText", 10) : Str × Nat) ∈ excs := by decide +kernel
  have c_BadText : (("BadText") : Str) ∈ clss := by decide +kernel
  have G_BadText : FnOk P w K mg base CX0 1 (ma K (ga K "BadText") "__init__") (fi "BadText") ["self", "row", "word"] (spIni2 (ga K "BadText") "row" "word") := ok_BadText I.f_BadText T
  have b_BadText : Binds K (fi "BadText") ["self", "row", "word"] [] := I.f_BadText.bindsN fun _ _ _ _ _ _ us hl => match us, hl with | [_, _, _], _ => rfl
  have m_BadName : (("BadName", 11) : Str × Nat) ∈ excs := by decide +kernel
  have c_BadName : (("BadName") : Str) ∈ clss := by decide +kernel
  have G_BadName : FnOk P w K mg base CX0 1 (ma K (ga K "BadName") "__init__") (fi "BadName") ["self", "name"] (spIni1 (ga K "BadName") "name") := ok_BadName I.f_BadName T
  have b_BadName : Binds K (fi "BadName") ["self", "name"] [] := I.f_BadName.bindsN fun _ _ _ _ _ _ us hl => match us, hl with | [_, _], _ => rfl
  refine F.okG sc_inputs (fun vs H Q E h => ?_) (fun cdv A outer s H vs Q E hr hg h => ?_)
  · obtain ⟨v1, v2, d1, d2, rfl, _⟩ := h
    rfl
  · obtain ⟨v1, v2, d1, d2, rfl, x1, x2, n1, n2, p1, p2, k1, k2, k⟩ := h
    refine ⟨_, PSs.nox (pss_cons (ps_par3 (i := 2) (j := 3) (l := 4) (by rfl) sc_inputs.nd rfl rfl rfl (by decide) (by decide) (by decide) rfl rfl rfl (pa_cons (pe_mkX (T.xc m_BadItem).ox (T.ini m_BadItem).1 (T.ini m_BadItem).2 G_BadItem (hr.mono (by decide)) b_BadItem .nil pass0 rfl (T.cl c_BadItem) (pa_cons (pv 0) pa_nil)) (pa_cons (pe_mkX (T.xc m_BadPlace).ox (T.ini m_BadPlace).1 (T.ini m_BadPlace).2 G_BadPlace (hr.mono (by decide)) b_BadPlace .nil pass0 rfl (T.cl c_BadPlace) (pa_cons (pv 0) pa_nil)) (pa_cons (pe_mkX (T.xc m_Disordered).ox (T.ini m_Disordered).1 (T.ini m_Disordered).2 G_Disordered (hr.mono (by decide)) b_Disordered .nil pass0 rfl (T.cl c_Disordered) (pa_cons (pv 0) pa_nil)) pa_nil))) (by rfl))
    (pss_cons (ps_asg (pe_tupN (pa_cons (pe_mkX (T.xc m_BadTest).ox (T.ini m_BadTest).1 (T.ini m_BadTest).2 G_BadTest (hr.mono (by decide)) b_BadTest .nil pass0 rfl (T.cl c_BadTest) (pa_cons (pv 0) (pa_cons (pv 1) pa_nil))) (pa_cons (pe_mkX (T.xc m_BadWalk).ox (T.ini m_BadWalk).1 (T.ini m_BadWalk).2 G_BadWalk (hr.mono (by decide)) b_BadWalk .nil pass0 rfl (T.cl c_BadWalk) (pa_cons (pv 0) (pa_cons (pv 1) pa_nil))) (pa_cons (pe_mkX (T.xc m_BadText).ox (T.ini m_BadText).1 (T.ini m_BadText).2 G_BadText (hr.mono (by decide)) b_BadText .nil pass0 rfl (T.cl c_BadText) (pa_cons (pv 0) (pa_cons (pv 1) pa_nil))) (pa_cons (pe_mkX (T.xc m_BadName).ox (T.ini m_BadName).1 (T.ini m_BadName).2 G_BadName (hr.mono (by decide)) b_BadName .nil pass0 rfl (T.cl c_BadName) (pa_cons (pv 0) pa_nil)) pa_nil))))) (pg_tup (by rfl) (pgs_cons (pg_name (i := 5) sc_inputs.nd rfl (Or.inl rfl)) (pgs_cons (pg_name (i := 6) sc_inputs.nd rfl (Or.inl rfl)) (pgs_cons (pg_name (i := 7) sc_inputs.nd rfl (Or.inl rfl)) (pgs_cons (pg_name (i := 8) sc_inputs.nd rfl (Or.inl rfl)) pgs_nil))))))
    (pss_cons (ps_set (i := 9) sc_inputs.nd rfl (Or.inr rfl) (pe_lstN (pa_cons (pv 2) (pa_cons (pv 3) (pa_cons (pv 4) (pa_cons (pv 5) (pa_cons (pv 6) (pa_cons (pv 7) (pa_cons (pv 8) pa_nil)))))))))
    (pss_cons (ps_if (pt_cmpR (op_neD hr.units) (pe_lc (own := [("_law_k", 10)]) (g := gName 10) (by rfl) sc_inputs.nd (pi_range1 rfl zr (pa_cons pe_int pa_nil)) (blkOk_by (own := [("_law_k", 10)]) (N := N_inputs) (sc := defScope s_inputs) (by decide +kernel)) (fun _ _ _ _ _ => (pg_name (i := 10) sc_inputs.nd rfl (Or.inl rfl))) (fun _ _ _ _ _ => pts_one (pt_not (pt_val (pe_call G_right (hr.mono (by decide)) rfl gR FR.kp b_right .nil pass0 (pa_cons (pe_ix (ixl K) (pv 9) (pv 10) (fun _ _ => rfl)) (pa_cons pe_int (pa_cons (pv 10) pa_nil))))))) (fun _ _ _ _ _ => (pv 10))) (pe_lstN pa_nil) (nomark _)) (pss_one (ps_ret pe_bl)) pss_nil)
    (pss_cons (ps_if (pt_cmpR op_ne (pe_callB (call_repr hg (room70 hr)) (by rfl) zp (by decide +kernel) (pa_cons (pe_lstN (pa_cons (pe_xfld (pv 2)) (pa_cons (pe_xfld (pv 3)) (pa_cons (pe_xfld (pv 4)) (pa_cons (pe_xfld (pv 8)) pa_nil))))) pa_nil)) (pe_callB (call_repr hg (room70 hr)) (by rfl) zp (by decide +kernel) (pa_cons (pe_lstN (pa_cons (pv 0) (pa_cons (pv 0) (pa_cons (pv 0) (pa_cons (pv 0) pa_nil))))) pa_nil)) (nomark _)) (pss_one (ps_ret pe_bl)) pss_nil)
    (pss_cons (ps_set (i := 11) sc_inputs.nd rfl (Or.inl rfl) (pe_lstN (pa_cons (pe_xfld (pv 5)) (pa_cons (pe_xfld (pv 5)) (pa_cons (pe_xfld (pv 6)) (pa_cons (pe_xfld (pv 6)) (pa_cons (pe_xfld (pv 7)) (pa_cons (pe_xfld (pv 7)) pa_nil))))))))
    (pss_one (ps_ret (pe_cmpR op_eq (pe_callB (call_repr hg (room70 hr)) (by rfl) zp (by decide +kernel) (pa_cons (pv 11) pa_nil)) (pe_callB (call_repr hg (room70 hr)) (by rfl) zp (by decide +kernel) (pa_cons (pe_lstN (pa_cons (pv 0) (pa_cons (pv 1) (pa_cons (pv 0) (pa_cons (pv 1) (pa_cons (pv 0) (pa_cons (pv 1) pa_nil))))))) pa_nil)) (nomark _)))))))))), ?_⟩
    refine ⟨_, rfl, (by show 1 ≤ 1000; decide), fun a0 w0 => ⟨a0, v1, rfl, upd_same, fun d_0 G0 hd0 hn0 e0 y0 B0 => ⟨rfl, ?_⟩⟩⟩
    have s0 := made_same w0 B0
    have E0 : Er K G0 ("BadItem", 5) a0 [("part", v1)] := ⟨⟨d_0, .inl e0, .inl y0⟩⟩
    have S0 := (Same.refl H).trans s0
    refine ⟨_, rfl, (by show 1 ≤ 1000; decide), fun a1 w1 => ⟨a1, v1, rfl, upd_same, fun d_1 G1 hd1 hn1 e1 y1 B1 => ⟨rfl, ?_⟩⟩⟩
    have s1 := made_same w1 B1
    have E1 : Er K G1 ("BadPlace", 6) a1 [("at", v1)] := ⟨⟨d_1, .inl e1, .inl y1⟩⟩
    have S1 := S0.trans s1
    replace E0 := E0.same s1
    refine ⟨_, rfl, (by show 1 ≤ 1000; decide), fun a2 w2 => ⟨a2, v1, rfl, upd_same, fun d_2 G2 hd2 hn2 e2 y2 B2 => ⟨rfl, ?_⟩⟩⟩
    have s2 := made_same w2 B2
    have E2 : Er K G2 ("Disordered", 7) a2 [("at", v1)] := ⟨⟨d_2, .inl e2, .inl y2⟩⟩
    have S2 := S1.trans s2
    replace E0 := E0.same s2
    replace E1 := E1.same s2
    refine ⟨_, _, _, rfl, ?_⟩
    refine ⟨_, rfl, _, rfl, (by show 2 ≤ 1000; decide), fun a3 w3 => ⟨a3, v1, v2, rfl, upd_same, fun d_3 G3 hd3 hn3 e3 y3 B3 => ⟨rfl, ?_⟩⟩⟩
    have s3 := made_same w3 B3
    have E3 : Er K G3 ("BadTest", 8) a3 [("word", v2), ("at", v1)] := ⟨⟨d_3, .inl e3, .inl y3⟩⟩
    have S3 := S2.trans s3
    replace E0 := E0.same s3
    replace E1 := E1.same s3
    replace E2 := E2.same s3
    refine ⟨_, rfl, _, rfl, (by show 2 ≤ 1000; decide), fun a4 w4 => ⟨a4, v1, v2, rfl, upd_same, fun d_4 G4 hd4 hn4 e4 y4 B4 => ⟨rfl, ?_⟩⟩⟩
    have s4 := made_same w4 B4
    have E4 : Er K G4 ("BadWalk", 9) a4 [("line", v2), ("reason", v1)] := ⟨⟨d_4, .inl e4, .inl y4⟩⟩
    have S4 := S3.trans s4
    replace E0 := E0.same s4
    replace E1 := E1.same s4
    replace E2 := E2.same s4
    replace E3 := E3.same s4
    refine ⟨_, rfl, _, rfl, (by show 2 ≤ 1000; decide), fun a5 w5 => ⟨a5, v1, v2, rfl, upd_same, fun d_5 G5 hd5 hn5 e5 y5 B5 => ⟨rfl, ?_⟩⟩⟩
    have s5 := made_same w5 B5
    have E5 : Er K G5 ("BadText", 10) a5 [("word", v2), ("row", v1)] := ⟨⟨d_5, .inl e5, .inl y5⟩⟩
    have S5 := S4.trans s5
    replace E0 := E0.same s5
    replace E1 := E1.same s5
    replace E2 := E2.same s5
    replace E3 := E3.same s5
    replace E4 := E4.same s5
    refine ⟨_, rfl, (by show 1 ≤ 1000; decide), fun a6 w6 => ⟨a6, v1, rfl, upd_same, fun d_6 G6 hd6 hn6 e6 y6 B6 => ⟨rfl, ?_⟩⟩⟩
    have s6 := made_same w6 B6
    have E6 : Er K G6 ("BadName", 11) a6 [("name", v1)] := ⟨⟨d_6, .inl e6, .inl y6⟩⟩
    have S6 := S5.trans s6
    replace E0 := E0.same s6
    replace E1 := E1.same s6
    replace E2 := E2.same s6
    replace E3 := E3.same s6
    replace E4 := E4.same s6
    replace E5 := E5.same s6
    refine ⟨sz1000 (by show 4 ≤ 1000; decide), fun t G7 f7 s7 g7 => ?_⟩
    refine ⟨t, _, rfl, SqT.of g7, rfl, _, _, rfl, _, _, rfl, _, _, rfl, _, _, rfl, rfl, ?_⟩
    replace E0 := E0.same s7
    replace E1 := E1.same s7
    replace E2 := E2.same s7
    replace E3 := E3.same s7
    replace E4 := E4.same s7
    replace E5 := E5.same s7
    replace E6 := E6.same s7
    refine ⟨_, rfl, _, rfl, _, rfl, _, rfl, _, rfl, _, rfl, _, rfl, sz1000 (by show 7 ≤ 1000; decide), fun q8 G8 f8 m8 s8 g8 => ?_⟩
    replace E0 := E0.same s8
    replace E1 := E1.same s8
    replace E2 := E2.same s8
    replace E3 := E3.same s8
    replace E4 := E4.same s8
    replace E5 := E5.same s8
    replace E6 := E6.same s8
    have S8 := (S6.trans s7).trans s8
    have at7 : ∀ i : Nat, i < 7 → ∃ (a : Addr) (e : Str × Nat) (fl : List (Str × V)), ([.ref a0, .ref a1, .ref a2, .ref a3, .ref a4, .ref a5, .ref a6] : List V)[i]? = some (.ref a) ∧ e ∈ excs ∧ grp e = 0 ∧ idx e = (i : Int) ∧ Er K G8 e a fl := fun i hi => match i, hi with
      | 0, _ => ⟨a0, _, _, rfl, m_BadItem, rfl, rfl, E0⟩
      | 1, _ => ⟨a1, _, _, rfl, m_BadPlace, rfl, rfl, E1⟩
      | 2, _ => ⟨a2, _, _, rfl, m_Disordered, rfl, rfl, E2⟩
      | 3, _ => ⟨a3, _, _, rfl, m_BadTest, rfl, rfl, E3⟩
      | 4, _ => ⟨a4, _, _, rfl, m_BadWalk, rfl, rfl, E4⟩
      | 5, _ => ⟨a5, _, _, rfl, m_BadText, rfl, rfl, E5⟩
      | 6, _ => ⟨a6, _, _, rfl, m_BadName, rfl, rfl, E6⟩
    refine ⟨7, rfl, by decide, by decide, fun D hD => lc_range (lo := 0) (n := 7) (fun i H' => Same G8 H' ∧ H' D = some (.lst [])) ⟨same_new hD, upd_same⟩ ?_ ?_⟩
    · rintro i H' hi ⟨sD, gD⟩
      obtain ⟨a, e, fl, hx, me, hgr, hix, he⟩ := at7 i hi
      refine ⟨rfl, _, rfl, _, rfl, q8, _, _, _, rfl, rfl, SqL.of (sD _ _ g8), (by rw [Int.zero_add]; exact atI_nat hx), _, rfl, a, e, fl, ?_, me, he.same sD, fun H2 s2 => ⟨true, rfl, ?_⟩⟩
      · rw [hgr, hix, Int.zero_add]
        rfl
      · exact ⟨sD.trans s2, s2 _ _ gD⟩
    rintro G9 ⟨s9, gD⟩
    refine ⟨sz1000 (Nat.zero_le _), fun q10 G10 f10 m10 s10 g10 => ?_⟩
    refine ⟨.list [], .list [], .lst (SqL.of (s10 _ _ gD)) .nil, .lst (SqL.of g10) .nil, by decide, by decide, _, rfl, ?_⟩
    refine if_same (by decide) ?_
    have S10 := (S8.trans s9).trans s10
    replace E0 := (E0.same s9).same s10
    replace E1 := (E1.same s9).same s10
    replace E2 := (E2.same s9).same s10
    replace E3 := (E3.same s9).same s10
    replace E4 := (E4.same s9).same s10
    replace E5 := (E5.same s9).same s10
    replace E6 := (E6.same s9).same s10
    obtain ⟨dd0, i0, z0⟩ := E0.ex
    obtain ⟨dd1, i1, z1⟩ := E1.ex
    obtain ⟨dd2, i2, z2⟩ := E2.ex
    obtain ⟨dd3, i3, z3⟩ := E3.ex
    obtain ⟨dd4, i4, z4⟩ := E4.ex
    obtain ⟨dd5, i5, z5⟩ := E5.ex
    obtain ⟨dd6, i6, z6⟩ := E6.ex
    refine ⟨_, rfl, a0, _, dd0, _, _, rfl, i0, T.xc m_BadItem, T.no m_BadItem (by decide +kernel), z0, lk1, _, rfl, a1, _, dd1, _, _, rfl, i1, T.xc m_BadPlace, T.no m_BadPlace (by decide +kernel), z1, lk1, _, rfl, a2, _, dd2, _, _, rfl, i2, T.xc m_Disordered, T.no m_Disordered (by decide +kernel), z2, lk1, _, rfl, a6, _, dd6, _, _, rfl, i6, T.xc m_BadName, T.no m_BadName (by decide +kernel), z6, lk1, sz1000 (by show 4 ≤ 1000; decide), fun q11 G11 f11 m11 s11 g11 => ?_⟩
    have X1 := x1.same (S10.trans s11)
    have hc4 : cap (.list [d1, d1, d1, d1]) ≤ 16777216 := by simp only [cap, capAll]; omega
    have hd4 : (PyData.list [d1, d1, d1, d1]).depth ≤ 64 := by simp only [PyData.depth, PyData.depthAll]; omega
    have hm4 : mild (.list [d1, d1, d1, d1]) = true := by simp only [mild, mildAll, n1, Bool.and_self]
    refine ⟨q11, .list [d1, d1, d1, d1], rfl, .lst (SqL.of g11) m11 (.cons X1 (.cons X1 (.cons X1 (.cons X1 .nil)))), hm4, hd4, hc4, ?_⟩
    refine ⟨_, rfl, _, rfl, _, rfl, _, rfl, sz1000 (by show 4 ≤ 1000; decide), fun q12 G12 f12 m12 s12 g12 => ?_⟩
    have X2 := X1.same s12
    refine ⟨q12, .list [d1, d1, d1, d1], rfl, .lst (SqL.of g12) m12 (.cons X2 (.cons X2 (.cons X2 (.cons X2 .nil)))), hm4, hd4, hc4, rfl, _, rfl, ?_⟩
    refine iteNS rfl ?_
    have S12 := (S10.trans s11).trans s12
    replace i0 := (i0.same s11).same s12
    replace z0 := (z0.same s11).same s12
    replace i1 := (i1.same s11).same s12
    replace z1 := (z1.same s11).same s12
    replace i2 := (i2.same s11).same s12
    replace z2 := (z2.same s11).same s12
    replace i3 := (i3.same s11).same s12
    replace z3 := (z3.same s11).same s12
    replace i4 := (i4.same s11).same s12
    replace z4 := (z4.same s11).same s12
    replace i5 := (i5.same s11).same s12
    replace z5 := (z5.same s11).same s12
    replace i6 := (i6.same s11).same s12
    replace z6 := (z6.same s11).same s12
    refine ⟨_, rfl, a3, _, dd3, _, _, rfl, i3, T.xc m_BadTest, T.no m_BadTest (by decide +kernel), z3, (lk2b (by decide)), _, rfl, a3, _, dd3, _, _, rfl, i3, T.xc m_BadTest, T.no m_BadTest (by decide +kernel), z3, lk2a, _, rfl, a4, _, dd4, _, _, rfl, i4, T.xc m_BadWalk, T.no m_BadWalk (by decide +kernel), z4, (lk2b (by decide)), _, rfl, a4, _, dd4, _, _, rfl, i4, T.xc m_BadWalk, T.no m_BadWalk (by decide +kernel), z4, lk2a, _, rfl, a5, _, dd5, _, _, rfl, i5, T.xc m_BadText, T.no m_BadText (by decide +kernel), z5, (lk2b (by decide)), _, rfl, a5, _, dd5, _, _, rfl, i5, T.xc m_BadText, T.no m_BadText (by decide +kernel), z5, lk2a, sz1000 (by show 6 ≤ 1000; decide), fun q13 G13 f13 m13 s13 g13 => ?_⟩
    have Y1 := x1.same (S12.trans s13)
    have Y2 := x2.same (S12.trans s13)
    have hc6 : cap (.list [d1, d2, d1, d2, d1, d2]) ≤ 16777216 := by simp only [cap, capAll]; omega
    have hd6 : (PyData.list [d1, d2, d1, d2, d1, d2]).depth ≤ 64 := by simp only [PyData.depth, PyData.depthAll]; omega
    have hm6 : mild (.list [d1, d2, d1, d2, d1, d2]) = true := by simp only [mild, mildAll, n1, n2, Bool.and_self]
    refine ⟨_, rfl, q13, .list [d1, d2, d1, d2, d1, d2], rfl, .lst (SqL.of g13) m13 (.cons Y1 (.cons Y2 (.cons Y1 (.cons Y2 (.cons Y1 (.cons Y2 .nil)))))), hm6, hd6, hc6, ?_⟩
    refine ⟨_, rfl, _, rfl, _, rfl, _, rfl, _, rfl, _, rfl, sz1000 (by show 6 ≤ 1000; decide), fun q14 G14 f14 m14 s14 g14 => ?_⟩
    have Z1 := Y1.same s14
    have Z2 := Y2.same s14
    refine ⟨q14, .list [d1, d2, d1, d2, d1, d2], rfl, .lst (SqL.of g14) m14 (.cons Z1 (.cons Z2 (.cons Z1 (.cons Z2 (.cons Z1 (.cons Z2 .nil)))))), hm6, hd6, hc6, rfl, ?_⟩
    rw [decide_eq_true (rfl : V.str (PyData.list [d1, d2, d1, d2, d1, d2]).shown = V.str (PyData.list [d1, d2, d1, d2, d1, d2]).shown)]
    exact k G14 ((S12.trans s13).trans s14)
end
end K01
namespace K01
open PySem PySem.Spec PyProof.Rows L2 He Tw
abbrev s_others : Stmt := topS 28
abbrev N_others : List Str := ["_law_one", "_law_other", "_law_behind", "_law_apart", "_law_endless", "_law_unfit", "_law_many", "_law_large", "_law_late", "_law_falls", "_law_k", "_law_some", "_law_fields"]
theorem sc_others : FnScope N_others ["_law_one", "_law_other"] (defScope s_others) := ⟨rfl, rfl, rfl, by decide +kernel, rfl, by decide +kernel, by decide +kernel⟩
section
variable {P : Program} {w : World} {K : Fg} {mg : Str → Option Value} {base : Heap}
theorem ok_others {f fR : Addr} {fd fdR : FuncData} {fi : Str → FuncData} (F : FnP K "_law_others" "_law_others" s_others f fd) (G_right : FnOk P w K mg base CX0 2 fR fdR ["_law_error", "_law_base", "_law_at"] (spRight K)) (FR : FnP K "_law_right" "_law_right" s_right fR fdR) (gR : mg "_law_right" = some (.ref fR)) (I : Inis K fi) (T : Txt K mg) :
    FnG P w K mg base CX0 3 f fd ["_law_one", "_law_other"] (spTell K) := by
  have b_right : Binds K fdR ["_law_error", "_law_base", "_law_at"] [] := FR.bindsN fun _ _ _ _ _ _ us hl => match us, hl with | [_, _, _], _ => rfl
  have zr : mg "range" = none := T.bl (by decide +kernel)
  have zp : mg "repr" = none := T.bl (by decide +kernel)
  have m_Behind : (("Behind", 12) : Str × Nat) ∈ excs := by decide +kernel
  have c_Behind : (("Behind") : Str) ∈ clss := by decide +kernel
  have G_Behind : FnOk P w K mg base CX0 1 (ma K (ga K "Behind") "__init__") (fi "Behind") ["self", "line", "side"] (spIni2 (ga K "Behind") "line" "side") := ok_Behind I.f_Behind T
  have b_Behind : Binds K (fi "Behind") ["self", "line", "side"] [] := I.f_Behind.bindsN fun _ _ _ _ _ _ us hl => match us, hl with | [_, _, _], _ => rfl
  have m_Unlike : (("Unlike", 13) : Str × Nat) ∈ excs := by decide +kernel
  have c_Unlike : (("Unlike") : Str) ∈ clss := by decide +kernel
  have G_Unlike : FnOk P w K mg base CX0 1 (ma K (ga K "Unlike") "__init__") (fi "Unlike") ["self", "line"] (spIni1 (ga K "Unlike") "line") := ok_Unlike I.f_Unlike T
  have b_Unlike : Binds K (fi "Unlike") ["self", "line"] [] := I.f_Unlike.bindsN fun _ _ _ _ _ _ us hl => match us, hl with | [_, _], _ => rfl
  have m_Endless : (("Endless", 14) : Str × Nat) ∈ excs := by decide +kernel
  have c_Endless : (("Endless") : Str) ∈ clss := by decide +kernel
  have G_Endless : FnOk P w K mg base CX0 1 (ma K (ga K "Endless") "__init__") (fi "Endless") ["self", "line"] (spIni1 (ga K "Endless") "line") := ok_Endless I.f_Endless T
  have b_Endless : Binds K (fi "Endless") ["self", "line"] [] := I.f_Endless.bindsN fun _ _ _ _ _ _ us hl => match us, hl with | [_, _], _ => rfl
  have m_Unfit : (("Unfit", 15) : Str × Nat) ∈ excs := by decide +kernel
  have c_Unfit : (("Unfit") : Str) ∈ clss := by decide +kernel
  have G_Unfit : FnOk P w K mg base CX0 1 (ma K (ga K "Unfit") "__init__") (fi "Unfit") ["self", "claim"] (spIni1 (ga K "Unfit") "claim") := ok_Unfit I.f_Unfit T
  have b_Unfit : Binds K (fi "Unfit") ["self", "claim"] [] := I.f_Unfit.bindsN fun _ _ _ _ _ _ us hl => match us, hl with | [_, _], _ => rfl
  have m_TooMany : (("TooMany", 16) : Str × Nat) ∈ excs := by decide +kernel
  have c_TooMany : (("TooMany") : Str) ∈ clss := by decide +kernel
  have G_TooMany : FnOk P w K mg base CX0 1 (ma K (ga K "TooMany") "__init__") (fi "TooMany") ["self", "most"] (spIni1 (ga K "TooMany") "most") := ok_TooMany I.f_TooMany T
  have b_TooMany : Binds K (fi "TooMany") ["self", "most"] [] := I.f_TooMany.bindsN fun _ _ _ _ _ _ us hl => match us, hl with | [_, _], _ => rfl
  have m_TooLarge : (("TooLarge", 17) : Str × Nat) ∈ excs := by decide +kernel
  have c_TooLarge : (("TooLarge") : Str) ∈ clss := by decide +kernel
  have G_TooLarge : FnOk P w K mg base CX0 1 (ma K (ga K "TooLarge") "__init__") (fi "TooLarge") ["self", "most"] (spIni1 (ga K "TooLarge") "most") := ok_TooLarge I.f_TooLarge T
  have b_TooLarge : Binds K (fi "TooLarge") ["self", "most"] [] := I.f_TooLarge.bindsN fun _ _ _ _ _ _ us hl => match us, hl with | [_, _], _ => rfl
  have m_NotNow : (("NotNow", 18) : Str × Nat) ∈ excs := by decide +kernel
  have c_NotNow : (("NotNow") : Str) ∈ clss := by decide +kernel
  have G_NotNow : FnOk P w K mg base CX0 1 (ma K (ga K "NotNow") "__init__") (fi "NotNow") ["self", "what"] (spIni1 (ga K "NotNow") "what") := ok_NotNow I.f_NotNow T
  have b_NotNow : Binds K (fi "NotNow") ["self", "what"] [] := I.f_NotNow.bindsN fun _ _ _ _ _ _ us hl => match us, hl with | [_, _], _ => rfl
  refine F.okG sc_others (fun vs H Q E h => ?_) (fun cdv A outer s H vs Q E hr hg h => ?_)
  · obtain ⟨v1, v2, d1, d2, rfl, _⟩ := h
    rfl
  · obtain ⟨v1, v2, d1, d2, rfl, x1, x2, n1, n2, p1, p2, k1, k2, k⟩ := h
    refine ⟨_, PSs.nox (pss_cons (ps_par3 (i := 2) (j := 3) (l := 4) (by rfl) sc_others.nd rfl rfl rfl (by decide) (by decide) (by decide) rfl rfl rfl (pa_cons (pe_mkX (T.xc m_Behind).ox (T.ini m_Behind).1 (T.ini m_Behind).2 G_Behind (hr.mono (by decide)) b_Behind .nil pass0 rfl (T.cl c_Behind) (pa_cons (pv 0) (pa_cons (pv 1) pa_nil))) (pa_cons (pe_mkX (T.xc m_Unlike).ox (T.ini m_Unlike).1 (T.ini m_Unlike).2 G_Unlike (hr.mono (by decide)) b_Unlike .nil pass0 rfl (T.cl c_Unlike) (pa_cons (pv 0) pa_nil)) (pa_cons (pe_mkX (T.xc m_Endless).ox (T.ini m_Endless).1 (T.ini m_Endless).2 G_Endless (hr.mono (by decide)) b_Endless .nil pass0 rfl (T.cl c_Endless) (pa_cons (pv 0) pa_nil)) pa_nil))) (by rfl))
    (pss_cons (ps_par (i := 5) (j := 6) (by rfl) sc_others.nd rfl rfl (by decide) rfl rfl (pa_cons (pe_mkX (T.xc m_Unfit).ox (T.ini m_Unfit).1 (T.ini m_Unfit).2 G_Unfit (hr.mono (by decide)) b_Unfit .nil pass0 rfl (T.cl c_Unfit) (pa_cons (pv 0) pa_nil)) (pa_cons (pe_mkX (T.xc m_TooMany).ox (T.ini m_TooMany).1 (T.ini m_TooMany).2 G_TooMany (hr.mono (by decide)) b_TooMany .nil pass0 rfl (T.cl c_TooMany) (pa_cons (pv 0) pa_nil)) pa_nil)) (by rfl))
    (pss_cons (ps_par (i := 7) (j := 8) (by rfl) sc_others.nd rfl rfl (by decide) rfl rfl (pa_cons (pe_mkX (T.xc m_TooLarge).ox (T.ini m_TooLarge).1 (T.ini m_TooLarge).2 G_TooLarge (hr.mono (by decide)) b_TooLarge .nil pass0 rfl (T.cl c_TooLarge) (pa_cons (pv 0) pa_nil)) (pa_cons (pe_mkX (T.xc m_NotNow).ox (T.ini m_NotNow).1 (T.ini m_NotNow).2 G_NotNow (hr.mono (by decide)) b_NotNow .nil pass0 rfl (T.cl c_NotNow) (pa_cons (pv 0) pa_nil)) pa_nil)) (by rfl))
    (pss_cons (ps_set (i := 9) sc_others.nd rfl (Or.inr rfl) (pe_lstN (pa_cons (pv 2) (pa_cons (pv 3) (pa_cons (pv 4) pa_nil)))))
    (pss_cons (ps_if (pt_cmpR (op_neD hr.units) (pe_lc (own := [("_law_k", 10)]) (g := gName 10) (by rfl) sc_others.nd (pi_range1 rfl zr (pa_cons pe_int pa_nil)) (blkOk_by (own := [("_law_k", 10)]) (N := N_others) (sc := defScope s_others) (by decide +kernel)) (fun _ _ _ _ _ => (pg_name (i := 10) sc_others.nd rfl (Or.inl rfl))) (fun _ _ _ _ _ => pts_one (pt_not (pt_val (pe_call G_right (hr.mono (by decide)) rfl gR FR.kp b_right .nil pass0 (pa_cons (pe_ix (ixl K) (pv 9) (pv 10) (fun _ _ => rfl)) (pa_cons pe_int (pa_cons (pe_op op_add pe_int (pv 10)) pa_nil))))))) (fun _ _ _ _ _ => (pv 10))) (pe_lstN pa_nil) (nomark _)) (pss_one (ps_ret pe_bl)) pss_nil)
    (pss_cons (ps_set (i := 11) sc_others.nd rfl (Or.inr rfl) (pe_lstN (pa_cons (pv 5) (pa_cons (pv 6) (pa_cons (pv 7) (pa_cons (pv 8) pa_nil))))))
    (pss_cons (ps_if (pt_cmpR (op_neD hr.units) (pe_lc (own := [("_law_k", 10)]) (g := gName 10) (by rfl) sc_others.nd (pi_range1 rfl zr (pa_cons pe_int pa_nil)) (blkOk_by (own := [("_law_k", 10)]) (N := N_others) (sc := defScope s_others) (by decide +kernel)) (fun _ _ _ _ _ => (pg_name (i := 10) sc_others.nd rfl (Or.inl rfl))) (fun _ _ _ _ _ => pts_one (pt_not (pt_val (pe_call G_right (hr.mono (by decide)) rfl gR FR.kp b_right .nil pass0 (pa_cons (pe_ix (ixl K) (pv 11) (pv 10) (fun _ _ => rfl)) (pa_cons pe_int (pa_cons (pe_op op_add pe_int (pv 10)) pa_nil))))))) (fun _ _ _ _ _ => (pv 10))) (pe_lstN pa_nil) (nomark _)) (pss_one (ps_ret pe_bl)) pss_nil)
    (pss_cons (ps_set (i := 12) sc_others.nd rfl (Or.inl rfl) (pe_lstN (pa_cons (pe_xfld (pv 2)) (pa_cons (pe_xfld (pv 2)) (pa_cons (pe_xfld (pv 3)) (pa_cons (pe_xfld (pv 4)) pa_nil))))))
    (pss_cons (ps_set (i := 12) sc_others.nd rfl (Or.inl rfl) (pe_op op_catN (pv 12) (pe_lstN (pa_cons (pe_xfld (pv 5)) (pa_cons (pe_xfld (pv 6)) (pa_cons (pe_xfld (pv 7)) (pa_cons (pe_xfld (pv 8)) pa_nil)))))))
    (pss_one (ps_ret (pe_cmpR op_eq (pe_callB (call_repr hg (room70 hr)) (by rfl) zp (by decide +kernel) (pa_cons (pv 12) pa_nil)) (pe_callB (call_repr hg (room70 hr)) (by rfl) zp (by decide +kernel) (pa_cons (pe_lstN (pa_cons (pv 0) (pa_cons (pv 1) (pa_cons (pv 0) (pa_cons (pv 0) (pa_cons (pv 0) (pa_cons (pv 0) (pa_cons (pv 0) (pa_cons (pv 0) pa_nil))))))))) pa_nil)) (nomark _))))))))))))), ?_⟩
    refine ⟨_, rfl, _, rfl, (by show 2 ≤ 1000; decide), fun a0 w0 => ⟨a0, v1, v2, rfl, upd_same, fun d_0 G0 hd0 hn0 e0 y0 B0 => ⟨rfl, ?_⟩⟩⟩
    have s0 := made_same w0 B0
    have E0 : Er K G0 ("Behind", 12) a0 [("side", v2), ("line", v1)] := ⟨⟨d_0, .inl e0, .inl y0⟩⟩
    have S0 := (Same.refl H).trans s0
    refine ⟨_, rfl, (by show 1 ≤ 1000; decide), fun a1 w1 => ⟨a1, v1, rfl, upd_same, fun d_1 G1 hd1 hn1 e1 y1 B1 => ⟨rfl, ?_⟩⟩⟩
    have s1 := made_same w1 B1
    have E1 : Er K G1 ("Unlike", 13) a1 [("line", v1)] := ⟨⟨d_1, .inl e1, .inl y1⟩⟩
    have S1 := S0.trans s1
    replace E0 := E0.same s1
    refine ⟨_, rfl, (by show 1 ≤ 1000; decide), fun a2 w2 => ⟨a2, v1, rfl, upd_same, fun d_2 G2 hd2 hn2 e2 y2 B2 => ⟨rfl, ?_⟩⟩⟩
    have s2 := made_same w2 B2
    have E2 : Er K G2 ("Endless", 14) a2 [("line", v1)] := ⟨⟨d_2, .inl e2, .inl y2⟩⟩
    have S2 := S1.trans s2
    replace E0 := E0.same s2
    replace E1 := E1.same s2
    refine ⟨_, _, _, rfl, ?_⟩
    refine ⟨_, rfl, (by show 1 ≤ 1000; decide), fun a3 w3 => ⟨a3, v1, rfl, upd_same, fun d_3 G3 hd3 hn3 e3 y3 B3 => ⟨rfl, ?_⟩⟩⟩
    have s3 := made_same w3 B3
    have E3 : Er K G3 ("Unfit", 15) a3 [("claim", v1)] := ⟨⟨d_3, .inl e3, .inl y3⟩⟩
    have S3 := S2.trans s3
    replace E0 := E0.same s3
    replace E1 := E1.same s3
    replace E2 := E2.same s3
    refine ⟨_, rfl, (by show 1 ≤ 1000; decide), fun a4 w4 => ⟨a4, v1, rfl, upd_same, fun d_4 G4 hd4 hn4 e4 y4 B4 => ⟨rfl, ?_⟩⟩⟩
    have s4 := made_same w4 B4
    have E4 : Er K G4 ("TooMany", 16) a4 [("most", v1)] := ⟨⟨d_4, .inl e4, .inl y4⟩⟩
    have S4 := S3.trans s4
    replace E0 := E0.same s4
    replace E1 := E1.same s4
    replace E2 := E2.same s4
    replace E3 := E3.same s4
    refine ⟨_, _, rfl, ?_⟩
    refine ⟨_, rfl, (by show 1 ≤ 1000; decide), fun a5 w5 => ⟨a5, v1, rfl, upd_same, fun d_5 G5 hd5 hn5 e5 y5 B5 => ⟨rfl, ?_⟩⟩⟩
    have s5 := made_same w5 B5
    have E5 : Er K G5 ("TooLarge", 17) a5 [("most", v1)] := ⟨⟨d_5, .inl e5, .inl y5⟩⟩
    have S5 := S4.trans s5
    replace E0 := E0.same s5
    replace E1 := E1.same s5
    replace E2 := E2.same s5
    replace E3 := E3.same s5
    replace E4 := E4.same s5
    refine ⟨_, rfl, (by show 1 ≤ 1000; decide), fun a6 w6 => ⟨a6, v1, rfl, upd_same, fun d_6 G6 hd6 hn6 e6 y6 B6 => ⟨rfl, ?_⟩⟩⟩
    have s6 := made_same w6 B6
    have E6 : Er K G6 ("NotNow", 18) a6 [("what", v1)] := ⟨⟨d_6, .inl e6, .inl y6⟩⟩
    have S6 := S5.trans s6
    replace E0 := E0.same s6
    replace E1 := E1.same s6
    replace E2 := E2.same s6
    replace E3 := E3.same s6
    replace E4 := E4.same s6
    replace E5 := E5.same s6
    refine ⟨_, _, rfl, ?_⟩
    refine ⟨_, rfl, _, rfl, _, rfl, sz1000 (by show 3 ≤ 1000; decide), fun q8 G8 f8 m8 s8 g8 => ?_⟩
    replace E0 := E0.same s8
    replace E1 := E1.same s8
    replace E2 := E2.same s8
    replace E3 := E3.same s8
    replace E4 := E4.same s8
    replace E5 := E5.same s8
    replace E6 := E6.same s8
    have S8 := S6.trans s8
    have at9 : ∀ i : Nat, i < 3 → ∃ (a : Addr) (e : Str × Nat) (fl : List (Str × V)), ([.ref a0, .ref a1, .ref a2] : List V)[i]? = some (.ref a) ∧ e ∈ excs ∧ grp e = 1 ∧ idx e = 7 + (i : Int) ∧ Er K G8 e a fl := fun i hi => match i, hi with
      | 0, _ => ⟨a0, _, _, rfl, m_Behind, rfl, rfl, E0⟩
      | 1, _ => ⟨a1, _, _, rfl, m_Unlike, rfl, rfl, E1⟩
      | 2, _ => ⟨a2, _, _, rfl, m_Endless, rfl, rfl, E2⟩
    refine ⟨3, rfl, by decide, by decide, fun D hD => lc_range (lo := 0) (n := 3) (fun i H' => Same G8 H' ∧ H' D = some (.lst [])) ⟨same_new hD, upd_same⟩ ?_ ?_⟩
    · rintro i H' hi ⟨sD, gD⟩
      obtain ⟨a, e, fl, hx, me, hgr, hix, he⟩ := at9 i hi
      refine ⟨rfl, _, rfl, _, rfl, q8, _, _, _, rfl, rfl, SqL.of (sD _ _ g8), (by rw [Int.zero_add]; exact atI_nat hx), _, rfl, _, _, rfl, rfl, a, e, fl, ?_, me, he.same sD, fun H2 s2 => ⟨true, rfl, ?_⟩⟩
      · rw [hgr, hix, Int.zero_add]
        rfl
      · exact ⟨sD.trans s2, s2 _ _ gD⟩
    rintro G8b ⟨s9b, gD⟩
    refine ⟨sz1000 (Nat.zero_le _), fun q9c G8c f9c m9c s9c g9c => ?_⟩
    refine ⟨.list [], .list [], .lst (SqL.of (s9c _ _ gD)) .nil, .lst (SqL.of g9c) .nil, by decide, by decide, _, rfl, ?_⟩
    refine if_same (by decide) ?_
    have S9c := (S8.trans s9b).trans s9c
    replace E0 := (E0.same s9b).same s9c
    replace E1 := (E1.same s9b).same s9c
    replace E2 := (E2.same s9b).same s9c
    replace E3 := (E3.same s9b).same s9c
    replace E4 := (E4.same s9b).same s9c
    replace E5 := (E5.same s9b).same s9c
    replace E6 := (E6.same s9b).same s9c
    refine ⟨_, rfl, _, rfl, _, rfl, _, rfl, sz1000 (by show 4 ≤ 1000; decide), fun q10 G10 f10 m10 s10 g10 => ?_⟩
    replace E0 := E0.same s10
    replace E1 := E1.same s10
    replace E2 := E2.same s10
    replace E3 := E3.same s10
    replace E4 := E4.same s10
    replace E5 := E5.same s10
    replace E6 := E6.same s10
    have S10 := S9c.trans s10
    have at11 : ∀ i : Nat, i < 4 → ∃ (a : Addr) (e : Str × Nat) (fl : List (Str × V)), ([.ref a3, .ref a4, .ref a5, .ref a6] : List V)[i]? = some (.ref a) ∧ e ∈ excs ∧ grp e = 2 ∧ idx e = 10 + (i : Int) ∧ Er K G10 e a fl := fun i hi => match i, hi with
      | 0, _ => ⟨a3, _, _, rfl, m_Unfit, rfl, rfl, E3⟩
      | 1, _ => ⟨a4, _, _, rfl, m_TooMany, rfl, rfl, E4⟩
      | 2, _ => ⟨a5, _, _, rfl, m_TooLarge, rfl, rfl, E5⟩
      | 3, _ => ⟨a6, _, _, rfl, m_NotNow, rfl, rfl, E6⟩
    refine ⟨4, rfl, by decide, by decide, fun D hD => lc_range (lo := 0) (n := 4) (fun i H' => Same G10 H' ∧ H' D = some (.lst [])) ⟨same_new hD, upd_same⟩ ?_ ?_⟩
    · rintro i H' hi ⟨sD, gD⟩
      obtain ⟨a, e, fl, hx, me, hgr, hix, he⟩ := at11 i hi
      refine ⟨rfl, _, rfl, _, rfl, q10, _, _, _, rfl, rfl, SqL.of (sD _ _ g10), (by rw [Int.zero_add]; exact atI_nat hx), _, rfl, _, _, rfl, rfl, a, e, fl, ?_, me, he.same sD, fun H2 s2 => ⟨true, rfl, ?_⟩⟩
      · rw [hgr, hix, Int.zero_add]
        rfl
      · exact ⟨sD.trans s2, s2 _ _ gD⟩
    rintro G10b ⟨s11b, gD⟩
    refine ⟨sz1000 (Nat.zero_le _), fun q11c G10c f11c m11c s11c g11c => ?_⟩
    refine ⟨.list [], .list [], .lst (SqL.of (s11c _ _ gD)) .nil, .lst (SqL.of g11c) .nil, by decide, by decide, _, rfl, ?_⟩
    refine if_same (by decide) ?_
    have S11c := (S10.trans s11b).trans s11c
    replace E0 := (E0.same s11b).same s11c
    replace E1 := (E1.same s11b).same s11c
    replace E2 := (E2.same s11b).same s11c
    replace E3 := (E3.same s11b).same s11c
    replace E4 := (E4.same s11b).same s11c
    replace E5 := (E5.same s11b).same s11c
    replace E6 := (E6.same s11b).same s11c
    obtain ⟨dd0, i0, z0⟩ := E0.ex
    obtain ⟨dd1, i1, z1⟩ := E1.ex
    obtain ⟨dd2, i2, z2⟩ := E2.ex
    obtain ⟨dd3, i3, z3⟩ := E3.ex
    obtain ⟨dd4, i4, z4⟩ := E4.ex
    obtain ⟨dd5, i5, z5⟩ := E5.ex
    obtain ⟨dd6, i6, z6⟩ := E6.ex
    refine ⟨_, rfl, a0, _, dd0, _, _, rfl, i0, T.xc m_Behind, T.no m_Behind (by decide +kernel), z0, (lk2b (by decide)), _, rfl, a0, _, dd0, _, _, rfl, i0, T.xc m_Behind, T.no m_Behind (by decide +kernel), z0, lk2a, _, rfl, a1, _, dd1, _, _, rfl, i1, T.xc m_Unlike, T.no m_Unlike (by decide +kernel), z1, lk1, _, rfl, a2, _, dd2, _, _, rfl, i2, T.xc m_Endless, T.no m_Endless (by decide +kernel), z2, lk1, sz1000 (by show 4 ≤ 1000; decide), fun q12 G12 f12 m12 s12 g12 => ?_⟩
    replace i3 := i3.same s12
    replace z3 := z3.same s12
    replace i4 := i4.same s12
    replace z4 := z4.same s12
    replace i5 := i5.same s12
    replace z5 := z5.same s12
    replace i6 := i6.same s12
    replace z6 := z6.same s12
    refine ⟨_, rfl, ?_⟩
    refine ⟨_, rfl, a3, _, dd3, _, _, rfl, i3, T.xc m_Unfit, T.no m_Unfit (by decide +kernel), z3, lk1, _, rfl, a4, _, dd4, _, _, rfl, i4, T.xc m_TooMany, T.no m_TooMany (by decide +kernel), z4, lk1, _, rfl, a5, _, dd5, _, _, rfl, i5, T.xc m_TooLarge, T.no m_TooLarge (by decide +kernel), z5, lk1, _, rfl, a6, _, dd6, _, _, rfl, i6, T.xc m_NotNow, T.no m_NotNow (by decide +kernel), z6, lk1, sz1000 (by show 4 ≤ 1000; decide), fun q13 G13 f13 m13 s13 g13 => ?_⟩
    refine ⟨q12, q13, _, _, rfl, rfl, s13 _ _ g12, g13, sz1000 (by show 8 ≤ 1000; decide), fun q14 G14 f14 m14 s14 g14 => ?_⟩
    have S14 := ((S11c.trans s12).trans s13).trans s14
    have Y1 := x1.same S14
    have Y2 := x2.same S14
    have hc8 : cap (.list [d1, d2, d1, d1, d1, d1, d1, d1]) ≤ 16777216 := by simp only [cap, capAll]; omega
    have hd8 : (PyData.list [d1, d2, d1, d1, d1, d1, d1, d1]).depth ≤ 64 := by simp only [PyData.depth, PyData.depthAll]; omega
    have hm8 : mild (.list [d1, d2, d1, d1, d1, d1, d1, d1]) = true := by simp only [mild, mildAll, n1, n2, Bool.and_self]
    refine ⟨_, rfl, q14, .list [d1, d2, d1, d1, d1, d1, d1, d1], rfl, .lst (SqL.of g14) m14 (.cons Y1 (.cons Y2 (.cons Y1 (.cons Y1 (.cons Y1 (.cons Y1 (.cons Y1 (.cons Y1 .nil)))))))), hm8, hd8, hc8, ?_⟩
    refine ⟨_, rfl, _, rfl, _, rfl, _, rfl, _, rfl, _, rfl, _, rfl, _, rfl, sz1000 (by show 8 ≤ 1000; decide), fun q15 G15 f15 m15 s15 g15 => ?_⟩
    have Z1 := Y1.same s15
    have Z2 := Y2.same s15
    refine ⟨q15, .list [d1, d2, d1, d1, d1, d1, d1, d1], rfl, .lst (SqL.of g15) m15 (.cons Z1 (.cons Z2 (.cons Z1 (.cons Z1 (.cons Z1 (.cons Z1 (.cons Z1 (.cons Z1 .nil)))))))), hm8, hd8, hc8, rfl, ?_⟩
    rw [decide_eq_true (rfl : V.str (PyData.list [d1, d2, d1, d1, d1, d1, d1, d1]).shown = V.str (PyData.list [d1, d2, d1, d1, d1, d1, d1, d1]).shown)]
    exact k G15 (S14.trans s15)
end
end K01
namespace K01
open PySem PySem.Spec PyProof.Rows L2 He Tw
abbrev s_law : Stmt := topS 29
abbrev N_law : List Str := ["_law_script", "_law_pen_here", "_law_turn", "_law_one", "_law_other"]
theorem sc_law : FnScope N_law ["_law_script"] (defScope s_law) := ⟨rfl, rfl, rfl, by decide +kernel, rfl, by decide +kernel, by decide +kernel⟩
def spLaw (K : Fg) : Sp := fun vs H Q _ => ∃ (a : Addr) (ns : List Int), vs = [.ref a] ∧ SqL K H a (ns.map V.int) ∧ ns.length ≤ 63 ∧ ∀ H', Q (.bl true) H'
/-- the defs of the law's text -/
structure Defs (K : Fg) (fd : Str → FuncData) : Prop where
  pen : FnP K "_law_pen" "_law_pen" s_pen (ga K "_law_pen") (fd "_law_pen")
  draw : FnP K "_law_draw" "_law_draw" s_draw (ga K "_law_draw") (fd "_law_draw")
  pick : FnP K "_law_pick" "_law_pick" s_pick (ga K "_law_pick") (fd "_law_pick")
  value : FnP K "_law_value" "_law_value" s_value (ga K "_law_value") (fd "_law_value")
  bases : FnP K "_law_bases" "_law_bases" s_bases (ga K "_law_bases") (fd "_law_bases")
  kinds : FnP K "_law_kinds" "_law_kinds" s_kinds (ga K "_law_kinds") (fd "_law_kinds")
  right : FnP K "_law_right" "_law_right" s_right (ga K "_law_right") (fd "_law_right")
  inputs : FnP K "_law_inputs" "_law_inputs" s_inputs (ga K "_law_inputs") (fd "_law_inputs")
  others : FnP K "_law_others" "_law_others" s_others (ga K "_law_others") (fd "_law_others")
  law : FnP K "law" "law" s_law (ga K "law") (fd "law")
section
variable {P : Program} {w : World} {K : Fg} {mg : Str → Option Value} {base : Heap}
theorem ok_law {fi fd : Str → FuncData} (D : Defs K fd) (I : Inis K fi) (T : Txt K mg) : FnG P w K mg base CX0 4 (ga K "law") (fd "law") ["_law_script"] (spLaw K) := by
  have g : ∀ {x : Str}, x ∈ fnames → mg x = some (.ref (ga K x)) := fun h => T.fn h
  have g_draw := g (x := "_law_draw") (by decide +kernel)
  have g_pick := g (x := "_law_pick") (by decide +kernel)
  have g_pen := g (x := "_law_pen") (by decide +kernel)
  have g_value := g (x := "_law_value") (by decide +kernel)
  have g_right := g (x := "_law_right") (by decide +kernel)
  have g_bases := g (x := "_law_bases") (by decide +kernel)
  have g_kinds := g (x := "_law_kinds") (by decide +kernel)
  have g_inputs := g (x := "_law_inputs") (by decide +kernel)
  have g_others := g (x := "_law_others") (by decide +kernel)
  have zr : mg "range" = none := T.bl (by decide +kernel)
  have G_pen : FnOk P w K mg base CX0 1 _ _ ["_law_script"] (spPen K) := ok_pen D.pen T
  have G_value : FnOk P w K mg base CX0 3 _ _ ["_law_pen_here"] (spValue K) := ok_value D.value D.draw g_draw D.pick g_pick T
  have G_right : FnOk P w K mg base CX0 2 _ _ ["_law_error", "_law_base", "_law_at"] (spRight K) := ok_right D.right D.bases g_bases D.kinds g_kinds T
  have G_inputs : FnG P w K mg base CX0 3 _ _ ["_law_one", "_law_other"] (spTell K) := ok_inputs D.inputs G_right D.right g_right I T
  have G_others : FnG P w K mg base CX0 3 _ _ ["_law_one", "_law_other"] (spTell K) := ok_others D.others G_right D.right g_right I T
  have b_pen : Binds K (fd "_law_pen") ["_law_script"] [] := D.pen.bindsN fun _ _ _ _ _ _ us hl => match us, hl with | [_], _ => rfl
  have b_value : Binds K (fd "_law_value") ["_law_pen_here"] [] := D.value.bindsN fun _ _ _ _ _ _ us hl => match us, hl with | [_], _ => rfl
  have b_inputs : Binds K (fd "_law_inputs") ["_law_one", "_law_other"] [] := D.inputs.bindsN fun _ _ _ _ _ _ us hl => match us, hl with | [_, _], _ => rfl
  have b_others : Binds K (fd "_law_others") ["_law_one", "_law_other"] [] := D.others.bindsN fun _ _ _ _ _ _ us hl => match us, hl with | [_, _], _ => rfl
  refine D.law.okG sc_law (fun vs H Q E h => ?_) (fun cdv A outer s H vs Q E hr hg h => ?_)
  · obtain ⟨a, ns, rfl, _⟩ := h
    rfl
  · obtain ⟨a, ns, rfl, hS, hn, k⟩ := h
    refine ⟨_, PSs.nox (pss_cons (ps_set (i := 1) sc_law.nd rfl (Or.inl rfl) (pe_call G_pen (hr.mono (by decide)) rfl g_pen D.pen.kp b_pen .nil pass0 (pa_cons (pv 0) pa_nil)))
    (pss_cons (ps_for PassesOwn.never rfl (pi_range1 rfl zr (pa_cons pe_int pa_nil)) (pg_name (i := 2) sc_law.nd rfl (Or.inl rfl))
    (pss_cons (ps_par (i := 3) (j := 4) (by rfl) sc_law.nd rfl rfl (by decide) rfl rfl (pa_cons (pe_call G_value (hr.mono (by decide)) rfl g_value D.value.kp b_value .nil pass0 (pa_cons (pv 1) pa_nil)) (pa_cons (pe_call G_value (hr.mono (by decide)) rfl g_value D.value.kp b_value .nil pass0 (pa_cons (pv 1) pa_nil)) pa_nil)) (by rfl))
    (pss_one (ps_if (PW.pt (pw_or (pt_not (pt_val (pe_callG G_inputs (hr.mono (by decide)) hg rfl g_inputs D.inputs.kp b_inputs .nil pass0 (pa_cons (pv 3) (pa_cons (pv 4) pa_nil))))) (pw_or1 (pt_not (pt_val (pe_callG G_others (hr.mono (by decide)) hg rfl g_others D.others.kp b_others .nil pass0 (pa_cons (pv 3) (pa_cons (pv 4) pa_nil)))))))) (pss_one (ps_ret pe_bl)) pss_nil))))
    (pss_one (ps_ret pe_bl)))), ?_⟩
    refine ⟨_, rfl, a, ns, rfl, hS, hn, fun p H1 f1 P1 s1 => ?_⟩
    refine ⟨6, rfl, by decide, by decide, for_range (lo := 0) (n := 6) (fun i σ H' => (∃ t x y : Option V, σ = [some (.ref a), some (.ref p), t, x, y]) ∧ PenAt H' p (4 * i)) ⟨⟨none, none, none, rfl⟩, P1⟩ ?_ ?_⟩
    · rintro i σ H2 hi ⟨⟨t, x, y, rfl⟩, P2⟩
      refine ⟨_, rfl, p, 4 * i, rfl, P2, by omega, fun v1 d1 H3 P3 B3 x1 n1 p1 c1 => ?_⟩
      refine ⟨_, rfl, p, 4 * i + 2, rfl, P3, by omega, fun v2 d2 H4 P4 B4 x2 n2 p2 c2 => ?_⟩
      refine ⟨v1, v2, rfl, ?_⟩
      have y1 := Dx.same hid_same (Dx.same (hid_but B4) x1)
      have y2 := Dx.same hid_same x2
      refine ⟨_, rfl, _, rfl, v1, v2, d1, d2, rfl, y1, y2, n1, n2, p1, p2, c1, c2, fun H5 s5 => ⟨true, rfl, ?_⟩⟩
      refine ⟨_, rfl, _, rfl, v1, v2, d1, d2, rfl, Dx.same s5 y1, Dx.same s5 y2, n1, n2, p1, p2, c1, c2, fun H6 s6 => ⟨true, rfl, ?_⟩⟩
      exact ⟨⟨_, _, _, rfl⟩, ((P4.same s5).same s6).mono (by omega)⟩
    · rintro σ H2 ⟨⟨t, x, y, rfl⟩, P2⟩
      exact k H2
end
/-! ### the head -/
abbrev R : PySem.W.OpenRow := PySem.W.OpenLaw.row PySem.Challenge.rw_twoheads_k01_errors
abbrev hk : PySem.W.Hook := hookY 5 fs fn
def ob (s : PySem.W.SharedT) : AlD := obsYG 5 fs fn (HandSHeadRun.getT s)
theorem ob_eq (s : PySem.W.SharedT) : ob s = hk.obs s.abs := obsYG_eq (HandSHeadRun.getT_eq s)
def others : List Str := clss ++ fnames.dropLast
theorem run (w : World) : HandSHeadRun.RunEq R (PySem.W.view R.prog [29]) hk ob 6000 others w := by
  intro os
  kernel_rfl
theorem facts {P : Program} {w : World} {K : Fg} {h : Heap} {mg : Str → Option Value} (X : K.In h) (G : h.Ns mainGlobals mg) (c : SaysY fs fn K) :
    ∃ fd : FuncData, (∀ (s : Shared) (v : Value), BindsTo s fd ⟨[v], []⟩ [("_law_script", v)]) ∧ ∀ base : Heap, K.In base → base.Ns mainGlobals mg → FnG P w K mg base CX0 4 (ga K "law") fd ["_law_script"] (spLaw K) := by
  obtain ⟨e0, F0⟩ := c.def_ 0 (d := dE ("BadItem", 5)) rfl
  obtain ⟨e1, F1⟩ := c.def_ 1 (d := dE ("BadPlace", 6)) rfl
  obtain ⟨e2, F2⟩ := c.def_ 2 (d := dE ("Disordered", 7)) rfl
  obtain ⟨e3, F3⟩ := c.def_ 3 (d := dE ("BadTest", 8)) rfl
  obtain ⟨e4, F4⟩ := c.def_ 4 (d := dE ("BadWalk", 9)) rfl
  obtain ⟨e5, F5⟩ := c.def_ 5 (d := dE ("BadText", 10)) rfl
  obtain ⟨e6, F6⟩ := c.def_ 6 (d := dE ("BadName", 11)) rfl
  obtain ⟨e7, F7⟩ := c.def_ 7 (d := dE ("Behind", 12)) rfl
  obtain ⟨e8, F8⟩ := c.def_ 8 (d := dE ("Unlike", 13)) rfl
  obtain ⟨e9, F9⟩ := c.def_ 9 (d := dE ("Endless", 14)) rfl
  obtain ⟨e10, F10⟩ := c.def_ 10 (d := dE ("Unfit", 15)) rfl
  obtain ⟨e11, F11⟩ := c.def_ 11 (d := dE ("TooMany", 16)) rfl
  obtain ⟨e12, F12⟩ := c.def_ 12 (d := dE ("TooLarge", 17)) rfl
  obtain ⟨e13, F13⟩ := c.def_ 13 (d := dE ("NotNow", 18)) rfl
  obtain ⟨u0, U0⟩ := c.def_ 14 (d := dF "_law_pen" 20) rfl
  obtain ⟨u1, U1⟩ := c.def_ 15 (d := dF "_law_draw" 21) rfl
  obtain ⟨u2, U2⟩ := c.def_ 16 (d := dF "_law_pick" 22) rfl
  obtain ⟨u3, U3⟩ := c.def_ 17 (d := dF "_law_value" 23) rfl
  obtain ⟨u4, U4⟩ := c.def_ 18 (d := dF "_law_bases" 24) rfl
  obtain ⟨u5, U5⟩ := c.def_ 19 (d := dF "_law_kinds" 25) rfl
  obtain ⟨u6, U6⟩ := c.def_ 20 (d := dF "_law_right" 26) rfl
  obtain ⟨u7, U7⟩ := c.def_ 21 (d := dF "_law_inputs" 27) rfl
  obtain ⟨u8, U8⟩ := c.def_ 22 (d := dF "_law_others" 28) rfl
  obtain ⟨u9, U9⟩ := c.def_ 23 (d := dF "law" 29) rfl
  have T : Txt K mg := ⟨c, fun x hx => He.glo_ok X G hx, fun x hx => He.free_ok X G hx⟩
  obtain ⟨fi, hfi⟩ : ∃ fi : Str → FuncData, fi "BadItem" = e0 ∧ fi "BadPlace" = e1 ∧ fi "Disordered" = e2 ∧ fi "BadTest" = e3 ∧ fi "BadWalk" = e4 ∧ fi "BadText" = e5 ∧ fi "BadName" = e6 ∧ fi "Behind" = e7 ∧ fi "Unlike" = e8 ∧ fi "Endless" = e9 ∧ fi "Unfit" = e10 ∧ fi "TooMany" = e11 ∧ fi "TooLarge" = e12 ∧ fi "NotNow" = e13 := ⟨fun x => if x = "BadItem" then e0 else if x = "BadPlace" then e1 else if x = "Disordered" then e2 else if x = "BadTest" then e3 else if x = "BadWalk" then e4 else if x = "BadText" then e5 else if x = "BadName" then e6 else if x = "Behind" then e7 else if x = "Unlike" then e8 else if x = "Endless" then e9 else if x = "Unfit" then e10 else if x = "TooMany" then e11 else if x = "TooLarge" then e12 else if x = "NotNow" then e13 else e0, (by dsimp only; rw [if_pos rfl]), (by dsimp only; rw [if_neg (by decide)]; rw [if_pos rfl]), (by dsimp only; rw [if_neg (by decide)]; rw [if_neg (by decide)]; rw [if_pos rfl]), (by dsimp only; rw [if_neg (by decide)]; rw [if_neg (by decide)]; rw [if_neg (by decide)]; rw [if_pos rfl]), (by dsimp only; rw [if_neg (by decide)]; rw [if_neg (by decide)]; rw [if_neg (by decide)]; rw [if_neg (by decide)]; rw [if_pos rfl]), (by dsimp only; rw [if_neg (by decide)]; rw [if_neg (by decide)]; rw [if_neg (by decide)]; rw [if_neg (by decide)]; rw [if_neg (by decide)]; rw [if_pos rfl]), (by dsimp only; rw [if_neg (by decide)]; rw [if_neg (by decide)]; rw [if_neg (by decide)]; rw [if_neg (by decide)]; rw [if_neg (by decide)]; rw [if_neg (by decide)]; rw [if_pos rfl]), (by dsimp only; rw [if_neg (by decide)]; rw [if_neg (by decide)]; rw [if_neg (by decide)]; rw [if_neg (by decide)]; rw [if_neg (by decide)]; rw [if_neg (by decide)]; rw [if_neg (by decide)]; rw [if_pos rfl]), (by dsimp only; rw [if_neg (by decide)]; rw [if_neg (by decide)]; rw [if_neg (by decide)]; rw [if_neg (by decide)]; rw [if_neg (by decide)]; rw [if_neg (by decide)]; rw [if_neg (by decide)]; rw [if_neg (by decide)]; rw [if_pos rfl]), (by dsimp only; rw [if_neg (by decide)]; rw [if_neg (by decide)]; rw [if_neg (by decide)]; rw [if_neg (by decide)]; rw [if_neg (by decide)]; rw [if_neg (by decide)]; rw [if_neg (by decide)]; rw [if_neg (by decide)]; rw [if_neg (by decide)]; rw [if_pos rfl]), (by dsimp only; rw [if_neg (by decide)]; rw [if_neg (by decide)]; rw [if_neg (by decide)]; rw [if_neg (by decide)]; rw [if_neg (by decide)]; rw [if_neg (by decide)]; rw [if_neg (by decide)]; rw [if_neg (by decide)]; rw [if_neg (by decide)]; rw [if_neg (by decide)]; rw [if_pos rfl]), (by dsimp only; rw [if_neg (by decide)]; rw [if_neg (by decide)]; rw [if_neg (by decide)]; rw [if_neg (by decide)]; rw [if_neg (by decide)]; rw [if_neg (by decide)]; rw [if_neg (by decide)]; rw [if_neg (by decide)]; rw [if_neg (by decide)]; rw [if_neg (by decide)]; rw [if_neg (by decide)]; rw [if_pos rfl]), (by dsimp only; rw [if_neg (by decide)]; rw [if_neg (by decide)]; rw [if_neg (by decide)]; rw [if_neg (by decide)]; rw [if_neg (by decide)]; rw [if_neg (by decide)]; rw [if_neg (by decide)]; rw [if_neg (by decide)]; rw [if_neg (by decide)]; rw [if_neg (by decide)]; rw [if_neg (by decide)]; rw [if_neg (by decide)]; rw [if_pos rfl]), (by dsimp only; rw [if_neg (by decide)]; rw [if_neg (by decide)]; rw [if_neg (by decide)]; rw [if_neg (by decide)]; rw [if_neg (by decide)]; rw [if_neg (by decide)]; rw [if_neg (by decide)]; rw [if_neg (by decide)]; rw [if_neg (by decide)]; rw [if_neg (by decide)]; rw [if_neg (by decide)]; rw [if_neg (by decide)]; rw [if_neg (by decide)]; rw [if_pos rfl])⟩
  obtain ⟨h0, h1, h2, h3, h4, h5, h6, h7, h8, h9, h10, h11, h12, h13⟩ := hfi
  obtain ⟨fd, hfd⟩ : ∃ fd : Str → FuncData, fd "_law_pen" = u0 ∧ fd "_law_draw" = u1 ∧ fd "_law_pick" = u2 ∧ fd "_law_value" = u3 ∧ fd "_law_bases" = u4 ∧ fd "_law_kinds" = u5 ∧ fd "_law_right" = u6 ∧ fd "_law_inputs" = u7 ∧ fd "_law_others" = u8 ∧ fd "law" = u9 := ⟨fun x => if x = "_law_pen" then u0 else if x = "_law_draw" then u1 else if x = "_law_pick" then u2 else if x = "_law_value" then u3 else if x = "_law_bases" then u4 else if x = "_law_kinds" then u5 else if x = "_law_right" then u6 else if x = "_law_inputs" then u7 else if x = "_law_others" then u8 else if x = "law" then u9 else u0, (by dsimp only; rw [if_pos rfl]), (by dsimp only; rw [if_neg (by decide)]; rw [if_pos rfl]), (by dsimp only; rw [if_neg (by decide)]; rw [if_neg (by decide)]; rw [if_pos rfl]), (by dsimp only; rw [if_neg (by decide)]; rw [if_neg (by decide)]; rw [if_neg (by decide)]; rw [if_pos rfl]), (by dsimp only; rw [if_neg (by decide)]; rw [if_neg (by decide)]; rw [if_neg (by decide)]; rw [if_neg (by decide)]; rw [if_pos rfl]), (by dsimp only; rw [if_neg (by decide)]; rw [if_neg (by decide)]; rw [if_neg (by decide)]; rw [if_neg (by decide)]; rw [if_neg (by decide)]; rw [if_pos rfl]), (by dsimp only; rw [if_neg (by decide)]; rw [if_neg (by decide)]; rw [if_neg (by decide)]; rw [if_neg (by decide)]; rw [if_neg (by decide)]; rw [if_neg (by decide)]; rw [if_pos rfl]), (by dsimp only; rw [if_neg (by decide)]; rw [if_neg (by decide)]; rw [if_neg (by decide)]; rw [if_neg (by decide)]; rw [if_neg (by decide)]; rw [if_neg (by decide)]; rw [if_neg (by decide)]; rw [if_pos rfl]), (by dsimp only; rw [if_neg (by decide)]; rw [if_neg (by decide)]; rw [if_neg (by decide)]; rw [if_neg (by decide)]; rw [if_neg (by decide)]; rw [if_neg (by decide)]; rw [if_neg (by decide)]; rw [if_neg (by decide)]; rw [if_pos rfl]), (by dsimp only; rw [if_neg (by decide)]; rw [if_neg (by decide)]; rw [if_neg (by decide)]; rw [if_neg (by decide)]; rw [if_neg (by decide)]; rw [if_neg (by decide)]; rw [if_neg (by decide)]; rw [if_neg (by decide)]; rw [if_neg (by decide)]; rw [if_pos rfl])⟩
  obtain ⟨j0, j1, j2, j3, j4, j5, j6, j7, j8, j9⟩ := hfd
  have I : Inis K fi := ⟨by rw [h0]; exact F0, by rw [h1]; exact F1, by rw [h2]; exact F2, by rw [h3]; exact F3, by rw [h4]; exact F4, by rw [h5]; exact F5, by rw [h6]; exact F6, by rw [h7]; exact F7, by rw [h8]; exact F8, by rw [h9]; exact F9, by rw [h10]; exact F10, by rw [h11]; exact F11, by rw [h12]; exact F12, by rw [h13]; exact F13⟩
  have D : Defs K fd := ⟨by rw [j0]; exact U0, by rw [j1]; exact U1, by rw [j2]; exact U2, by rw [j3]; exact U3, by rw [j4]; exact U4, by rw [j5]; exact U5, by rw [j6]; exact U6, by rw [j7]; exact U7, by rw [j8]; exact U8, by rw [j9]; exact U9⟩
  have b : ∀ (s : Shared) (us : List Value), us.length = (["_law_script"] : List Str).length → BindsTo s (fd "law") ⟨us, []⟩ ((["_law_script"] : List Str).zip us) := FunD.bindsA (ps := ["_law_script"]) D.law fun _ _ _ _ _ _ us hl => match us, hl with | [_], _ => rfl
  exact ⟨fd "law", fun s v => b s [v] rfl, fun base _ _ => ok_law D I T⟩
end K01
open PySem PySem.W PySem.Calls PyProof.Rows
set_option maxHeartbeats 0 in
theorem PySem.Challenge.cw_twoheads_k01_errors_holds : PySem.Challenge.rw_twoheads_k01_errors.Holds := by
  w_on; o_law
  refine HandSHeadRun.head_any (r := OpenLaw.row PySem.Challenge.rw_twoheads_k01_errors) (q := view (OpenLaw.row PySem.Challenge.rw_twoheads_k01_errors).prog [29]) (H := K01.hk) (ob := K01.ob) (M := 6000) (loose := K01.others) (d := HandSHeadRun.topDef (OpenLaw.row PySem.Challenge.rw_twoheads_k01_errors).prog 29) (kwd := []) K01.ob_eq
    (by kernel_rfl) (fun s => by kernel_rfl) K01.run (by kernel_rfl) (by kernel_rfl) (by kernel_rfl) (by rfl) (by first | assumption | decide +kernel) (by decide +kernel) ⟨rfl, rfl, rfl, rfl, rfl, by decide +kernel⟩ ?hw ?hc
  case hw => w_witness2
  case hc =>
    refine Tw.walk_ofEG (l := PySem.Challenge.rw_twoheads_k01_errors) (n := 63) (k := 4) (x := "_law_script") (CX := L2.CX0) rfl (by decide) (by kernel_rfl) ⟨rfl, by decide, by decide⟩ ?F (fun _ _ _ _ z => z)
    intro w mg fa h Y G hmg0
    obtain ⟨K, KX, c⟩ := Y
    have hmg : mg ("law" : PySem.Str) = some (.ref fa) := by
      have e : (HandSHeadRun.topDef (OpenLaw.row PySem.Challenge.rw_twoheads_k01_errors).prog 29).name = ("law" : PySem.Str) := by kernel_rfl
      rw [← e]
      exact hmg0
    obtain ⟨fd, hb, hF⟩ := K01.facts (P := (PySem.Challenge.rw_twoheads_k01_errors).prog) (w := w) KX G c
    have T0 : mg ("law" : PySem.Str) = some (.ref (He.ga K "law")) := He.glo_ok KX G (Tw.of_all (f := fun x => (He.Fa.glo x).ok K) (c.fact 7) (by decide +kernel))
    have ef : fa = He.ga K "law" := by
      rw [hmg] at T0
      exact Value.ref.inj (Option.some.inj T0)
    subst ef
    exact ⟨K, fd, K01.spLaw K, KX, hb, fun H a ns hl _ hS => ⟨a, ns, rfl, hS, hl, fun _ => rfl⟩, hF⟩
#print axioms PySem.Challenge.cw_twoheads_k01_errors_holds
