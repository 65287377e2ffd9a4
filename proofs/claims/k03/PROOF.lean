import PyProof.Rows.All
import Wide.All
import OpenK.AllK
import Wide.FinOn
import HandS.Defaults
import HandS.Head0
import HandS.Head1
import HandS.Head2
import HandS.HeadEnd
import HandS.HeadHook1
import HandS.HeadHook2
import PyProof.StrLawsRepr
import PyProof.EqAt
import PyProof.EqKinds
import PyProof.TupleCall
import PyProof.ReprRoads
import KE.KExcIs
import HandS.ForMost
import HandS.Exc
import HandS.ExcInit
import HandS.ExcValue
import HandS.IsInst
import HandS.WordsExc
import HandS.SlotsOwn
import HandS.MakeKw
import HandS.MakeKwOnly
import KE.KCallOwn
import KE.KFmtOwn
import PyProof.Rows.StrMul
import KE.GoesEnum
import HandS.IterVal
import KE.KOwnIter
import HandS.RaiseMore
import HandS.More
import HandS.HeadHook3
import HandS.FStr
import HandS.ClsMeth
import HandS.Codes
import Wide.Once
import KE.KOpsOwn
import HandS.Star
import HandS.Property
import HandS.ExcOwn
import PyProof.ListMulRoad
import HandS.EndTab
import HandS.HeadWalk
import HandS.HeadNt
import KE.SortKeyHeap
import HandS.SortKw
import PySem.Challenge.RW_twoheads_k03_rows_made
set_option Elab.async false
set_option linter.all false
set_option maxRecDepth 100000
set_option maxHeartbeats 8000000
/-! Tw, part 1: calls where no repr runs around; errors as values; errors kept behind their except suite. -/
namespace Tw
open PySem PySem.Spec PyProof.Rows L2

/-! ### no repr is running around -/
abbrev NoG (A : Around) : Prop := A.guards = some []
structure FnG (P : Program) (w : World) (K : PySem.W.Frag) (mg : Str → Option Value) (base : Heap) (CX : CXT) (k : Nat) (f : Addr) (fd : FuncData) (ps : List Str) (sp : Sp) : Prop where
  len : ∀ vs H Q E, sp vs H Q E → vs.length = ps.length
  run : ∀ (A : Around) (outer : List Env) (s : Shared) (H : Hp) (args : Args) (us : List Value) (vs : List V) (Q : VK) (E : XK), Room k A → NoG A → Env0 P w K mg base A outer s H →
    BindsTo s fd args (ps.zip us) → Vals vs us → sp vs H Q E → codeAny (model P w) A (.call (.ref f) args) (CR CX outer P w H s Q E) s
section
variable {P : Program} {w : World} {K : PySem.W.Frag} {mg : Str → Option Value} {base : Heap} {CX : CXT}
theorem FnG.of {k : Nat} {f : Addr} {fd : FuncData} {ps : List Str} {sp : Sp} (F : FnOk P w K mg base CX k f fd ps sp) : FnG P w K mg base CX k f fd ps sp :=
  ⟨F.len, fun A outer s H args us vs Q E hr _ => F.run A outer s H args us vs Q E hr⟩
theorem FnG.mono {j k : Nat} {f : Addr} {fd : FuncData} {ps : List Str} {sp : Sp} (F : FnG P w K mg base CX j f fd ps sp) (h : j ≤ k) : FnG P w K mg base CX k f fd ps sp :=
  ⟨F.len, fun A outer s H args us vs Q E hr => F.run A outer s H args us vs Q E (hr.mono h)⟩
/-- a def by its body, where no repr runs around -/
theorem fng {k : Nat} {f : Addr} {name qual : Str} {params : Arguments} {body : List Stmt} {scope : Scope} {dV kV doc pm cdv ct oc : Value} {an od : Option Addr} {osl : Array (Option Value)} {N ps : List Str} {sp : Sp}
    (lk : K.lookup f = some ⟨oc, od, .func (PySem.W.fnOf name qual params body scope dV kV doc pm an cdv ct), osl⟩) (hcd : PySem.W.codeIn K cdv qual = true) (S : FnScope N ps scope) (len : ∀ vs H Q E, sp vs H Q E → vs.length = ps.length)
    (hbody : ∀ (A : Around) (outer : List Env) (s : Shared) (H : Hp) (vs : List V) (Q : VK) (E : XK), Room k (A.deeper (envOfC qual scope s.heap.objs.size f cdv)) → NoG (A.deeper (envOfC qual scope s.heap.objs.size f cdv)) → sp vs H Q E →
      ∃ t, PSs (cxOf CX P w K mg base N qual scope f cdv A outer s H E) body t ∧ t { nx := fun _ H' => Q .non H', rt := Q } (start N vs) H) :
    FnG P w K mg base CX (k + 1) f (PySem.W.fnOf name qual params body scope dV kV doc pm an cdv ct) ps sp := by
  refine ⟨len, fun A outer s H args us vs Q E hr hg e0 hb r hsp => ?_⟩
  have at0 : ∀ b o, base.get? b = some o → s.heap.get? b = some o := fun b o e => (e0.bs b o e).1
  have hkind : ∀ y ∈ ps.zip us, scope.names.lookup y.1 = some .local ∨ (scope.names.lookup y.1 = some .cell ∧ ((cellsFrom (s.heap.objs.size + 1) scope.names []).lookup y.1).isSome = true) := by
    rintro ⟨n, v⟩ hy
    rcases S.par n (List.of_mem_zip hy).1 with q | q
    · exact .inl q
    · exact .inr ⟨q, PySem.W.cellsFrom_some _ _ _ (.inl q)⟩
  refine codeAny_call_function hr.depth ((e0.mod.kin.keeps at0) _ _ lk) rfl S.co S.gen rfl (PySem.W.codeRec_of (e0.mod.kin.keeps at0) hcd) (hb _ _ _ _ ?_)
  refine wpAny_newFunctionEnv_cells S.kind hkind fun env he s1 x => ?_
  subst he
  refine ⟨(e0.mod.nolimit.keeps at0).keeps x.toInCall.keep, codeAny_func ?_⟩
  obtain ⟨t, ht, hq⟩ := hbody A outer s H vs Q E (hr.deeper _) hg hsp
  refine wpAny_mono (ht.run [] s1 (start N vs) H _ (inv_start S hr.hd e0 (len _ _ _ _ hsp) r x) hq) (fun fl s' hs => ?_) fun e s' hs => hs
  cases fl with
  | ret u =>
    obtain ⟨v, σ', H', J, rv, q⟩ := hs
    exact ⟨v, H', J.os, J.bare, J.base, J.hok, rv, q⟩
  | next =>
    obtain ⟨σ', H', J, q⟩ := hs
    exact ⟨.non, H', J.os, J.bare, J.base, J.hok, rfl, q⟩
  | brk => exact hs.elim fun _ z => z.elim fun _ z => z.2.elim
  | cont => exact hs.elim fun _ z => z.elim fun _ z => z.2.elim
/-- the same for a def as the text has it -/
theorem _root_.L2.Fun.okG {x qual : Str} {st : Stmt} {f : Addr} {fd : FuncData} {N ps : List Str} {k : Nat} {sp : Sp} (F : Fun K x qual st f fd) (S : FnScope N ps (defScope st)) (len : ∀ vs H Q E, sp vs H Q E → vs.length = ps.length)
    (hbody : ∀ (cdv : Value) (A : Around) (outer : List Env) (s : Shared) (H : Hp) (vs : List V) (Q : VK) (E : XK), Room k (A.deeper (envOfC qual (defScope st) s.heap.objs.size f cdv)) → NoG (A.deeper (envOfC qual (defScope st) s.heap.objs.size f cdv)) → sp vs H Q E →
      ∃ t, PSs (cxOf CX0 P w K mg base N qual (defScope st) f cdv A outer s H E).nox (defBody st) t ∧ t { nx := fun _ H' => Q .non H', rt := Q } (start N vs) H) : FnG P w K mg base CX0 (k + 1) f fd ps sp := by
  obtain ⟨oc, od, kV, doc, pm, an, cdv, ct, osl, rfl, lk, hcd⟩ := F.ex
  refine fng lk hcd S len fun A outer s H vs Q E hr hg hsp => ?_
  obtain ⟨t, h, q⟩ := hbody cdv A outer s H vs Q E hr hg hsp
  exact ⟨t, h.nox, q⟩
end
section
variable {X : Cx} {CX : CXT} {k : Nat} {f : Addr} {fd : FuncData} {ps : List Str} {sp : Sp} {dvs : List V} {ds : List Value} {E : XK} {x : Str} {p pos : Pos} {e : Expr} {es : List Expr} {t : TA}
theorem run_fnG {pins : List (Addr × Obj)} {σ : L2.St} {H : Hp} {s : Shared} {Q : VK} {us : List Value} {vs : List V} (F : FnG X.prog X.w X.K X.mg X.base CX k f fd ps sp) (hr : Room k X.A) (hG : NoG X.A) (hb : Binds X.K fd ps ds) (hd : Vals dvs ds) (hx : Passes CX X E)
    (I : Inv X pins σ H s) (r : Vals vs us) (h : sp (vs ++ dvs) H Q E) : wpAny (model X.prog X.w) X.A (call (.ref f) us) (EP X pins σ Q) X.xe s := by
  have r2 : Vals (vs ++ dvs) (us ++ ds) := r.append hd
  have hl : (us ++ ds).length = ps.length := r2.length.symm.trans (F.len _ _ _ _ h)
  refine wpAny_call (codeAny_mono (F.run X.A X.stack s H ⟨us, []⟩ (us ++ ds) (vs ++ dvs) Q E hr hG I.env0 (hb s us I.kIn hl) r2 h) fun r s' hq => ?_)
  match r, hq with
  | .error e, hq => exact hx pins σ H s e s' I hq
  | .ok (.ret u), hq => exact I.after hq
/-- f(e, ..) -/
theorem pe_callG (F : FnG X.prog X.w X.K X.mg X.base CX k f fd ps sp) (hr : Room k X.A) (hG : NoG X.A) (hg : Gl X x) (hm : X.mg x = some (.ref f)) (hk : PySem.W.keepIn X.K (.ref f) = true) (hb : Binds X.K fd ps ds) (hd : Vals dvs ds) (hx : Passes CX X E)
    (ha : PA X (e :: es) t) (hdb : (x == ("__debug__" : Str)) = false := by decide) (he : starEach (e :: es) X.env = (false, eval e X.env) :: starEach es X.env := by rfl) (hpl : (backTo pos (starEach es X.env)).any (·.1) = false := by rfl) :
    PE X (.Call (.Name x p) (e :: es) [] pos) (tCall sp dvs E t) :=
  ⟨fun pins s σ H Q I h => wpAny_Call_Name_kw (ld_glob I hg hm (PySem.W.callWith_K (h₀ := X.base) I.ok.mod.kin hk (thn (ha.run pos pins s σ H _ I h) fun us s1 ⟨vs, H1, I1, r, q⟩ => ⟨I1.kIn, run_fnG F hr hG hb hd hx I1 r q⟩) he hpl) hdb)⟩
end
end Tw

/-! ### the law's end -/
namespace Tw
open PySem PySem.Spec PyProof.Rows L2
theorem law_endG {P : Program} {w : World} {K : PySem.W.Frag} {mg mb : Str → Option Value} {CX : CXT} {k : Nat} {fa a : Addr} {fd : FuncData} {x : Str} {sp : Sp} {s : Shared} {vs : List Value} {ns : List Int}
    (KX : K.In s.heap) (hns : s.heap.Ns mainGlobals mg) (hb : s.heap.Ns builtinsNs mb) (hbb : ∀ x : Str, x ≠ "__name__" → mb x = bootBuiltins x) (hlim : s.heap.NoLimit) (hg : s.gens = #[])
    (ha : s.heap.get? a = some { cls := .type "list", data := .seq vs.toArray }) (hi : IntsAre vs ns) (hl : ns.length ≤ sizeLine) (hr : Room k callerA)
    (F : ∀ base : Heap, K.In base → base.Ns mainGlobals mg → FnG P w K mg base CX k fa fd [x] sp) (hbind : ∀ (s : Shared) (u : Value), BindsTo s fd ⟨[u], []⟩ [(x, u)])
    (hsp : ∀ H : Hp, Only H → SqL K H a (ns.map V.int) → sp [.ref a] H (fun v _ => v = .bl true) fun _ _ _ => False)
    (hCX : ∀ H e s', CX [] H s (fun _ _ _ => False) e s' → False) :
    codeAny (model P w) callerA (.call (.ref fa) ⟨[.ref a], []⟩) (fun r s' => r = .ok (.ret (.bool true)) ∧ OldK s.heap s'.heap ∧ s'.os = s.os ∧ AllBare s'.gens) s := by
  have rv := vals_ints hi
  have lv := hi.length
  have go : ∀ H : Hp, Only H → SqL K H a (ns.map V.int) → HOk P w H s.heap → (∀ b, H b ≠ none → b = a) → (H a ≠ none → K.lookup a = none) →
      codeAny (model P w) callerA (.call (.ref fa) ⟨[.ref a], []⟩) (fun r s' => r = .ok (.ret (.bool true)) ∧ OldK s.heap s'.heap ∧ s'.os = s.os ∧ AllBare s'.gens) s := by
    intro H hO hS hok hA hK
    have none_of : ∀ {b : Addr}, b ≠ a → H b = none := fun {b} hb => by
      cases q : H b with
      | none => rfl
      | some u => exact absurd (hA b (by rw [q]; exact Option.some_ne_none u)) hb
    have noD : ∀ {b : Addr} {o : Obj} {es : Array DictEntry} {ep : Nat}, s.heap.get? b = some o → o.data = .dict es ep → H b = none := fun {b o es ep} e d => none_of fun z => by
      rw [z, ha] at e
      have e2 := Option.some.inj e
      rw [← e2] at d
      cases d
    have nsK : ∀ {b : Addr} {m : Str → Option Value}, s.heap.Ns b m → (hidT s.heap H).Ns b m := fun {b m} ⟨o, es, ep, e, d, r⟩ => ⟨o, es, ep, hidT_get e (noD e d), d, r⟩
    have hKb : K.In (hidT s.heap H) := fun b o e => hidT_get (KX b o e) (by
      by_cases hb : b = a
      · cases q : H b with
        | none => rfl
        | some u =>
          subst hb
          have z := hK (by rw [q]; exact Option.some_ne_none u)
          rw [z] at e
          cases e
      · exact none_of hb)
    have hM : Mod K mg (hidT s.heap H) := ⟨hKb, nsK hns, ⟨mb, nsK hb, hbb⟩, hlim.elim fun mc z => ⟨mc, nsK z.1, z.2⟩⟩
    have e0 : Env0 P w K mg (hidT s.heap H) callerA [] s H := ⟨rfl, hM, fun b o e => of_hidT e, Nat.le_of_eq (hidT_size _ _), trivial, (fun b hb => nomatch hb), hok, .of_eq hg⟩
    refine codeAny_mono ((F _ hKb (nsK hns)).run callerA [] s H ⟨[.ref a], []⟩ [.ref a] [.ref a] _ _ hr rfl e0 (hbind s (.ref a)) (.cons rfl .nil) (hsp H hO hS)) fun r s' h => ?_
    match r, h with
    | .error e, h => exact (hCX H e s' h).elim
    | .ok (.ret u), h =>
      obtain ⟨v, H', os, bare, un, hok', rv', q⟩ := h
      have q' : v = .bl true := q
      subst q'
      obtain rfl : u = Value.bool true := rv'
      refine ⟨rfl, OldK.of_keep fun b o e => ?_, os, bare⟩
      cases q : H b with
      | none => exact un.keep b o e q (fun z => nomatch z) (fun z => nomatch z)
      | some u =>
        rcases hO b with z | ⟨ob, xs, z⟩
        · rw [q] at z
          cases z
        · obtain ⟨e1, _⟩ := hok b _ z
          obtain ⟨e2, _⟩ := hok' b _ (un.frzs b ob _ z)
          rw [e] at e1
          cases e1
          exact e2
  cases hk : K.lookup a with
  | some o =>
    have e := KX a o hk
    rw [ha] at e
    cases e
    exact go (fun _ => none) (fun _ => .inl rfl) (.inr ⟨_, vs.toArray, _, hk, rfl, rfl, rfl, by rw [List.size_toArray, lv]; exact hl, by simpa using rv⟩) (fun b u z => nomatch z) (fun b z => absurd rfl z) fun z => absurd rfl z
  | none =>
    have at1 : (fun b => if b = a then some (HO.frz { cls := .type "list", data := .seq vs.toArray } (.lst (ns.map V.int))) else none : Hp) a = some (HO.frz { cls := .type "list", data := .seq vs.toArray } (.lst (ns.map V.int))) := if_pos rfl
    refine go (fun b => if b = a then some (.frz { cls := .type "list", data := .seq vs.toArray } (.lst (ns.map V.int))) else none) (fun b => ?_) (.inl (.inr ⟨_, at1⟩)) (fun b u z => ?_) (fun b z => ?_) fun _ => hk
    · by_cases hb : b = a
      · exact .inr ⟨_, _, if_pos hb⟩
      · exact .inl (if_neg hb)
    · by_cases hb : b = a
      · subst hb
        rw [at1] at z
        cases z
        exact ⟨ha, by rw [List.length_map]; exact hl, vs, _, rv, ha⟩
      · have z' := (if_neg hb).symm.trans z
        cases z'
    · by_cases hb : b = a
      · exact hb
      · exact absurd (if_neg hb) z
theorem walk_ofG {l : PySem.W.OpenLaw} {n k : Nat} {q : Program} {loose : List Str} {XP : (Str → Option Value) → Heap → Prop} {YP : World → Heap → Prop} {d : DefRec} {K : Params → PySem.W.Frag} {CX : World → CXT} {sp : World → Sp} {x : Str}
    (hn : l.most = some n) (hn2 : n ≤ sizeLine) (hdf : d.params.defaults = []) (hr : Room k callerA) (hY : ∀ (w : World) (h : Heap), YP w h → (K w.params).In h)
    (F : ∀ (w : World) (mg : Str → Option Value) (fa : Addr) (h : Heap), (K w.params).In h → h.Ns mainGlobals mg → mg d.name = some (.ref fa) →
      ∃ fd : FuncData, (∀ (s : Shared) (u : Value), BindsTo s fd ⟨[u], []⟩ [(x, u)]) ∧ ∀ base : Heap, (K w.params).In base → base.Ns mainGlobals mg → FnG l.prog w (K w.params) mg base (CX w) k fa fd [x] (sp w))
    (hsp : ∀ (w : World) (H : Hp) (a : Addr) (ns : List Int), ns.length ≤ n → Only H → SqL (K w.params) H a (ns.map V.int) → sp w [.ref a] H (fun v _ => v = .bl true) fun _ _ _ => False)
    (hCX : ∀ (w : World) (H : Hp) (s : Shared) (e : Value) (s' : Shared), CX w [] H s (fun _ _ _ => False) e s' → False) :
    PySem.W.WalkO q loose XP YP l.row.toRowW d [] (fun f vs => PySem.call f vs) := by
  refine Att.attach_call hn hdf fun w s₀ s₁ mg mb fa o pm cd doc a vs ns G Y ho hd hcd hmg hobj hints hlen hg => ?_
  obtain ⟨fd, hb, hF⟩ := F w mg fa _ (hY w _ Y) G.T.g hmg
  exact law_endG (hY w _ Y) G.T.g G.T.b G.T.builtins G.T.nolimit hg hobj hints (Nat.le_trans hlen hn2) hr hF hb (fun H hO hS => hsp w H a ns hlen hO hS) fun H e s' => hCX w H s₁ e s'
end Tw
/-! Tw, part 2: repr of data. -/
namespace Tw
open PySem PySem.Spec PyProof.Rows L2

/-! ### how long a repr may be -/
mutual
def cap : PyData → Nat
  | .none => 4
  | .bool _ => 5
  | .int _ => 1921
  | .str x => 10 * x.length + 2
  | .list xs => 2 + capAll xs
  | .tuple xs => 3 + capAll xs
  | .dict kvs => 2 + capKv kvs
def capAll : List PyData → Nat
  | [] => 0
  | x :: xs => cap x + 2 + capAll xs
def capKv : List (PyData × PyData) → Nat
  | [] => 0
  | (k, v) :: r => cap k + 4 + cap v + capKv r
end
mutual
/-- ints of moderate size, texts of plain signs -/
def mild : PyData → Bool
  | .none | .bool _ => true
  | .int i => decide (i.natAbs.log2 < 1920)
  | .str x => x.cps.toList.all fun c => decide (c < 16 ^ 8)
  | .list xs | .tuple xs => mildAll xs
  | .dict kvs => mildKv kvs
def mildAll : List PyData → Bool
  | [] => true
  | x :: xs => mild x && mildAll xs
def mildKv : List (PyData × PyData) → Bool
  | [] => true
  | (k, v) :: r => mild k && (mild v && mildKv r)
end
mutual
theorem mild_show : ∀ d : PyData, mild d = true → d.showable = true
  | .none, _ => rfl
  | .bool _, _ => rfl
  | .str _, _ => rfl
  | .int i, h => by simpa [mild, PyData.showable] using h
  | .list xs, h => by
    simp only [PyData.showable]
    exact mild_showAll xs (by simpa [mild] using h)
  | .tuple xs, h => by
    simp only [PyData.showable]
    exact mild_showAll xs (by simpa [mild] using h)
  | .dict kvs, h => by
    simp only [PyData.showable]
    exact mild_showKv kvs (by simpa [mild] using h)
theorem mild_showAll : ∀ xs : List PyData, mildAll xs = true → PyData.showableAll xs = true
  | [], _ => rfl
  | x :: xs, h => by
    have h2 := Bool.and_eq_true_iff.mp (show (mild x && mildAll xs) = true by simpa [mildAll] using h)
    simp only [PyData.showableAll, mild_show x h2.1, mild_showAll xs h2.2, Bool.and_self]
theorem mild_showKv : ∀ kvs : List (PyData × PyData), mildKv kvs = true → PyData.showableKv kvs = true
  | [], _ => rfl
  | (k, v) :: r, h => by
    have h2 := Bool.and_eq_true_iff.mp (show (mild k && (mild v && mildKv r)) = true by simpa [mildKv] using h)
    have h3 := Bool.and_eq_true_iff.mp h2.2
    simp only [PyData.showableKv, mild_show k h2.1, mild_show v h3.1, mild_showKv r h3.2, Bool.and_self]
end
theorem textFrom_le : ∀ (ts : List Str) (k : Nat) (acc : Str), (textFrom k acc ts).length ≤ acc.length + piled ts
  | [], k, acc => by
    show acc.length ≤ acc.length + _
    omega
  | t :: r, k, acc => by
    have ih := textFrom_le r (k + 1) (acc ++ (if k > 0 then ", " else "" : String) ++ t)
    rw [piled_cons]
    show (textFrom (k + 1) (acc ++ (if k > 0 then ", " else "" : String) ++ t) r).length ≤ _
    rw [strLen_append, strLen_append] at ih
    have e : (Str.ofString (if k > 0 then ", " else "" : String)).length ≤ 2 := by
      by_cases hk : k > 0
      · rw [if_pos hk]; decide
      · rw [if_neg hk]; decide
    have e' : ((if k > 0 then ", " else "" : String) : Str).length ≤ 2 := e
    omega
theorem join_le (ts : List Str) : (Str.join ", " ts).length ≤ piled ts := by
  by_cases h : ts = []
  · subst h
    decide
  · have := join_length_add ts h
    omega
theorem piled_le : ∀ (xs : List PyData) (ts : List Str), ts.length = xs.length → (∀ (i : Nat) (x : PyData) (t : Str), xs[i]? = some x → ts[i]? = some t → t.length ≤ cap x) → piled ts ≤ capAll xs
  | [], [], _, _ => Nat.le_refl _
  | x :: xs, t :: ts, hl, h => by
    have h1 := h 0 x t rfl rfl
    have h2 := piled_le xs ts (by simpa using hl) fun i y u e1 e2 => h (i + 1) y u (by simpa using e1) (by simpa using e2)
    rw [piled_cons]
    simp only [capAll]
    omega
  | [], _ :: _, hl, _ => by simp at hl
  | _ :: _, [], hl, _ => by simp at hl
mutual
theorem shown_le : ∀ d : PyData, mild d = true → d.shown.length ≤ cap d
  | .none, _ => by simp only [PyData.shown, cap]; decide
  | .bool b, _ => by
    simp only [PyData.shown, cap]
    cases b <;> decide
  | .int i, h => by
    have h2 : i.natAbs.log2 < 1920 := by simpa [mild] using h
    have e := int_text_length_le (a := i) (k := 1920) (by decide) h2
    simp only [PyData.shown, cap]
    show (Str.ofString (toString i)).length ≤ 1921
    rw [PySem.ofString_length]
    exact e
  | .str x, h => by
    simp only [PyData.shown, cap]
    exact PySem.StrLaws.reprText_len x fun c hc => of_decide_eq_true (List.all_eq_true.mp (show (x.cps.toList.all fun c => decide (c < 16 ^ 8)) = true by simpa [mild] using h) c hc)
  | .list xs, h => by
    have h2 := shownAll_le xs (by simpa [mild] using h)
    simp only [PyData.shown, cap]
    have e := textFrom_le (PyData.shownAll xs) 0 "["
    unfold listText
    rw [strLen_append]
    have e1 : ("[" : Str).length = 1 := by decide
    have e2 : ("]" : Str).length = 1 := by decide
    omega
  | .tuple xs, h => by
    have h2 := shownAll_le xs (by simpa [mild] using h)
    simp only [PyData.shown, cap]
    have e := join_le (PyData.shownAll xs)
    unfold tupleText
    rw [strLen_append, strLen_append]
    have e1 : ("(" : Str).length = 1 := by decide
    have e2 : ((if (PyData.shownAll xs).length == 1 then ",)" else ")" : String) : Str).length ≤ 2 := by
      cases (PyData.shownAll xs).length == 1 <;> decide
    omega
  | .dict kvs, h => by
    have h2 := shownKv_le kvs (by simpa [mild] using h)
    simp only [PyData.shown, cap]
    have e := join_le (PyData.shownKv kvs)
    unfold dictText
    rw [strLen_append, strLen_append]
    have e1 : ("{" : Str).length = 1 := by decide
    have e2 : ("}" : Str).length = 1 := by decide
    omega
theorem shownAll_le : ∀ xs : List PyData, mildAll xs = true → piled (PyData.shownAll xs) ≤ capAll xs
  | [], _ => by simp only [PyData.shownAll, capAll]; decide
  | x :: xs, h => by
    have h2 := Bool.and_eq_true_iff.mp (show (mild x && mildAll xs) = true by simpa [mildAll] using h)
    have a := shown_le x h2.1
    have b := shownAll_le xs h2.2
    simp only [PyData.shownAll, capAll, piled_cons]
    omega
theorem shownKv_le : ∀ kvs : List (PyData × PyData), mildKv kvs = true → piled (PyData.shownKv kvs) ≤ capKv kvs
  | [], _ => by simp only [PyData.shownKv, capKv]; decide
  | (k, v) :: r, h => by
    have h2 := Bool.and_eq_true_iff.mp (show (mild k && (mild v && mildKv r)) = true by simpa [mildKv] using h)
    have h3 := Bool.and_eq_true_iff.mp h2.2
    have a := shown_le k h2.1
    have b := shown_le v h3.1
    have c := shownKv_le r h3.2
    simp only [PyData.shownKv, capKv, piled_cons]
    rw [strLen_append, strLen_append]
    have e1 : (": " : Str).length = 2 := by decide
    omega
end

/-! ### data in the abstract heap, with flat dicts -/
def keyD : Key → PyData
  | .inl i => .int i
  | .inr x => .str x
mutual
inductive Dx (K : PySem.W.Frag) (H : Hp) : V → PyData → Prop
  | non : Dx K H .non .none
  | bl (b : Bool) : Dx K H (.bl b) (.bool b)
  | int (i : Int) : Dx K H (.int i) (.int i)
  | str (x : Str) : Dx K H (.str x) (.str x)
  | lst {a : Addr} {xs : List V} {ds : List PyData} : SqL K H a xs → a ≠ sysModules → DxAll K H xs ds → Dx K H (.ref a) (.list ds)
  | tup {a : Addr} {xs : List V} {ds : List PyData} : SqT K H a xs → DxAll K H xs ds → Dx K H (.ref a) (.tuple ds)
  | dic {a : Addr} {kvs : List (Key × V)} {ds : List PyData} : H a = some (.dK kvs) → DxAll K H (kvs.map (·.2)) ds → Dx K H (.ref a) (.dict ((kvs.map fun p => keyD p.1).zip ds))
inductive DxAll (K : PySem.W.Frag) (H : Hp) : List V → List PyData → Prop
  | nil : DxAll K H [] []
  | cons {v : V} {vs : List V} {d : PyData} {ds : List PyData} : Dx K H v d → DxAll K H vs ds → DxAll K H (v :: vs) (d :: ds)
end
section
variable {X : Cx} {pins : List (Addr × Obj)} {σ : L2.St} {H : Hp} {s : Shared}
theorem DxAll.len : ∀ {vs : List V} {ds : List PyData}, DxAll X.K H vs ds → vs.length = ds.length
  | [], _, .nil => rfl
  | _ :: _, _, .cons _ t => by
    have := DxAll.len t
    simp [this]
theorem readsAll_keys {h : Heap} : ∀ {kvs : List (Key × V)} {ws : List (Key × Value)} {es : List DictEntry}, KV kvs ws → Pairs (mixKind X.prog X.w) es ws → ReadsAll h (es.map (·.key)) (kvs.map fun p => keyD p.1) []
  | [], _, _, .nil, .nil => .nil
  | (k, v) :: kvs, (k', u) :: ws, e :: es, .cons r t, .cons a b q => by
    obtain ⟨r1, r2⟩ := r
    have ih := readsAll_keys (h := h) t q
    have hk : keyIs k' e.key = true := a
    have r1' : k = k' := r1
    subst r1'
    rcases keyIs_shape hk with ⟨i, tk, e1, e2⟩ | ⟨x, tk, e1, e2⟩
    · subst e1
      show ReadsAll h (e.key :: es.map (·.key)) (PyData.int i :: _) ([] ++ [])
      rw [e2]
      exact .cons (.int i tk) ih
    · subst e1
      show ReadsAll h (e.key :: es.map (·.key)) (PyData.str x :: _) ([] ++ [])
      rw [e2]
      exact .cons (.str x tk) ih
theorem vals_of_pairs : ∀ {kvs : List (Key × V)} {ws : List (Key × Value)} {es : List DictEntry}, KV kvs ws → Pairs (mixKind X.prog X.w) es ws → Vals (kvs.map (·.2)) (es.map (·.val))
  | [], _, _, .nil, .nil => .nil
  | (k, v) :: kvs, (k', u) :: ws, e :: es, .cons r t, .cons a b q => by
    obtain ⟨r1, r2⟩ := r
    refine .cons ?_ (vals_of_pairs t q)
    have b' : e.val = u := b
    show RelV v e.val
    rw [b']
    exact r2
theorem map_fst_zip' {α β : Type} : ∀ {l : List α} {m : List β}, l.length = m.length → (l.zip m).map (·.1) = l
  | [], [], _ => rfl
  | _ :: l, _ :: m, h => by
    have := map_fst_zip' (l := l) (m := m) (by simpa using h)
    simp [this]
  | [], _ :: _, h => by simp at h
  | _ :: _, [], h => by simp at h
theorem map_snd_zip' {α β : Type} : ∀ {l : List α} {m : List β}, l.length = m.length → (l.zip m).map (·.2) = m
  | [], [], _ => rfl
  | _ :: l, _ :: m, h => by
    have := map_snd_zip' (l := l) (m := m) (by simpa using h)
    simp [this]
  | [], _ :: _, h => by simp at h
  | _ :: _, [], h => by simp at h
mutual
theorem Dx.reads (I : Inv X pins σ H s) : ∀ {v : V} {d : PyData} {u : Value}, Dx X.K H v d → RelV v u → ∃ as, Reads s.heap u d as ∧ sysModules ∉ as
  | _, _, _, .non, r => by
    cases r
    exact ⟨_, Reads.none, fun z => nomatch z⟩
  | _, _, _, .bl b, r => by
    cases r
    exact ⟨_, Reads.bool b, fun z => nomatch z⟩
  | _, _, _, .int i, r => by
    obtain ⟨t, rfl⟩ := r
    exact ⟨_, Reads.int i t, fun z => nomatch z⟩
  | _, _, _, .str x, r => by
    obtain ⟨t, rfl⟩ := r
    exact ⟨_, Reads.str x t, fun z => nomatch z⟩
  | _, _, _, .lst (a := a) hs hne ha, r => by
    cases r
    obtain ⟨its, rv, ⟨o, n, ho, hc, _, hd⟩, _⟩ := I.list hs
    obtain ⟨as, hr, hn⟩ := DxAll.reads I ha rv
    refine ⟨_, Reads.list ho hc hd hr, fun z => ?_⟩
    rcases List.mem_cons.mp z with z | z
    · exact hne z.symm
    · exact hn z
  | _, _, _, .tup hs ha, r => by
    cases r
    obtain ⟨its, rv, ⟨o, ho, hc, n, hd⟩, _⟩ := I.tuple hs
    obtain ⟨as, hr, hn⟩ := DxAll.reads I ha rv
    exact ⟨_, Reads.tuple ho hc hd hr, hn⟩
  | _, _, _, .dic (kvs := kvs) hs ha, r => by
    cases r
    obtain ⟨_, hsys, ws, hkv, o, es, ep, ho, hx, hd, _, hp, _⟩ := I.hok _ _ hs
    have hl := DxAll.len (X := X) ha
    have rv := vals_of_pairs (X := X) hkv hp
    obtain ⟨as, hr, hn⟩ := DxAll.reads I ha rv
    have hk := readsAll_keys (h := s.heap) hkv hp
    refine ⟨_, Reads.dict ho hx.1 hd (as := []) (bs := as) (by rw [map_fst_zip' (by rw [List.length_map, ← hl, List.length_map])]; exact hk) (by rw [map_snd_zip' (by rw [List.length_map, ← hl, List.length_map])]; exact hr), fun z => ?_⟩
    rcases List.mem_cons.mp (by simpa using z) with z | z
    · rw [← z] at hsys
      simp at hsys
    · exact hn z
theorem DxAll.reads (I : Inv X pins σ H s) : ∀ {vs : List V} {ds : List PyData} {us : List Value}, DxAll X.K H vs ds → Vals vs us → ∃ as, ReadsAll s.heap us ds as ∧ sysModules ∉ as
  | _, _, _, .nil, .nil => ⟨_, .nil, fun z => nomatch z⟩
  | _, _, _, .cons h t, .cons r q => by
    obtain ⟨as, h1, n1⟩ := Dx.reads I h r
    obtain ⟨bs, h2, n2⟩ := DxAll.reads I t q
    exact ⟨_, .cons h1 h2, fun z => (List.mem_append.mp z).elim n1 n2⟩
end
end
end Tw

/-! ### the rules -/
namespace Tw
open PySem PySem.Spec PyProof.Rows L2
theorem boot_repr : bootBuiltins "repr" = some (.builtin "repr") := by decide +kernel
section
variable {X : Cx}
/-- repr(x), x a list or a tuple of data -/
def rRepr (K : PySem.W.Frag) : List V → Hp → VK → Prop := fun xs H Q => ∃ (a : Addr) (d : PyData), xs = [.ref a] ∧ Dx K H (.ref a) d ∧ mild d = true ∧ d.depth ≤ 64 ∧ cap d ≤ 16777216 ∧ Q (.str d.shown) H
theorem call_repr (hG : NoG X.A) (hu : X.A.units + 70 < cLine) : CallR X (.builtin "repr") (rRepr X.K) := by
  intro pins s σ H xs us Q I r h
  obtain ⟨a, d, rfl, hd, hm, hdp, hc, q⟩ := h
  obtain ⟨u, rfl, ru⟩ := vals1 r
  obtain ⟨as, hr, hn⟩ := Dx.reads I hd ru
  cases (show u = Value.ref a from ru)
  exact repr_of_reads' hr (mild_show d hm) (fun _ => hn) hG (by omega) (fun _ _ e => e) (fun h' u tk hk => ⟨.str d.shown, H, I.kept (t' := tk) hk, ⟨_, rfl⟩, q⟩) (Nat.le_trans (shown_le d hm) (by rw [sizeLine_eq]; exact hc))
mutual
theorem dp_reads {pins : List (Addr × Obj)} {σ : L2.St} {H : Hp} {s : Shared} (I : Inv X pins σ H s) : ∀ {v : V} {d : PyData}, Dp X.K H v d → d.hasDict = false
  | _, _, .non => by simp only [PyData.hasDict]
  | _, _, .bl _ => by simp only [PyData.hasDict]
  | _, _, .int _ => by simp only [PyData.hasDict]
  | _, _, .str _ => by simp only [PyData.hasDict]
  | _, _, .lst _ ha => by
    simp only [PyData.hasDict]
    exact dpAll_reads I ha
  | _, _, .tup _ ha => by
    simp only [PyData.hasDict]
    exact dpAll_reads I ha
theorem dpAll_reads {pins : List (Addr × Obj)} {σ : L2.St} {H : Hp} {s : Shared} (I : Inv X pins σ H s) : ∀ {vs : List V} {ds : List PyData}, DpAll X.K H vs ds → PyData.hasDictAll ds = false
  | _, _, .nil => by simp only [PyData.hasDictAll]
  | _, _, .cons h t => by simp only [PyData.hasDictAll, dp_reads I h, dpAll_reads I t, Bool.or_self]
end
def rReprD (K : PySem.W.Frag) : List V → Hp → VK → Prop := fun xs H Q => ∃ (a : Addr) (d : PyData), xs = [.ref a] ∧ Dp K H (.ref a) d ∧ mild d = true ∧ d.depth ≤ 64 ∧ cap d ≤ 16777216 ∧ Q (.str d.shown) H
theorem call_reprD (hG : NoG X.A) (hu : X.A.units + 70 < cLine) : CallR X (.builtin "repr") (rReprD X.K) := by
  intro pins s σ H xs us Q I r h
  obtain ⟨a, d, rfl, hd, hm, hdp, hc, q⟩ := h
  obtain ⟨u, rfl, ru⟩ := vals1 r
  obtain ⟨as, hr⟩ := Dp.reads I d _ u hd ru
  cases (show u = Value.ref a from ru)
  exact repr_of_reads' hr (mild_show d hm) (PyData.noDict_hsm (dp_reads I hd)) hG (by omega) (fun _ _ e => e) (fun h' u tk hk => ⟨.str d.shown, H, I.kept (t' := tk) hk, ⟨_, rfl⟩, q⟩) (Nat.le_trans (shown_le d hm) (by rw [sizeLine_eq]; exact hc))
/-! ### lists that are known to stand elsewhere than the table of modules -/
variable {es : List Expr} {t : TA} {pos : Pos}
def tLstB (t : TA) : TE := fun σ H Q => t σ H fun xs H1 => xs.length ≤ sizeLine ∧ ∀ p, H1 p = none → p ≠ sysModules → Q (.ref p) (upd H1 p (.lst xs))
theorem pe_lstB (h : PA X es t) : PE X (.List es pos) (tLstB t) := by
  refine ⟨fun pins s σ H Q I hq => wpAny_List_spliced (thn (h.run pos pins s σ H _ I hq) fun us s1 ⟨xs, H1, I1, r, z, q⟩ => ⟨by rw [← r.length]; exact z, ?_⟩)⟩
  exact ⟨.ref s1.heap.objs.size, upd H1 s1.heap.objs.size (.lst xs), I1.laid (t' := s1.toks) (fun b u e => Heap.get?_push_of_some _ e) (Nat.le_refl _) ⟨z, us, 0, r, Heap.get?_push_size _ rfl⟩, rfl, q _ (I1.hok.fresh (Nat.le_refl _)) (Nat.ne_of_gt I1.big)⟩
def rCatB : R2 := fun x y H Q => ∃ l b xs zs, x = .ref l ∧ y = .ref b ∧ H l = some (.lst xs) ∧ H b = some (.lst zs) ∧ xs.length + zs.length ≤ sizeLine ∧ ∀ p, H p = none → p ≠ sysModules → Q (.ref p) (upd H p (.lst (xs ++ zs)))
theorem op_catB : OpR X (binaryOp .Add) rCatB := by
  intro pins s σ H x y v u Q I rx ry h
  obtain ⟨l, b, xs, zs, rfl, rfl, hH, hB, hz, q⟩ := h
  cases rx
  cases ry
  obtain ⟨z, its, n, r, hl, e⟩ := I.lstM hH
  obtain ⟨z2, its2, n2, r2, hl2, e2⟩ := I.lstM hB
  refine PySem.P.add_list e e2 ?_ (by rw [List.size_toArray, List.size_toArray]; omega)
  rw [show its.toArray ++ its2.toArray = (its ++ its2).toArray by simp]
  exact ⟨.ref _, _, I.lnew (t' := s.toks) (r.append r2) (by rw [List.length_append]; omega), rfl, q _ I.fresh (Nat.ne_of_gt I.big)⟩
end
end Tw
/-! Tw, part 3: errors of own classes as values. -/
namespace Tw
open PySem PySem.Spec PyProof.Rows L2

/-- at a: an error of the class at C (made or caught), its own dict at d -/
def exT (a C : Addr) (d : Option Addr) : HO := .ext fun h => ∃ (oe : Obj) (vs : Array Value), h.get? a = some oe ∧ Zc (.ref C) d oe ∧ oe.data = .fields vs
theorem exT_ok {P : Program} {w : World} {H : Hp} {h : Heap} {a C : Addr} {d : Option Addr} {oe : Obj} {vs : Array Value} (e : h.get? a = some oe) (z : Zc (.ref C) d oe) (hd : oe.data = .fields vs) : ObjOk P w H h a (exT a C d) :=
  ⟨⟨oe, vs, e, z, hd⟩, ⟨oe, e⟩, fun _ _ ⟨o, v, q, r⟩ k => ⟨o, v, k o q, r⟩⟩
def IsX (H : Hp) (a C : Addr) (d : Option Addr) : Prop := H a = some (exo a C d) ∨ H a = some (exT a C d)
def IsXd (H : Hp) (d : Addr) (fs : List (Str × V)) : Prop := H d = some (exd d fs) ∨ H d = some (.xd fs)
theorem IsX.get {P : Program} {w : World} {H : Hp} {h : Heap} {a C : Addr} {d : Option Addr} (hok : HOk P w H h) (x : IsX H a C d) : ∃ (oe : Obj) (vs : Array Value), h.get? a = some oe ∧ Zc (.ref C) d oe ∧ oe.data = .fields vs := by
  rcases x with e | e
  · obtain ⟨t1, q⟩ := exo_at hok e
    exact ⟨_, _, q, ⟨rfl, rfl⟩, rfl⟩
  · have x : ObjOk P w H h a (.ext fun h => ∃ (oe : Obj) (vs : Array Value), h.get? a = some oe ∧ Zc (.ref C) d oe ∧ oe.data = .fields vs) := hok a _ e
    exact x.1
theorem IsXd.get {P : Program} {w : World} {H : Hp} {h : Heap} {d : Addr} {fs : List (Str × V)} (hok : HOk P w H h) (x : IsXd H d fs) : ∃ mA, h.Ns1 d mA ∧ ∀ f, RelO (fs.lookup f) (mA f) := by
  rcases x with e | e
  · exact exd_at hok e
  · exact (show ObjOk P w H h d (.xd fs) from hok d _ e)
theorem IsX.same {H H' : Hp} {a C : Addr} {d : Option Addr} (e : Same H H') (x : IsX H a C d) : IsX H' a C d := x.imp (e _ _) (e _ _)
theorem IsXd.same {H H' : Hp} {d : Addr} {fs : List (Str × V)} (e : Same H H') (x : IsXd H d fs) : IsXd H' d fs := x.imp (e _ _) (e _ _)

/-- what the written part says of an error class -/
structure XC (K : PySem.W.Frag) (C : Addr) : Prop where
  ox : OexC K C
  ga : PySem.W.findIn K (.ref C) "__getattribute__" = some (some (.builtin "BaseException.__getattribute__"))
  gg : PySem.W.findIn K (.ref C) "__getattr__" = some none
  hd : PySem.W.hasDictIn K C = true
  ca : PySem.W.findIn K (.ref C) "__class__" = some (some (.builtin "object.__class__"))
  cm : PySem.W.mroIn K C (.type "object") = some true
/-- what it says of object.__class__ -/
structure XO (K : PySem.W.Frag) : Prop where
  hn : PySem.W.specialIn K (.builtin "object.__class__") "__get__" = some (some (.builtin "getset_descriptor.__get__"))
  ht : PySem.W.takesIn K (.builtin "object.__class__") = some true
theorem oexC_cl {K : PySem.W.Frag} {C : Addr} (T : OexC K C) : (PySem.W.clsIn K C).isSome = true := by
  obtain ⟨nm, q, N, bs, bm, sn, sub, ab, col, dd, k0, k1, k2, k3, k5, hC, _⟩ := T.cls
  unfold PySem.W.clsIn
  rw [hC]
  rfl
section
variable {X : Cx} {CX : CXT} {k : Nat} {fI C : Addr} {fd : FuncData} {ps : List Str} {sp : Sp} {dvs : List V} {ds : List Value} {E : XK} {x f : Str} {p pos : Pos} {e : Expr} {es : List Expr} {ta : TA} {te : TE}
/-- C(e, ..) as a value, C an error class whose __init__ keeps sp -/
def tMkX (C : Addr) (sp : Sp) (dvs : List V) (ta : TA) : TE := fun σ H Q => ta σ H fun vs H1 => vs.length ≤ 1000 ∧ ∀ a, H1 a = none → sp (.ref a :: (vs ++ dvs)) (upd H1 a (exo a C none)) (fun v H2 => v = .non ∧ Q (.ref a) H2) (fun _ _ _ => False)
theorem pe_mkX (T : OexC X.K C) (iC : PySem.W.findIn X.K (.ref C) "__init__" = some (some (.ref fI))) (tI : PySem.W.typeIn X.K (.ref fI) = some (.type "function"))
    (F1 : FnOk X.prog X.w X.K X.mg X.base CX k fI fd ps sp) (hr : Room (k + 1) X.A) (hb : Binds X.K fd ps ds) (hd : Vals dvs ds) (hx : Passes CX X (fun _ _ _ => False)) (hg : Gl X x) (hm : X.mg x = some (.ref C)) (ha : PA X (e :: es) ta)
    (hdb : (x == ("__debug__" : Str)) = false := by decide) (he : starEach (e :: es) X.env = (false, eval e X.env) :: starEach es X.env := by rfl) (hpl : (backTo pos (starEach es X.env)).any (·.1) = false := by rfl) :
    PE X (.Call (.Name x p) (e :: es) [] pos) (tMkX C sp dvs ta) := by
  refine ⟨fun pins s σ H Q I h => ?_⟩
  obtain ⟨nm, q, N, bs, bm, sn, sub, ab, col, dd, k0, k1, k2, k3, k5, hC, hbm⟩ := T.cls
  refine wpAny_Call_Name_kw (ld_glob I hg hm ?_ hdb)
  refine PySem.W.callWith_K (h₀ := X.base) I.ok.mod.kin T.kC (thn (ha.run pos pins s σ H _ I h) fun us s1 ⟨vs, H1, I1, r1, hz, q1⟩ => ⟨I1.kIn, ?_⟩) he hpl
  show wpAny _ _ (call (.ref C) us) _ _ _
  obtain ⟨hp, g, dr, tk, os⟩ := s1
  have hsz : hp.objs.size ≤ hp.objs.size + 1 := Nat.le_succ _
  have hq := q1 (hp.objs.size + 1) (I1.hok.fresh hsz)
  have kk : ∀ b o, hp.get? b = some o → ((hp.push (PySem.W.kdv_tup us)).push (PySem.HandSPX.excO C hp.objs.size)).get? b = some o := fun b o z => Heap.get?_push_of_some _ (Heap.get?_push_of_some _ z)
  have hget : ((hp.push (PySem.W.kdv_tup us)).push (PySem.HandSPX.excO C hp.objs.size)).get? (hp.objs.size + 1) = some (PySem.HandSPX.excO C hp.objs.size) := by heap_get
  have I2 := I1.laid (t' := tk) (a := hp.objs.size + 1) (o := exo (hp.objs.size + 1) C none) (h' := (hp.push (PySem.W.kdv_tup us)).push (PySem.HandSPX.excO C hp.objs.size)) kk hsz (exo_ok hget)
  have r2 : Vals (V.ref (hp.objs.size + 1) :: (vs ++ dvs)) (Value.ref (hp.objs.size + 1) :: (us ++ ds)) := .cons rfl (r1.append hd)
  have hl : (Value.ref (hp.objs.size + 1) :: us ++ ds).length = ps.length := r2.length.symm.trans (F1.len _ _ _ _ hq)
  have hus : us.length ≤ sizeLine := by
    rw [← Paired.length r1, sizeLine_eq]
    omega
  refine wpAny_call (PySem.HandSPX.call_own F.excBase_ValueError (fun Y => PySem.HandSPX.refsVE_contains Y bm hbm) (I1.kIn _ _ hC) (PySem.W.looks_findIn I1.kIn iC) (fun self => PySem.W.bind_fn I1.kIn self tI) hus
    (codeAny_mono (F1.run _ X.stack _ _ ⟨Value.ref (hp.objs.size + 1) :: us, []⟩ (Value.ref (hp.objs.size + 1) :: (us ++ ds)) _ _ (fun _ _ _ => False) (hr.make C us []) (I2.env0.make C us []) (hb _ (Value.ref (hp.objs.size + 1) :: us) I2.kIn hl) r2 hq) fun r s' hq' => ?_))
  match r, hq' with
  | .error er, hq' => exact hx pins σ _ _ er s' I2 hq'
  | .ok (.ret u), hq' =>
    obtain ⟨v, H2, os2, bare2, un2, hok2, rv, ev, q2⟩ := hq'
    subst ev
    obtain ⟨h2, g2, d2, t2, os'⟩ := s'
    obtain rfl : os' = os := os2
    exact ⟨rv, .ref (hp.objs.size + 1), H2, I2.call (h' := h2) (g' := g2) (d' := d2) (t' := t2) (ch := []) un2 hok2 bare2 (fun b z => nomatch z), rfl, q2⟩
/-- e.f, e an error -/
def tXfld (K : PySem.W.Frag) (f : Str) (te : TE) : TE := fun σ H Q => te σ H fun x H1 => ∃ (a C d : Addr) (fs : List (Str × V)) (v : V), x = .ref a ∧ IsX H1 a C (some d) ∧ XC K C ∧ PySem.W.findIn K (.ref C) f = some none ∧ IsXd H1 d fs ∧ fs.lookup f = some v ∧ Q v H1
theorem pe_xfld (he : PE X e te) (hb : attributeBase e f X.env (eval e X.env) = eval e X.env := by rfl) : PE X (.Attribute e f pos) (tXfld X.K f te) := by
  refine ⟨fun pins s σ H Q I h => attr_of hb (thn (he.run pins s σ H _ I h) fun u s1 hh => ?_)⟩
  obtain ⟨x, H1, I1, rx, a, C, d, fs, v, ex, ia, T, hno, idd, hl, q⟩ := hh
  subst ex
  obtain rfl : u = Value.ref a := rx
  obtain ⟨oe, vs, ho, hz, hdt⟩ := ia.get I1.hok
  obtain ⟨mA, hns, hr⟩ := idd.get I1.hok
  obtain ⟨od, hod, hlk⟩ := lookIn_ns hns
  obtain ⟨u, hu, ru⟩ := RelO.some_of (v := v) (o := mA f) (by rw [← hl]; exact hr f)
  have J : PySem.W.InstAt s1.heap a oe C (some od) := ⟨ho, hz.1, by unfold PySem.W.notCls; rw [hdt] <;> rfl, by rw [hz.2]; exact hod⟩
  exact HandSPX.exc_get I1.kIn J T.ga T.gg T.ox.exC (PySem.W.findObj_own T.hd hno rfl (by rw [hlk, hu])) (handed_of ru) ⟨v, H1, I1.tok _, ru, q⟩
/-- isinstance(x, c), x anything that is known, errors too -/
def rIsA (K : PySem.W.Frag) : List V → Hp → VK → Prop := fun xs H Q => ∃ (x c : V) (t u : Value) (b : Bool), xs = [x, c] ∧ ClsV c u ∧ (TyX K H x t ∨ ∃ (a C : Addr) (d : Addr) (fs : List (Str × V)), x = .ref a ∧ t = .ref C ∧ IsX H a C (some d) ∧ IsXd H d fs ∧ XC K C ∧ XO K) ∧ PySem.W.kitOne K t u = some b ∧ Q (.bl b) H
theorem call_isA : CallR X (.builtin "isinstance") (rIsA X.K) := by
  intro pins s σ H xs us Q I r h
  obtain ⟨x, c, t, u, b, rfl, k, ty, e, q⟩ := h
  obtain ⟨u1, u2, rfl, r1, r2⟩ := vals2 r
  have e2 := k.eq r2
  subst e2
  rcases ty with ty | ⟨a, C, d, fs, rfl, rfl, ia, idd, T, O⟩
  · obtain ⟨P, Z, p, hx⟩ := kit_of I r1 ty
    exact PySem.W.kia_one Z I.kIn p e hx fun tk => ⟨.bl b, H, I.tok tk, rfl, q⟩
  · cases (show u1 = Value.ref a from r1)
    obtain ⟨oe, vs, ho, hz, hdt⟩ := ia.get I.hok
    obtain ⟨mA, hns, hr⟩ := idd.get I.hok
    obtain ⟨od, hod, hlk⟩ := lookIn_ns hns
    have J : PySem.W.InstAt s.heap a oe C (some od) := ⟨ho, hz.1, by unfold PySem.W.notCls; rw [hdt] <;> rfl, by rw [hz.2]; exact hod⟩
    exact PySem.W.kia_one (PySem.W.kitx_exc (od := some od) (oexC_cl T.ox) T.ga T.gg T.ox.exC T.ca O.hn O.ht T.cm) I.kIn J e (fun z => nomatch z) fun tk => ⟨.bl b, H, I.tok tk, rfl, q⟩
end
end Tw
/-! Tw, part 4: the head's facts by names, error classes too. -/
namespace Tw
open PySem PySem.Spec PyProof.Rows L2 He
abbrev Fg := PySem.W.Frag
def excB (K : Fg) (C : Addr) : Bool := match K.lookup C with
  | some ⟨.type t, _, .cls cd, sl⟩ => (match cd.mro, sl.toList with
    | .ref C' :: bm, [_, _, _, _, some (.builtin n), _] => decide (t = "type") && (decide (C' = C) && (decide (n = "ValueError.__new__") && (!cd.hasDel && (cd.hasDict && PySem.HandSPX.refsVE bm))))
    | _, _ => false)
  | _ => false
theorem excB_ok {K : Fg} {C : Addr} (h : excB K C = true) : ∃ nm q N bs bm sn sub ab col dd k0 k1 k2 k3 k5, K.lookup C = some (excClassObj nm q C N bs bm true sn sub ab col dd k0 k1 k2 k3 k5 "ValueError.__new__") ∧ PySem.HandSPX.refsVE bm = true := by
  unfold excB at h
  cases e : K.lookup C with
  | none =>
    rw [e] at h
    cases h
  | some o =>
    rw [e] at h
    obtain ⟨oc, od, dt, sl⟩ := o
    cases oc with
    | type t =>
      cases dt with
      | cls cd =>
        obtain ⟨nm, bs, mro, ns, q, hd, sn, sb, ab, col, del⟩ := cd
        dsimp only at h
        obtain ⟨sl⟩ := sl
        dsimp only at h
        match mro, sl, h with
        | .ref C' :: bm, [k0, k1, k2, k3, some (.builtin n), k5], h =>
          obtain ⟨h1, h⟩ := ba h
          obtain ⟨h2, h⟩ := ba h
          obtain ⟨h3, h⟩ := ba h
          obtain ⟨h4, h⟩ := ba h
          obtain ⟨h5, h6⟩ := ba h
          have e1 := of_decide_eq_true h1
          have e2 := of_decide_eq_true h2
          have e3 := of_decide_eq_true h3
          subst e1 e2 e3
          have e4 : del = false := by simpa using h4
          subst e4
          subst h5
          exact ⟨_, _, _, _, _, _, _, _, _, _, _, _, _, _, _, rfl, h6⟩
      | _ => cases h
    | _ => cases h
inductive Fy where
  | fa (f : Fa)
  | xc (x : Str)
  | xo
  | ini (x : Str)
  | kit (x y : Str) (b : Bool)
  | kitT (x : Str) (T : String) (b : Bool)
  | names (x : Str) (zs : List Str)
def Fy.ok (K : Fg) : Fy → Bool
  | .fa f => f.ok K
  | .xc x => excB K (ga K x) && (eqO (PySem.W.findIn K (.ref (ga K x)) "__setattr__") (some (some (.builtin "object.__setattr__"))) && (decide (PySem.W.subIn K (.ref (ga K x)) (.type "BaseException") = some true) && (decide (PySem.W.typeIn K (.ref (ga K x)) = some (.type "type")) &&
      (PySem.W.keepIn K (.ref (ga K x)) && (eqO (PySem.W.findIn K (.ref (ga K x)) "__getattribute__") (some (some (.builtin "BaseException.__getattribute__"))) && (eqO (PySem.W.findIn K (.ref (ga K x)) "__getattr__") (some none) &&
      (PySem.W.hasDictIn K (ga K x) && (eqO (PySem.W.findIn K (.ref (ga K x)) "__class__") (some (some (.builtin "object.__class__"))) && decide (PySem.W.mroIn K (ga K x) (.type "object") = some true)))))))))
  | .xo => eqO (PySem.W.specialIn K (.builtin "object.__class__") "__get__") (some (some (.builtin "getset_descriptor.__get__"))) && decide (PySem.W.takesIn K (.builtin "object.__class__") = some true)
  | .ini x => eqO (PySem.W.findIn K (.ref (ga K x)) "__init__") (some (some (.ref (ma K (ga K x) "__init__")))) && decide (PySem.W.typeIn K (.ref (ma K (ga K x) "__init__")) = some (.type "function"))
  | .kit x y b => decide (PySem.W.kitOne K (.ref (ga K x)) (.ref (ga K y)) = some b)
  | .kitT x T b => decide (PySem.W.kitOne K (.ref (ga K x)) (.type T) = some b)
  | .names x zs => zs.all fun z => eqO (PySem.W.findIn K (.ref (ga K x)) z) (some none)
section
variable {K : Fg} {h : Heap} {mg : Str → Option Value}
theorem xc_ok {x : Str} (c : (Fy.xc x).ok K = true) : XC K (ga K x) := by
  obtain ⟨c1, c⟩ := ba c
  obtain ⟨c2, c⟩ := ba c
  obtain ⟨c3, c⟩ := ba c
  obtain ⟨c4, c⟩ := ba c
  obtain ⟨c5, c⟩ := ba c
  obtain ⟨c6, c⟩ := ba c
  obtain ⟨c7, c⟩ := ba c
  obtain ⟨c8, c⟩ := ba c
  obtain ⟨c9, c10⟩ := ba c
  exact ⟨⟨excB_ok c1, eqO_ok c2, of_decide_eq_true c3, of_decide_eq_true c4, c5⟩, eqO_ok c6, eqO_ok c7, c8, eqO_ok c9, of_decide_eq_true c10⟩
theorem xo_ok (c : Fy.xo.ok K = true) : XO K := by
  unfold Fy.ok at c
  obtain ⟨c1, c2⟩ := ba c
  exact ⟨eqO_ok c1, of_decide_eq_true c2⟩
theorem ini_ok {x : Str} (c : (Fy.ini x).ok K = true) : PySem.W.findIn K (.ref (ga K x)) "__init__" = some (some (.ref (ma K (ga K x) "__init__"))) ∧ PySem.W.typeIn K (.ref (ma K (ga K x) "__init__")) = some (.type "function") := by
  obtain ⟨c1, c2⟩ := ba c
  exact ⟨eqO_ok c1, of_decide_eq_true c2⟩
theorem kit_ok {x y : Str} {b : Bool} (c : (Fy.kit x y b).ok K = true) : PySem.W.kitOne K (.ref (ga K x)) (.ref (ga K y)) = some b := of_decide_eq_true c
theorem kitT_ok {x : Str} {T : String} {b : Bool} (c : (Fy.kitT x T b).ok K = true) : PySem.W.kitOne K (.ref (ga K x)) (.type T) = some b := of_decide_eq_true c
theorem names_ok {x : Str} {zs : List Str} (c : (Fy.names x zs).ok K = true) {z : Str} (hz : z ∈ zs) : PySem.W.findIn K (.ref (ga K x)) z = some none := eqO_ok (List.all_eq_true.mp c z hz)
end
/-! ### the hook: any truths of the written part, in groups -/
abbrev Fz := List (Fg → Bool)
def obsY (fs : Fz) (fn : List DefD) (K : Fg) : AlD := ((fs.all fun f => f K) && fn.all fun d => d.ok K, fn.map fun d => fnW K d.at_)
def SaysY (fs : Fz) (fn : List DefD) (K : Fg) : Prop := obsY fs fn K = valD fn
def obsYG (n : Nat) (fs : Fz) (fn : List DefD) (g : Addr → Option Obj) : AlD := obsY fs fn (frG g (asD g n))
def hookY (n : Nat) (fs : Fz) (fn : List DefD) : PySem.W.Hook where
  α := AlD
  obs := fun s => obsYG n fs fn s.heap.get?
  val := fun _ => valD fn
  says := fun _ h => ∃ K : Fg, K.In h ∧ SaysY fs fn K
  of := fun _ _ e => ⟨_, frG_in, e⟩
  keeps := fun _ _ _ ⟨K, hK, c⟩ k => ⟨K, PySem.W.Frag.In.keeps hK k, c⟩
theorem obsYG_eq {n : Nat} {fs : Fz} {fn : List DefD} {g : Addr → Option Obj} {s : Shared} (h : ∀ a, g a = s.heap.get? a) : obsYG n fs fn g = (hookY n fs fn).obs s := by
  have e : g = s.heap.get? := funext h
  rw [e] <;> rfl
section
variable {fs : Fz} {fn : List DefD} {K : Fg}
theorem SaysY.fact (c : SaysY fs fn K) (i : Nat) {f : Fg → Bool} (h : fs[i]? = some f := by rfl) : f K = true := by
  have c1 := (ba (show ((fs.all fun f => f K) && fn.all fun d => d.ok K) = true from congrArg (fun z : AlD => z.1) c)).1
  exact List.all_eq_true.mp c1 f (List.mem_of_getElem? h)
theorem SaysY.def_ (c : SaysY fs fn K) (i : Nat) {d : DefD} (h : fn[i]? = some d := by rfl) : ∃ fd, FunD K d.name d.qual d.params d.body d.scope (d.dvs K) (d.kws K) (fAd K d.at_) fd := by
  have c2 := (ba (show ((fs.all fun f => f K) && fn.all fun d => d.ok K) = true from congrArg (fun z : AlD => z.1) c)).2
  have e : fn.map (fun d => fnW K d.at_) = fn.map DefD.val := congrArg (fun z : AlD => z.2) c
  have e2 : (fn.map fun d => fnW K d.at_)[i]? = (fn.map DefD.val)[i]? := by rw [e]
  rw [List.getElem?_map, List.getElem?_map, h] at e2
  exact DefD.funD (Option.some.inj e2) (List.all_eq_true.mp c2 d (List.mem_of_getElem? h))
/-- a group told of each item of a list -/
theorem of_all {α : Type} {l : List α} {f : α → Bool} (h : l.all f = true) {x : α} (hx : x ∈ l) : f x = true := List.all_eq_true.mp h x hx
end
/-! ### defs as data -/
abbrev FnP (K : Fg) (x qual : Str) (st : Stmt) (f : Addr) (fd : FuncData) : Prop := FunD K x qual (defArgs st) (defBody st) (defScope st) [] [] f fd
theorem _root_.L2.FunD.okG {P : Program} {w : World} {K : Fg} {mg : Str → Option Value} {base : Heap} {CX : CXT} {x qual : Str} {params : Arguments} {body : List Stmt} {scope : Scope} {dvs : List V} {kws : List (Str × V)} {f : Addr} {fd : FuncData} {N ps : List Str} {k : Nat} {sp : Sp}
    (F : FunD K x qual params body scope dvs kws f fd) (S : FnScope N ps scope) (len : ∀ vs H Q E, sp vs H Q E → vs.length = ps.length)
    (hbody : ∀ (cdv : Value) (A : Around) (outer : List Env) (s : Shared) (H : Hp) (vs : List V) (Q : VK) (E : XK), Room k (A.deeper (envOfC qual scope s.heap.objs.size f cdv)) → NoG (A.deeper (envOfC qual scope s.heap.objs.size f cdv)) → sp vs H Q E →
      ∃ t, PSs (cxOf CX P w K mg base N qual scope f cdv A outer s H E) body t ∧ t { nx := fun _ H' => Q .non H', rt := Q } (start N vs) H) : FnG P w K mg base CX (k + 1) f fd ps sp := by
  obtain ⟨oc, od, dV, kV, doc, pm, an, cdv, ct, osl, rfl, lk, hcd, _, _⟩ := F.ex
  exact fng lk hcd S len fun A outer s H vs Q E hr hg hsp => hbody cdv A outer s H vs Q E hr hg hsp
/-! ### the law's end over facts -/
theorem walk_ofEG {l : PySem.W.OpenLaw} {n k : Nat} {q : Program} {loose : List Str} {XP : (Str → Option Value) → Heap → Prop} {YP : World → Heap → Prop} {d : DefRec} {CX : CXT} {x : Str}
    (hn : l.most = some n) (hn2 : n ≤ sizeLine) (hdf : d.params.defaults = []) (hr : Room k callerA)
    (F : ∀ (w : World) (mg : Str → Option Value) (fa : Addr) (h : Heap), YP w h → h.Ns mainGlobals mg → mg d.name = some (.ref fa) →
      ∃ (K : Fg) (fd : FuncData) (sp : Sp), K.In h ∧ (∀ (s : Shared) (u : Value), BindsTo s fd ⟨[u], []⟩ [(x, u)]) ∧
        (∀ (H : Hp) (a : Addr) (ns : List Int), ns.length ≤ n → Only H → SqL K H a (ns.map V.int) → sp [.ref a] H (fun v _ => v = .bl true) fun _ _ _ => False) ∧
        ∀ base : Heap, K.In base → base.Ns mainGlobals mg → FnG l.prog w K mg base CX k fa fd [x] sp)
    (hCX : ∀ (H : Hp) (s : Shared) (e : Value) (s' : Shared), CX [] H s (fun _ _ _ => False) e s' → False) :
    PySem.W.WalkO q loose XP YP l.row.toRowW d [] (fun f vs => PySem.call f vs) := by
  refine Att.attach_call hn hdf fun w s₀ s₁ mg mb fa o pm cd doc a vs ns G Y ho hd hcd hmg hobj hints hlen hg => ?_
  obtain ⟨K, fd, sp, KX, hb, hsp, hF⟩ := F w mg fa _ Y G.T.g hmg
  exact law_endG KX G.T.g G.T.b G.T.builtins G.T.nolimit hg hobj hints (Nat.le_trans hlen hn2) hr hF hb (fun H hO hS => hsp H a ns hlen hO hS) fun H e s' => hCX H s₁ e s'
end Tw
/-! Tw: new objects, told by what holds of the heap behind them alone. -/
namespace Tw
open PySem PySem.Spec PyProof.Rows L2
theorem same_new {H : Hp} {p : Addr} {o : HO} (h : H p = none) : Same H (upd H p o) := fun b u e => by
  rw [upd_ne (ne_of_none e h)]
  exact e
section
variable {X : Cx} {es : List Expr} {t : TA} {pos : Pos}
/-- a new object o: its place, the heap behind -/
def New (H : Hp) (o : HO) (Q : Addr → Hp → Prop) : Prop := ∀ (p : Addr) (H' : Hp), H p = none → p ≠ sysModules → Same H H' → H' p = some o → Q p H'
theorem New.at {H : Hp} {o : HO} {Q : Addr → Hp → Prop} (h : New H o Q) {p : Addr} (h1 : H p = none) (h2 : p ≠ sysModules) : Q p (upd H p o) := h p _ h1 h2 (same_new h1) upd_same
def tLstN (t : TA) : TE := fun σ H Q => t σ H fun xs H1 => xs.length ≤ sizeLine ∧ New H1 (.lst xs) fun p H' => Q (.ref p) H'
theorem pe_lstN (h : PA X es t) : PE X (.List es pos) (tLstN t) := by
  refine ⟨fun pins s σ H Q I hq => wpAny_List_spliced (thn (h.run pos pins s σ H _ I hq) fun us s1 ⟨xs, H1, I1, r, z, q⟩ => ⟨by rw [← r.length]; exact z, ?_⟩)⟩
  exact ⟨.ref s1.heap.objs.size, upd H1 s1.heap.objs.size (.lst xs), I1.laid (t' := s1.toks) (fun b u e => Heap.get?_push_of_some _ e) (Nat.le_refl _) ⟨z, us, 0, r, Heap.get?_push_size _ rfl⟩, rfl, q.at (I1.hok.fresh (Nat.le_refl _)) (Nat.ne_of_gt I1.big)⟩
def tTupN (t : TA) : TE := fun σ H Q => t σ H fun xs H1 => xs.length ≤ sizeLine ∧ ∀ (p : Addr) (H' : Hp), H1 p = none → Same H1 H' → H' p = some (.tup xs) → Q (.ref p) H'
theorem pe_tupN {x1} (h : PA X es t) : PE X (.Tuple es x1 pos) (tTupN t) := by
  refine ⟨fun pins s σ H Q I hq => wpAny_Tuple_spliced (thn (h.run pos pins s σ H _ I hq) fun us s1 ⟨xs, H1, I1, r, z, q⟩ => ⟨by rw [← r.length]; exact z, ?_⟩)⟩
  have hf : H1 s1.heap.objs.size = none := I1.hok.fresh (Nat.le_refl _)
  exact ⟨.ref s1.heap.objs.size, upd H1 s1.heap.objs.size (.tup xs), I1.laid (t' := s1.toks) (fun b u e => Heap.get?_push_of_some _ e) (Nat.le_refl _) ⟨z, us, r, _, Heap.get?_push_size _ rfl, rfl, 0, rfl⟩, rfl, q _ _ hf (same_new hf) upd_same⟩
def tDnewN : TE := fun _ H Q => New H (.dK []) fun p H' => Q (.ref p) H'
theorem pe_dnewN : PE X (.Dict [] [] pos) tDnewN := ⟨fun pins s σ H Q I h =>
  wpAny_Dict_empty ⟨.ref s.heap.objs.size, _, I.laid (a := s.heap.objs.size) (o := .dK []) (t' := s.toks) (fun _ _ q => Heap.get?_push_of_some _ q) (Nat.le_refl _) (dk_empty s.heap I.big), rfl, h.at (I.hok.fresh (Nat.le_refl _)) (Nat.ne_of_gt I.big)⟩⟩
def rCatN : R2 := fun x y H Q => ∃ l b xs zs, x = .ref l ∧ y = .ref b ∧ H l = some (.lst xs) ∧ H b = some (.lst zs) ∧ xs.length + zs.length ≤ sizeLine ∧ New H (.lst (xs ++ zs)) fun p H' => Q (.ref p) H'
theorem op_catN : OpR X (binaryOp .Add) rCatN := by
  intro pins s σ H x y v u Q I rx ry h
  obtain ⟨l, b, xs, zs, rfl, rfl, hH, hB, hz, q⟩ := h
  cases rx
  cases ry
  obtain ⟨z, its, n, r, hl, e⟩ := I.lstM hH
  obtain ⟨z2, its2, n2, r2, hl2, e2⟩ := I.lstM hB
  refine PySem.P.add_list e e2 ?_ (by rw [List.size_toArray, List.size_toArray]; omega)
  rw [show its.toArray ++ its2.toArray = (its ++ its2).toArray by simp]
  exact ⟨.ref _, _, I.lnew (t' := s.toks) (r.append r2) (by rw [List.length_append]; omega), rfl, q.at I.fresh (Nat.ne_of_gt I.big)⟩
end
end Tw
namespace Tw
open PySem PySem.Spec PyProof.Rows L2
theorem room70 {k : Nat} {A : Around} (r : Room k A) : A.units + 70 < cLine := by
  have := r.un
  omega
section
variable {X : Cx} {K : PySem.W.Frag}
theorem ixl (K : PySem.W.Frag) (h : X.K = K := by rfl) : IxR X (rIxL K) := by
  subst h
  exact ix_list
theorem ixt (K : PySem.W.Frag) (h : X.K = K := by rfl) : IxR X (rIxT K) := by
  subst h
  exact ix_tup
end
end Tw
/-! Tw, part 5: the pen that draws. -/
namespace Tw
open PySem PySem.Spec PyProof.Rows L2 He
/-- a statement, what holds behind it on every way, the rest once -/
def tMid (t u : TS) : TS := fun D σ H => ∃ W : L2.St → Hp → Prop, t { D with nx := W } σ H ∧ ∀ σ' H', W σ' H' → u D σ' H'
theorem pss_mid {X : Cx} {st : Stmt} {rest : List Stmt} {t u : TS} (h1 : PS X st t) (h2 : PSs X rest u) : PSs X (st :: rest) (tMid t u) :=
  ⟨fun pins s σ H D I ⟨W, hm, hu⟩ => wpAny_execs_cons (thn (h1.run pins s σ H { D with nx := W } I hm) fun f s1 q => match f, q with
    | .next, ⟨σ', H', I', q⟩ => h2.run pins s1 σ' H' D I' (hu σ' H' q)
    | .ret _, q => q
    | .brk, q => q
    | .cont, q => q)⟩
/-- all that was tracked but p stands -/
def But (p : Addr) (H H' : Hp) : Prop := ∀ b o, H b = some o → b ≠ p → H' b = some o
theorem But.refl {p : Addr} (H : Hp) : But p H H := fun _ _ e _ => e
theorem But.trans {p : Addr} {H H1 H2 : Hp} (a : But p H H1) (b : But p H1 H2) : But p H H2 := fun c o e h => b c o (a c o e h) h
theorem But.of {p : Addr} {H H' : Hp} (e : Same H H') : But p H H' := fun b o h _ => e b o h
theorem But.upd {p : Addr} {H : Hp} {o : HO} : But p H (upd H p o) := fun b u e h => by
  rw [upd_ne h]
  exact e
/-- the pen: the script's ints, the number of draws so far, what is left of a great number -/
def PenAt (H : Hp) (p : Addr) (c : Nat) : Prop := ∃ (l : Addr) (ns : List Int) (i g : Int), H p = some (.lst [.ref l, .int i, .int g]) ∧ H l = some (.lst (ns.map V.int)) ∧ l ≠ p ∧ ns.length ≤ 63 ∧ 0 ≤ i ∧ i ≤ (c : Int) ∧ 0 ≤ g
theorem PenAt.mono {H : Hp} {p : Addr} {c c' : Nat} (h : PenAt H p c) (hc : c ≤ c') : PenAt H p c' := by
  obtain ⟨l, ns, i, g, h1, h2, h3, h4, h5, h6, h7⟩ := h
  exact ⟨l, ns, i, g, h1, h2, h3, h4, h5, by omega, h7⟩
theorem PenAt.same {H H' : Hp} {p : Addr} {c : Nat} (e : Same H H') (h : PenAt H p c) : PenAt H' p c := by
  obtain ⟨l, ns, i, g, h1, h2, h3⟩ := h
  exact ⟨l, ns, i, g, e _ _ h1, e _ _ h2, h3⟩
/-- a draw: below many, the pen one further, nothing else touched -/
def spDraw : Sp := fun vs H Q _ => ∃ (p : Addr) (m : Int) (c : Nat), vs = [.ref p, .int m] ∧ 0 < m ∧ m < 1073741824 ∧ PenAt H p c ∧ c ≤ 1000000 ∧
  ∀ (r : Int) (H' : Hp), 0 ≤ r → r < m → PenAt H' p (c + 1) → But p H H' → Q (.int r) H'
theorem dp_ints {K : Fg} {H : Hp} : ∀ ns : List Int, DpAll K H (ns.map V.int) (ns.map PyData.int)
  | [] => .nil
  | n :: ns => .cons (.int n) (dp_ints ns)
theorem lay_ints : ∀ ns : List Int, PyData.canLayAll0 (ns.map PyData.int) = true ∧ PyData.depthAll (ns.map PyData.int) = 0
  | [] => ⟨rfl, rfl⟩
  | n :: ns => by
    obtain ⟨h1, h2⟩ := lay_ints ns
    constructor
    · simp only [List.map_cons, PyData.canLayAll0, PyData.canLay0, h1, Bool.and_self]
    · simp only [List.map_cons, PyData.depthAll, PyData.depth, h2, Nat.max_self]
theorem shaped_ints (ns : List Int) : SeqAt.shaped (.list (ns.map PyData.int)) = true := by
  obtain ⟨h1, h2⟩ := lay_ints ns
  simp [SeqAt.shaped, PyData.canLay0, PyData.depth, h1, h2]
theorem atI_of {xs : List V} {i : Int} {v : V} (h0 : 0 ≤ i) (h : xs[i.toNat]? = some v) : atI xs i = some v := by
  have e : i = (i.toNat : Int) := (Int.toNat_of_nonneg h0).symm
  rw [e]
  exact atI_nat h
theorem mul_le' {a b A B : Int} (h1 : 0 ≤ a) (h2 : a ≤ A) (h3 : 0 ≤ b) (h4 : b ≤ B) : 0 ≤ a * b ∧ a * b ≤ A * B :=
  ⟨Int.mul_nonneg h1 h3, Int.mul_le_mul h2 h4 h3 (Int.le_trans h1 h2)⟩
theorem pow_ok (i : Int) (h0 : 0 ≤ i) (h : i < 2 ^ 64) : i.natAbs < 2 ^ 64 := by omega
end Tw
namespace Tw
open PySem PySem.Spec PyProof.Rows L2 He
theorem But.seq {K : Fg} {p a : Addr} {H H' : Hp} {xs : List V} (e : But p H H') (hne : a ≠ p) (h : SqL K H a xs) : SqL K H' a xs := by
  rcases h with (h | ⟨o, h⟩) | h
  · exact .inl (.inl (e _ _ h hne))
  · exact .inl (.inr ⟨o, e _ _ h hne⟩)
  · exact .inr h
theorem cut_ints (ns : List Int) (lo hi : Option Int) : ∃ ms : List Int, cutV (ns.map V.int) lo hi = ms.map V.int ∧ ms.length ≤ ns.length := by
  refine ⟨(ns.drop (HT.sIx (ns.map V.int).length 0 lo)).take (HT.sIx (ns.map V.int).length (ns.map V.int).length hi - HT.sIx (ns.map V.int).length 0 lo), ?_, ?_⟩
  · unfold cutV
    rw [List.map_take, List.map_drop]
  · rw [List.length_take, List.length_drop]
    omega
/-- a new pen -/
def spPen (K : Fg) : Sp := fun vs H Q _ => ∃ (a : Addr) (ns : List Int), vs = [.ref a] ∧ SqL K H a (ns.map V.int) ∧ ns.length ≤ 63 ∧ ∀ (p : Addr) (H' : Hp), H p = none → PenAt H' p 0 → Same H H' → Q (.ref p) H'
/-- an item of a list that is not the pen, drawn -/
def spPick (K : Fg) : Sp := fun vs H Q _ => ∃ (p q : Addr) (xs : List V) (c : Nat), vs = [.ref p, .ref q] ∧ SqL K H q xs ∧ q ≠ p ∧ 0 < xs.length ∧ xs.length < 1000 ∧ PenAt H p c ∧ c ≤ 1000000 ∧
  ∀ (v : V) (H' : Hp), v ∈ xs → PenAt H' p (c + 1) → But p H H' → Q v H'
/-- the heap without the pen -/
def hid (p : Addr) (H : Hp) : Hp := fun b => if b = p then none else H b
theorem hid_ne {p b : Addr} {H : Hp} (h : b ≠ p) : hid p H b = H b := if_neg h
theorem hid_same {p : Addr} {H : Hp} : Same (hid p H) H := fun b o e => by
  unfold hid at e
  split at e
  · cases e
  · exact e
theorem hid_but {p : Addr} {H H' : Hp} (e : But p H H') : Same (hid p H) (hid p H') := fun b o h => by
  unfold hid at h ⊢
  split at h
  · cases h
  · rename_i hb
    rw [if_neg hb]
    exact e b o h hb
theorem sqT_same {K : Fg} {H H' : Hp} {a : Addr} {xs : List V} (e : Same H H') (h : SqT K H a xs) : SqT K H' a xs := by
  rcases h with (h | ⟨o, h⟩) | h
  · exact .inl (.inl (e _ _ h))
  · exact .inl (.inr ⟨o, e _ _ h⟩)
  · exact .inr h
mutual
theorem Dx.same {K : Fg} {H H' : Hp} (e : Same H H') : ∀ {v : V} {d : PyData}, Dx K H v d → Dx K H' v d
  | _, _, .non => .non
  | _, _, .bl b => .bl b
  | _, _, .int i => .int i
  | _, _, .str x => .str x
  | _, _, .lst h n a => .lst (e.seq h) n (DxAll.same e a)
  | _, _, .tup h a => .tup (sqT_same e h) (DxAll.same e a)
  | _, _, .dic h a => .dic (e _ _ h) (DxAll.same e a)
theorem DxAll.same {K : Fg} {H H' : Hp} (e : Same H H') : ∀ {vs : List V} {ds : List PyData}, DxAll K H vs ds → DxAll K H' vs ds
  | _, _, .nil => .nil
  | _, _, .cons h t => .cons (Dx.same e h) (DxAll.same e t)
end
theorem sz1000 {n : Nat} (h : n ≤ 1000) : n ≤ sizeLine := Nat.le_trans h (by decide)
end Tw
/-! Tw: the pen again, its list of cells named: so that a list that grows beside it is known to be another one. -/
namespace Tw
open PySem PySem.Spec PyProof.Rows L2 He
/-- the pen at p, its cells at l -/
def PenL (H : Hp) (p l : Addr) (c : Nat) : Prop := ∃ (ns : List Int) (i g : Int), H p = some (.lst [.ref l, .int i, .int g]) ∧ H l = some (.lst (ns.map V.int)) ∧ l ≠ p ∧ ns.length ≤ 63 ∧ 0 ≤ i ∧ i ≤ (c : Int) ∧ 0 ≤ g
theorem PenL.mono {H : Hp} {p l : Addr} {c c' : Nat} (h : PenL H p l c) (hc : c ≤ c') : PenL H p l c' := by
  obtain ⟨ns, i, g, h1, h2, h3, h4, h5, h6, h7⟩ := h
  exact ⟨ns, i, g, h1, h2, h3, h4, h5, by omega, h7⟩
theorem PenL.same {H H' : Hp} {p l : Addr} {c : Nat} (e : Same H H') (h : PenL H p l c) : PenL H' p l c := by
  obtain ⟨ns, i, g, h1, h2, h3⟩ := h
  exact ⟨ns, i, g, e _ _ h1, e _ _ h2, h3⟩
/-- another object than the pen and its cells changes -/
theorem PenL.upd {H : Hp} {p l q : Addr} {c : Nat} {o : HO} (h : PenL H p l c) (h1 : q ≠ p) (h2 : q ≠ l) : PenL (L2.upd H q o) p l c := by
  obtain ⟨ns, i, g, e1, e2, r⟩ := h
  exact ⟨ns, i, g, by rw [upd_ne h1.symm]; exact e1, by rw [upd_ne h2.symm]; exact e2, r⟩
/-- what is new is neither -/
theorem PenL.new {H : Hp} {p l q : Addr} {c : Nat} (h : PenL H p l c) (hq : H q = none) : q ≠ p ∧ q ≠ l := by
  obtain ⟨ns, i, g, e1, e2, r⟩ := h
  exact ⟨(ne_of_none e1 hq).symm, (ne_of_none e2 hq).symm⟩
def spDrawL : Sp := fun vs H Q _ => ∃ (p l : Addr) (m : Int) (c : Nat), vs = [.ref p, .int m] ∧ 0 < m ∧ m < 1073741824 ∧ PenL H p l c ∧ c ≤ 1000000 ∧
  ∀ (r : Int) (H' : Hp), 0 ≤ r → r < m → PenL H' p l (c + 1) → But p H H' → Q (.int r) H'
def spPenL (K : Fg) : Sp := fun vs H Q _ => ∃ (a : Addr) (ns : List Int), vs = [.ref a] ∧ SqL K H a (ns.map V.int) ∧ ns.length ≤ 63 ∧ ∀ (p l : Addr) (H' : Hp), H p = none → PenL H' p l 0 → Same H H' → Q (.ref p) H'
def spPickL (K : Fg) : Sp := fun vs H Q _ => ∃ (p l q : Addr) (xs : List V) (c : Nat), vs = [.ref p, .ref q] ∧ SqL K H q xs ∧ q ≠ p ∧ 0 < xs.length ∧ xs.length < 1000 ∧ PenL H p l c ∧ c ≤ 1000000 ∧
  ∀ (v : V) (H' : Hp), v ∈ xs → PenL H' p l (c + 1) → But p H H' → Q v H'
end Tw
/-! Tw: try: body, except x as n: suite, the caught error tracked behind the suite. -/
namespace Tw
open PySem PySem.Spec PyProof.Rows L2
section
variable {X : Cx} {pins : List (Addr × Obj)} {σ : L2.St} {H : Hp} {s : Shared}
/-- a pinned error of ours becomes a tracked one -/
theorem track {a C : Addr} {d : Option Addr} {oe : Obj} {vs : Array Value} (I : Inv X ((a, oe) :: pins) σ H s) (h0 : X.s_0.heap.get? a = none) (hne : ∀ p ∈ X.pn ++ pins, p.1 ≠ a) (hz : Zc (.ref C) d oe) (hd : oe.data = .fields vs) :
    Inv X pins σ (upd H a (exT a C d)) s := by
  obtain ⟨ha, na, nL, nF, nC⟩ := I.pin (a, oe) (List.mem_append_right _ List.mem_cons_self)
  have ne : ∀ {b : Addr} {u : HO}, H b = some u → b ≠ a := fun e => ne_of_none e na
  refine ⟨I.ok, I.os, I.bare, ⟨I.base.keep, I.base.slot, fun b o e n hx => ?_, I.base.there, fun b xs e => ?_, fun b o u e => ?_, fun b ps e => ?_⟩, I.loc, I.cell, ?_, fun x c e => ?_, fun p hp => ?_, fun b u e => ?_, I.len⟩
  · rw [upd_ne (fun z => by rw [z, h0] at e; cases e)]
    exact I.base.free b o e n hx
  · have q := I.base.tups b xs e
    rw [upd_ne (ne q)]
    exact q
  · have q := I.base.frzs b o u e
    rw [upd_ne (ne q)]
    exact q
  · obtain ⟨m, q⟩ := I.base.tbls b ps e
    exact ⟨m, by rw [upd_ne (ne q)]; exact q⟩
  · rw [upd_ne (Ne.symm nL)]
    exact I.free
  · obtain ⟨v, o, ho, hv⟩ := I.cell x c e
    rw [upd_ne (fun z => by
      have z' : c = a := z
      rw [z'] at ho
      have ha' : s.heap.get? a = some oe := ha
      rw [ha'] at ho
      cases ho
      exact nC v hv)]
    exact I.freeC x c e
  · obtain ⟨e1, e2, e3⟩ := I.pin p (by
      rcases List.mem_append.mp hp with z | z
      · exact List.mem_append_left _ z
      · exact List.mem_append_right _ (List.mem_cons_of_mem _ z))
    exact ⟨e1, by rw [upd_ne (hne p hp)]; exact e2, e3⟩
  · by_cases hb : b = a
    · subst hb
      rw [upd_same] at e
      cases e
      exact exT_ok ha hz hd
    · rw [upd_ne hb] at e
      exact (I.hok b u e).stay (fun _ _ _ q => q) (fun c q => by rw [upd_ne (ne q)]; exact q) fun c xs q => by rw [upd_ne (ne q)]; exact q
end
/-- what the clause wishes: its error stands tracked behind the suite -/
def wAsK (K : PySem.W.Frag) (c : Value) (i : Nat) (ts : Addr → Value → Option Addr → TS) (Wout : WX) (D : Ends) : WX := fun cls d σ H =>
  ∃ (C : Addr) (b : Bool), cls = .ref C ∧ PySem.W.exmOne K cls c = some b ∧ (b = true → ∀ a, H a = none → ts a cls d { nx := fun σ' H' => D.nx (σ'.set i none) (upd H' a (exT a C d)), rt := D.rt, bk := fun σ' H' => D.bk (σ'.set i none) H', ct := fun σ' H' => D.ct (σ'.set i none) H' } (σ.set i (some (.ref a))) H) ∧
    (b = false → Wout cls d σ H)
section
variable {X : Cx} {x n : Str} {c : Value} {i : Nat} {body suite : List Stmt} {b₀ : Stmt} {np pos pos' : Pos} {tb : WX → TS} {ts : Addr → Value → Option Addr → TS} {Wout : WX}
theorem ps_tryK (hex : X.ex = []) (hs : X.stack = X.env :: X.outer) (hf : X.env.frame = some X.env.locals) (hN : X.N.Nodup) (hi : X.N[i]? = some n) (hln : X.env.kindOf n = some .local) (hc : Names X x c) (tk : Takes X Wout)
    (hb : ∀ (W : WX) (pn : List (Addr × Obj)) (xe : Value → Shared → Prop), Takes (X.tr pn xe) W → PassesOwn (model X.prog X.w) X.A X.env xe → PSs (X.tr pn xe) body (tb W))
    (hsu : ∀ (a : Addr) (oe : Obj) (cls : Value) (d : Option Addr) (pn : List (Addr × Obj)), Zc cls d oe → (∃ vs, oe.data = .fields vs) → PSs (X.suite a ((a, oe) :: pn)) (b₀ :: suite) (ts a cls d)) :
    PS X (.Try body [.ExceptHandler (some (.Name x np)) (some n) (b₀ :: suite) pos'] [] [] pos) (fun D σ H => tb (wAsK X.K c i ts Wout D) D σ H) := by
  refine ⟨fun pins s σ H D I h => ?_⟩
  have ok := I.ok
  have hfr : X.A.frames = some (X.env :: X.outer) := by rw [ok.frames, hs]
  have hloc : Loc X.env.scope n := .inl hln
  refine wpAny_Try_except ?_
  refine wpAny_mono ((hb (wAsK X.K c i ts Wout D) (X.pn ++ pins) (fun e s₁ => wpAny (model X.prog X.w) X.A (noteFrame e X.env) (fun _ s₂ => wpAny (model X.prog X.w) X.A (setFlight e none) (fun _ s₃ =>
    wpAny (model X.prog X.w) X.A (handleBy e X.env [.ExceptHandler (some (.Name x np)) (some n) (b₀ :: suite) pos']) (SP X pins D) X.xe s₃) X.xe s₂) X.xe s₁) (fun u s' xx => ?_) PassesOwn.looking).run [] s σ H D (I.toTry _) h) (fun f s1 hsp => ?_) (fun e s1 he => he)
  · obtain ⟨a, B, sI, pins', σ', H', cls, d, rfl, J', nb, up, sky, na, os, ag, C, b, hcls, hb1, hyes, hno⟩ := xx
    have J : Inv X pins σ' H' sI := J'.ofTry ok
    have sky' : Sky B (X.env :: X.outer) a (Zc cls d) X.env.locals s'.heap := by rw [← hs]; exact sky
    show wpAny (model X.prog X.w) X.A (noteFrame (.ref a) X.env) _ _ _
    refine Sky.land Zc.steady hfr hf sky' fun h3 fl3 up3 => ?_
    have J3 : Inv X pins σ' H' { s' with heap := h3 } := J.landed nb fl3.1 (up.trans up3) os ag
    obtain ⟨oe3, vs3, he3, hz3, hd3⟩ := fl3.there
    have notFr : ∀ {h : Heap} {o : Obj} {vs : Array Value}, h.FunFrames B (X.env :: X.outer) → h.get? a = some o → o.data = .fields vs → a ∉ frs (X.env :: X.outer) := fun {h o vs} ff e dd hm => by
      obtain ⟨_, o', e', hnf⟩ := ff.mem hm
      rw [e] at e'
      cases e'
      exact hnf _ dd
    have nfr := notFr fl3.2.2.1 he3 hd3
    have nL : a ≠ X.env.locals := fun z => nfr (List.mem_filterMap.mpr ⟨X.env, List.mem_cons_self, by rw [hf, z]⟩)
    have nF : a ∉ X.fs := fun hm => by
      obtain ⟨e, he, q⟩ := List.mem_filterMap.mp hm
      exact nfr (List.mem_filterMap.mpr ⟨e, List.mem_cons_of_mem _ he, q⟩)
    -- the error is new to this def
    have nI : sI.heap.get? a = none := by
      cases e : sI.heap.get? a with
      | none => rfl
      | some o =>
        have z := nb a o e (by rw [hs]; exact nfr)
        have z2 : B.get? a = none := fl3.2.1
        rw [z2] at z
        cases z
    have n0 : X.s_0.heap.get? a = none := by
      cases e : X.s_0.heap.get? a with
      | none => rfl
      | some o =>
        obtain ⟨o', z⟩ := J.base.there a o e (by rw [hex]; exact fun z => nomatch z)
        rw [nI] at z
        cases z
    have npin : ∀ p ∈ X.pn ++ pins, p.1 ≠ a := fun p hp z => by
      obtain ⟨e, _⟩ := J.pin p hp
      rw [z, nI] at e
      cases e
    have S3 := J3.suite he3 hd3 na nL nF
    refine wpAny_handleBy_cons (codeAny_handlers_test ?_) (by intro q; cases q)
    have LT : PySem.W.Looks (model X.prog X.w) h3 (typeOf (.ref a)) cls := fun A Q E s k q => wpAny_typeOf_ref (k _ _ he3) (by rw [hz3.1]; exact q)
    have LM := PySem.W.exm_one (M := model X.prog X.w) (J3.kIn) LT hb1
    have test : ∀ {Q : Value → Shared → Prop} {E : Value → Shared → Prop}, Q c { s' with heap := h3 } → wpAny (model X.prog X.w) (X.A.mark (some (.ref a))) (eval (.Name x np) X.env) Q E { s' with heap := h3 } := fun {Q E} q => by
      obtain ⟨hg, hdbg, hm | ⟨hm, hv, hnn⟩⟩ := hc
      · exact ld_glob (X := X.suite a ((a, oe3) :: (X.pn ++ pins))) S3 hg hm q hdbg
      · exact ld_blt (X := X.suite a ((a, oe3) :: (X.pn ++ pins))) S3 hg hm hv q hnn hdbg
    refine test (LM.here ?_)
    cases b with
    | true =>
      refine codeAny_handlers_suite_as ?_
      refine HandSPX.lands_againZ fl3 fun h4 fl4 up4 => ?_
      have J4 : Inv X pins σ' H' { s' with heap := h4 } := J.landed nb fl4.1 ((up.trans up3).trans up4) os ag
      obtain ⟨oe4, vs4, he4, hz4, hd4⟩ := fl4.there
      have S4 := J4.suite he4 hd4 na nL nF
      refine store_ok (X := X.suite a ((a, oe4) :: (X.pn ++ pins))) (v := .ref a) S4 hN hi hloc rfl (fun s5 S5 => ?_) (.inr hln)
      refine wpAny_mono ((hsu a oe4 cls d (X.pn ++ pins) hz4 ⟨_, hd4⟩).run [] s5 _ H' _ S5 (hyes rfl a na)) (fun f s6 hsp => ?_) (fun _ _ z => False.elim z)
      have end_ : ∀ {σ6 : L2.St} {H6 : Hp} {Q : Shared → Prop}, Inv (X.suite a ((a, oe4) :: (X.pn ++ pins))) [] σ6 H6 s6 → (∀ s7, Inv X ((a, oe4) :: pins) (σ6.set i none) H6 s7 → Q s7) →
          wpAny (model X.prog X.w) X.A (do bindName X.env n .none; unbindBehindTheSuite X.env n pos') (fun _ s7 => Q s7) X.xe s6 := fun {σ6 H6 Q} S6 hq => by
        have J6 : Inv X ((a, oe4) :: pins) σ6 H6 s6 := (S6.unsuite ok).pins_of fun p hp => S6.pin p (List.mem_append_left _ (by
          rcases List.mem_cons.mp hp with z | z
          · exact List.mem_cons.mpr (.inl z)
          · exact List.mem_cons_of_mem _ (List.mem_append_right _ z)))
        exact gone_ok J6 hN hi hln hq
      have drop : ∀ {σ7 : L2.St} {H7 : Hp} {s7 : Shared}, Inv X ((a, oe4) :: pins) σ7 H7 s7 → Inv X pins σ7 H7 s7 := fun J7 => J7.pins_of fun p hp => J7.pin p (List.mem_append_right _ (List.mem_cons_of_mem _ hp))
      subst hcls
      cases f with
      | next =>
        obtain ⟨σ6, H6, S6, q6⟩ := hsp
        exact end_ S6 fun s7 J7 => ⟨_, _, track J7 n0 npin hz4 hd4, q6⟩
      | brk =>
        obtain ⟨σ6, H6, S6, q6⟩ := hsp
        exact end_ S6 fun s7 J7 => ⟨_, _, drop J7, q6⟩
      | cont =>
        obtain ⟨σ6, H6, S6, q6⟩ := hsp
        exact end_ S6 fun s7 J7 => ⟨_, _, drop J7, q6⟩
      | ret u =>
        obtain ⟨v6, σ6, H6, S6, r6, q6⟩ := hsp
        exact end_ S6 fun s7 J7 => ⟨_, _, _, drop J7, r6, q6⟩
    | false =>
      show wpAny _ X.A (handleBy (.ref a) X.env []) _ _ _
      refine wpAny_handleBy_nil ?_
      obtain ⟨k1, k2, k3, oe, vs, T, oT, ts', he, hz, hd, h1, hr⟩ := id fl3
      unfold PySem.passOn
      refine wpAny_bind (wpAny_field he hd h1 ?_)
      rw [if_neg (show ¬ ((Value.ref T == Value.none) = true) from by simp)]
      have fin : wpAny (model X.prog X.w) X.A (setFlight (.ref a) X.env.frame) (fun _ s4 => wpAny (model X.prog X.w) X.A (throw (.ref a) : Sem Flow) (SP X pins D) X.xe s4) X.xe { s' with heap := h3 } := by
        rw [hf]
        refine HandSPX.setFlight_upZ fl3 fun h4 hh4 up4 => wpAny_throw (tk _ _ ?_)
        exact ⟨a, B, sI, pins, σ', H', cls, d, rfl, J, nb, (up.trans up3).trans up4, .inr (.inr (by rw [hs]; exact hh4)), na, os, ag, hno rfl⟩
      first
        | exact wpAny_bind (wpAny_pure (wpAny_bind fin))
        | exact wpAny_bind fin
  · cases f with
    | next =>
      obtain ⟨σ', H', J', q⟩ := hsp
      exact wpAny_execs_nil ⟨σ', H', J'.ofTry ok, q⟩
    | brk =>
      obtain ⟨σ', H', J', q⟩ := hsp
      exact ⟨σ', H', J'.ofTry ok, q⟩
    | cont =>
      obtain ⟨σ', H', J', q⟩ := hsp
      exact ⟨σ', H', J'.ofTry ok, q⟩
    | ret u =>
      obtain ⟨v, σ', H', J', r, q⟩ := hsp
      exact ⟨v, σ', H', J'.ofTry ok, r, q⟩
end
end Tw
/-! Tw: instances of own classes: == and != by an own __eq__, str by an own __str__, made where __init__ may raise. -/
namespace Tw
open PySem PySem.Spec PyProof.Rows L2
/-- the type of anything that is known -/
def TyA (K : PySem.W.Frag) (H : Hp) (x : V) (t : Value) : Prop := TyX K H x t ∨ ∃ (a C : Addr) (d : Addr) (fs : List (Str × V)), x = .ref a ∧ t = .ref C ∧ IsX H a C (some d) ∧ IsXd H d fs ∧ XC K C ∧ XO K
section
variable {X : Cx} {CX : CXT} {pins : List (Addr × Obj)} {σ : L2.St} {H : Hp} {s : Shared} {k : Nat} {f C : Addr} {fd : FuncData} {ps : List Str} {sp : Sp} {E : XK}
theorem tyA_looks {x : V} {u t : Value} (I : Inv X pins σ H s) (r : RelV x u) (ty : TyA X.K H x t) (M : Model) : PySem.W.Looks M s.heap (typeOf u) t := by
  rcases ty with ty | ⟨a, C, d, fs, rfl, rfl, ia, idd, T, O⟩
  · obtain ⟨P, Z, p, _⟩ := kit_of I r ty
    exact Z.ty M s.heap I.kIn p
  · cases (show u = Value.ref a from r)
    obtain ⟨oe, vs, ho, hz, hdt⟩ := ia.get I.hok
    exact fun A Q E s k q => wpAny_typeOf_ref (k _ _ ho) (by rw [hz.1]; exact q)
theorem inst_at (I : Inv X pins σ H s) {a dx : Addr} {fs : List (Str × V)} (e : H a = some (.ins C dx fs)) : ∃ od ox, PySem.W.InstAt s.heap a ox C (some od) := by
  obtain ⟨mA, O, _⟩ := ins_get I.hok e
  obtain ⟨od, J, _⟩ := O.look
  exact ⟨od, _, J⟩
/-- a def run one deeper within a built-in -/
theorem run_in1 {Q : VK} {us : List Value} {vs : List V} (F : FnOk X.prog X.w X.K X.mg X.base CX k f fd ps sp) (hr : Room (k + 1) X.A) (hb : Binds X.K fd ps []) (hx : Passes CX X E) (I : Inv X pins σ H s) (r : Vals vs us) (h : sp vs H Q E) :
    wpAny (model X.prog X.w) X.A.in1 (call (.ref f) us) (EP X pins σ Q) X.xe s := by
  have hl : us.length = ps.length := r.length.symm.trans (F.len _ _ _ _ h)
  have b := hb s us I.kIn (by rw [List.append_nil]; exact hl)
  rw [List.append_nil] at b
  refine wpAny_call (codeAny_mono (F.run X.A.in1 X.stack s H ⟨us, []⟩ us vs Q E hr.in1 I.env0.in1 b r h) fun r s' hq => ?_)
  match r, hq with
  | .error e, hq => exact hx pins σ H s e s' I hq
  | .ok (.ret u), hq => exact I.after hq
theorem run_in2 {Q : VK} {us : List Value} {vs : List V} (F : FnOk X.prog X.w X.K X.mg X.base CX k f fd ps sp) (hr : Room (k + 2) X.A) (hb : Binds X.K fd ps []) (hx : Passes CX X E) (I : Inv X pins σ H s) (r : Vals vs us) (h : sp vs H Q E) :
    wpAny (model X.prog X.w) X.A.in1.in1 (call (.ref f) us) (EP X pins σ Q) X.xe s := by
  have hl : us.length = ps.length := r.length.symm.trans (F.len _ _ _ _ h)
  have b := hb s us I.kIn (by rw [List.append_nil]; exact hl)
  rw [List.append_nil] at b
  have hr1 : Room (k + 1) X.A.in1 := Room.in1 hr
  refine wpAny_call (codeAny_mono (F.run X.A.in1.in1 X.stack s H ⟨us, []⟩ us vs Q E hr1.in1 I.env0.in1.in1 b r h) fun r s' hq => ?_)
  match r, hq with
  | .error e, hq => exact hx pins σ H s e s' I hq
  | .ok (.ret u), hq => exact I.after hq
/-- x == y by x's own __eq__ -/
def rEqOwn (K : PySem.W.Frag) (C : Addr) (sp : Sp) (E : XK) : R2 := fun x y H Q => ∃ (a dx : Addr) (fs : List (Str × V)) (t : Value), x = .ref a ∧ H a = some (.ins C dx fs) ∧ TyA K H y t ∧ PySem.W.notFirst K C t = true ∧ sp [x, y] H Q E
theorem op_eqOwn (hs : PySem.W.findIn X.K (.ref C) "__eq__" = some (some (.ref f))) (hf : PySem.W.isFn X.K (.ref f) = true) (F : FnOk X.prog X.w X.K X.mg X.base CX k f fd ps sp) (hr : Room k X.A) (hb : Binds X.K fd ps []) (hx : Passes CX X E) : OpR X (compareOp .Eq) (rEqOwn X.K C sp E) := by
  intro pins s σ H x y v u Q I rx ry h
  obtain ⟨a, dx, fs, t, rfl, ea, ty, hn, q⟩ := h
  cases (show v = Value.ref a from rx)
  obtain ⟨od, ox, J⟩ := inst_at I ea
  obtain ⟨m, hF⟩ := I.fr
  show wpAny _ _ (richCompare .Eq _ _) _ _ _
  refine PySem.W.cmp_K (op := .Eq) (tb := t) hr.units0 hF I.ok.mod.kin J (tyA_looks I ry ty _) hn hs hf ?_
  refine wpAny_mono (run_fn (dvs := []) (ds := []) (us := [.ref a, u]) (vs := [.ref a, y]) F hr hb .nil hx I (.cons rfl (.cons ry .nil)) q) (fun w s' z => ?_) fun _ _ x => x
  obtain ⟨z', H', I', rz, qz⟩ := z
  exact SlX.cmpback rz ⟨z', H', I', rz, qz⟩
/-- x != y: object.__ne__ asks x's own __eq__ -/
def rNeOwn (K : PySem.W.Frag) (C : Addr) (sp : Sp) (E : XK) : R2 := fun x y H Q => ∃ (a dx : Addr) (fs : List (Str × V)) (t : Value), x = .ref a ∧ H a = some (.ins C dx fs) ∧ TyA K H y t ∧ PySem.W.notFirst K C t = true ∧ sp [x, y] H (fun z H' => ∃ b, z = .bl b ∧ Q (.bl (!b)) H') E
theorem ifBound_objNe {K : PySem.W.Frag} {M : Model} {A : Around} {E : Value → Shared → Prop} {s : Shared} {x : Addr} {ox : Obj} {od : Option Obj} {args : List Value} {Q : Option Value → Shared → Prop} (Y : K.In s.heap) (I : PySem.W.InstAt s.heap x ox C od) (hs : PySem.W.findIn K (.ref C) "__ne__" = some (some (.builtin "object.__ne__")))
    (h : wpAny M A (call (.builtin "object.__ne__") (.ref x :: args)) (fun v => Q (some v)) E s) : wpAny M A (callSpecialIfBound? (.ref x) "__ne__" args) Q E s := by
  simp only [callSpecialIfBound?, bindSpecialIfBound?]
  refine wpAny_holding (wpAny_bind (wpAny_bind (wpAny_bind (I.type.here ((PySem.W.looks_findIn Y hs).here ?_)))))
  refine wpAny_bind (wpAny_askSetting (wpAny_ite ?_))
  have fin : wpAny M A (call (.builtin "object.__ne__") ([.ref x] ++ args) >>= fun v => pure (some v)) Q E s := wpAny_bind (wpAny_mono h (fun v s' h' => wpAny_pure h') fun _ _ h' => h')
  split
  · exact wpAny_bind (wpAny_of_eq (F.cmp_object.ne.bind _) (wpAny_pure (by exact fin)))
  · exact wpAny_tryCatch (wpAny_bind (wpAny_of_eq (F.cmp_object.ne.bind _) (wpAny_pure (by exact fin))))
theorem ne_entry {K : PySem.W.Frag} {prog : Program} {w : World} {A : Around} {E : Value → Shared → Prop} {s : Shared} {x : Addr} {ox : Obj} {od : Option Obj} {b : Value} {Q : Fin → Shared → Prop} (hu : A.units < cLine) (Y : K.In s.heap) (I : PySem.W.InstAt s.heap x ox C od)
    (hs : PySem.W.findIn K (.ref C) "__eq__" = some (some (.ref f))) (hf : PySem.W.isFn K (.ref f) = true)
    (h : wpAny (model prog w) A (call (.ref f) [.ref x, b]) (fun v s' => ∃ c, v = .bool c ∧ Q (.done (.ret (.bool (!c)))) s') E s) : wpAny (model prog w) A (Builtin.«object.__ne__» ⟨[.ref x, b], []⟩) Q E s := by
  unfold Builtin.«object.__ne__»
  repeat (first
    | with_reducible refine wpAny_cRoomFor hu ?_
    | (refine wpAny_bind (m := callSpecialIfBound? (.ref x) (Str.ofString "__eq__") [b])
        (PySem.W.ifBound_K Y I hs hf (wpAny_mono h (fun r s' hr => by
          obtain ⟨b, rfl, hq⟩ := hr
          repeat (first | exact hq | exact wpAny_pure hq | exact wpAny_truthy_bool hq | (refine wpAny_bind (m := truthy (.bool _)) (wpAny_truthy_bool ?_)) | wp_step)) fun _ _ e => e)))
    | wp_step)
theorem ne_own {x : Addr} {ox : Obj} {od : Option Obj} {b tb : Value} {K : PySem.W.Frag} {prog : Program} {w : World} {A : Around} {E : Value → Shared → Prop} {s : Shared} {Q : Value → Shared → Prop} (hu : A.units + 1 < cLine) (Y : K.In s.heap) (I : PySem.W.InstAt s.heap x ox C od) (hb : PySem.W.Looks (model prog w) s.heap (typeOf b) tb) (hn : PySem.W.notFirst K C tb = true)
    (hne : PySem.W.findIn K (.ref C) "__ne__" = some (some (.builtin "object.__ne__"))) (hs : PySem.W.findIn K (.ref C) "__eq__" = some (some (.ref f))) (hf : PySem.W.isFn K (.ref f) = true) (hm : PySem.W.mroIn K C (.type "object") = some true)
    (h : wpAny (model prog w) A.in1 (call (.ref f) [.ref x, b]) (fun v s' => ∃ c, v = .bool c ∧ Q (.bool (!c)) s') E s) : wpAny (model prog w) A (richCompare .NotEq (.ref x) b) Q E s := by
  have one : wpAny (model prog w) A (tryCompare (.ref x) (cmpInfo .NotEq).2.1 b) (fun r s' => ∃ v, r = some v ∧ Q v s') E s := by
    unfold tryCompare
    refine wpAny_bind (ifBound_objNe Y I hne (wpAny_call (codeAny_call_builtin F.cmp_object.ne.plain F.cmpEntry_ne (PySem.W.check_slot F.cmpKind_ne F.cmpSplit_ne (I.type.andThen (PySem.W.looks_mroIn Y hm)) (F.cmpArgs_ne _ _)
      (ne_entry (A := A.in1) hu Y I hs hf (wpAny_mono h (fun v s' hv => ?_) fun _ _ e => e))))))
    obtain ⟨c, rfl, hq⟩ := hv
    first | exact ⟨c, rfl, wpAny_pure ⟨_, rfl, hq⟩⟩ | exact ⟨c, rfl, wpAny_pure (wpAny_pure ⟨_, rfl, hq⟩)⟩ | exact ⟨c, rfl, ⟨_, rfl, hq⟩⟩
  unfold richCompare
  simp only [oneThing_ref]
  refine wpAny_holding (wpAny_bind (wpAny_cRoomFor (Nat.lt_of_succ_lt hu) ?_))
  refine wpAny_bind (I.type.here (wpAny_bind (hb.here ?_)))
  split
  · rename_i q
    have e : PySem.W.subIn K tb (.ref C) = some false := by
      rcases Bool.or_eq_true_iff.mp hn with e | e
      · rw [beq_iff_eq.mp e] at q; simp at q
      · exact beq_iff_eq.mp e
    refine wpAny_bind ((PySem.W.looks_subIn Y e).here ?_)
    simp only [Bool.false_eq_true, if_false]
    refine wpAny_bind (wpAny_mono one (fun r s' z => ?_) fun _ _ e => e)
    obtain ⟨v, rfl, hq⟩ := z
    exact wpAny_pure hq
  · refine wpAny_bind (wpAny_pure ?_)
    simp only [Bool.false_eq_true, if_false]
    refine wpAny_bind (wpAny_mono one (fun r s' z => ?_) fun _ _ e => e)
    obtain ⟨v, rfl, hq⟩ := z
    exact wpAny_pure hq
theorem op_neOwn (hne : PySem.W.findIn X.K (.ref C) "__ne__" = some (some (.builtin "object.__ne__"))) (hs : PySem.W.findIn X.K (.ref C) "__eq__" = some (some (.ref f))) (hf : PySem.W.isFn X.K (.ref f) = true) (hm : PySem.W.mroIn X.K C (.type "object") = some true)
    (F : FnOk X.prog X.w X.K X.mg X.base CX k f fd ps sp) (hr : Room (k + 1) X.A) (hb : Binds X.K fd ps []) (hx : Passes CX X E) : OpR X (compareOp .NotEq) (rNeOwn X.K C sp E) := by
  intro pins s σ H x y v u Q I rx ry h
  obtain ⟨a, dx, fs, t, rfl, ea, ty, hn, q⟩ := h
  cases (show v = Value.ref a from rx)
  obtain ⟨od, ox, J⟩ := inst_at I ea
  show wpAny _ _ (richCompare .NotEq _ _) _ _ _
  refine ne_own (tb := t) (Nat.lt_of_le_of_lt (Nat.le_refl _) hr.in1.units0) I.kIn J (tyA_looks I ry ty _) hn hne hs hf hm ?_
  refine wpAny_mono (run_in1 F hr hb hx I (.cons rx (.cons ry .nil)) q) (fun w s' z => ?_) fun _ _ x => x
  obtain ⟨z', H', I', rz, b, rfl, qz⟩ := z
  exact ⟨b, rz, .bl (!b), H', I', rfl, qz⟩
/-- str(x) by x's own __str__ -/
def rStrOwn (C : Addr) (sp : Sp) (E : XK) : List V → Hp → VK → Prop := fun xs H Q => ∃ (a dx : Addr) (fs : List (Str × V)), xs = [.ref a] ∧ H a = some (.ins C dx fs) ∧ sp [.ref a] H (fun z H' => ∃ c, z = .str c ∧ Q z H') E
theorem call_strOwn (hs : PySem.W.findIn X.K (.ref C) "__str__" = some (some (.ref f))) (hf : PySem.W.isFn X.K (.ref f) = true) (F : FnOk X.prog X.w X.K X.mg X.base CX k f fd ps sp) (hr : Room (k + 2) X.A) (hb : Binds X.K fd ps []) (hx : Passes CX X E) : CallR X (.type "str") (rStrOwn C sp E) := by
  intro pins s σ H xs us Q I r h
  obtain ⟨a, dx, fs, rfl, ea, q⟩ := h
  obtain ⟨u1, rfl, r1⟩ := vals1 r
  cases (show u1 = Value.ref a from r1)
  obtain ⟨od, ox, J⟩ := inst_at I ea
  have hr1 : Room (k + 1) X.A.in1 := Room.in1 hr
  refine PySem.W.kso_call hr1.in1.units0 I.kIn J hs hf ?_
  refine wpAny_mono (run_in2 F hr hb hx I (.cons r1 .nil) q) (fun w s' z => ?_) fun _ _ x => x
  obtain ⟨z', H', I', rz, c, ez, qz⟩ := z
  subst ez
  obtain ⟨t, rfl⟩ := rz
  exact ⟨.str c, H', I', ⟨_, rfl⟩, qz⟩
end
end Tw
/-! Tw: a text times a number; an object made where its __init__ may raise into a try. -/
namespace Tw
open PySem PySem.Spec PyProof.Rows L2
section
variable {X : Cx} {CX : CXT} {k : Nat} {f C : Addr} {fd : FuncData} {ps : List Str} {sp : Sp} {E : L2.St → XK} {x : Str} {p pos : Pos} {e : Expr} {es : List Expr} {t : TA}
theorem op_mul_str : OpR X (binaryOp .Mult) (fun x y H Q => ∃ (z : Str) (n : Int), x = .str z ∧ y = .int n ∧ MulOk z n ∧ Q (.str (Txt.mul z n)) H) := by
  intro pins s σ H x y v u Q I rx ry h
  obtain ⟨z, n, rfl, rfl, ok, q⟩ := h
  obtain ⟨t, rfl⟩ := rx
  obtain ⟨t', rfl⟩ := ry
  exact SB.mul ok fun t' tk => ⟨.str (Txt.mul z n), H, I.tok _, ⟨_, rfl⟩, q⟩
/-- C(..) where C.__init__ may raise -/
def tMakeS (C : Addr) (sp : Sp) (E : L2.St → XK) (t : TA) : TE := fun σ H Q => t σ H fun vs H1 => ∀ x dx, H1 x = none → H1 dx = none → dx ≠ x →
  sp (.ref x :: vs) (upd (upd H1 dx (.own x)) x (.ins C dx [])) (fun v H2 => v = .non ∧ Q (.ref x) H2) (E σ)
theorem run_makeS {pins : List (Addr × Obj)} {σ : L2.St} {H : Hp} {s : Shared} {Q : VK} {us : List Value} {vs : List V} (M : Mk X.K C f) (F : FnOk X.prog X.w X.K X.mg X.base CX k f fd ps sp) (hr : Room (k + 1) X.A) (hb : Binds X.K fd ps [])
    (hx : PassesAt CX X σ (E σ)) (I : Inv X pins σ H s) (r : Vals vs us)
    (h : ∀ x dx, H x = none → H dx = none → dx ≠ x → sp (.ref x :: vs) (upd (upd H dx (.own x)) x (.ins C dx [])) (fun v H2 => v = .non ∧ Q (.ref x) H2) (E σ)) :
    wpAny (model X.prog X.w) X.A (call (.ref C) us) (EP X pins σ Q) X.xe s := by
  have hq := h (s.heap.objs.size + 1) s.heap.objs.size (I.hok.fresh (Nat.le_succ _)) (I.hok.fresh (Nat.le_refl _)) (Nat.ne_of_lt (Nat.lt_succ_self _))
  have I2 := Inv.made (C := C) I
  have r2 : Vals (V.ref (s.heap.objs.size + 1) :: vs) (Value.ref (s.heap.objs.size + 1) :: us) := .cons rfl r
  have hl : (Value.ref (s.heap.objs.size + 1) :: us).length = ps.length := by
    have e := r2.length
    rw [F.len _ _ _ _ hq] at e
    exact e.symm
  have b := hb _ (Value.ref (s.heap.objs.size + 1) :: us) I2.kIn (by rw [List.append_nil]; exact hl)
  rw [List.append_nil] at b
  refine wpAny_call (make_map (f := f) I.kIn M.makes M.init (beq_iff_eq.mp M.fn) (codeAny_mono (F.run _ X.stack _ _ ⟨Value.ref (s.heap.objs.size + 1) :: us, []⟩ (Value.ref (s.heap.objs.size + 1) :: us) _ _ (E σ) (hr.make C us [])
    (I2.env0.make C us []) b r2 hq) fun r s' hq' => ?_))
  cases r with
  | error e => exact hx pins _ _ e s' I2 hq'
  | ok fl =>
    cases fl with
    | ret u =>
      obtain ⟨v, H', I3, rv, ev, q3⟩ := I2.after hq'
      subst ev
      exact ⟨rv, ⟨V.ref (s.heap.objs.size + 1), H', I3, rfl, q3⟩⟩
    | next => exact False.elim hq'
    | brk => exact False.elim hq'
    | cont => exact False.elim hq'
theorem pe_makeS (M : Mk X.K C f) (F : FnOk X.prog X.w X.K X.mg X.base CX k f fd ps sp) (hr : Room (k + 1) X.A) (hg : Gl X x) (hm : X.mg x = some (.ref C)) (hb : Binds X.K fd ps []) (hx : ∀ σ, PassesAt CX X σ (E σ))
    (ha : PA X (e :: es) t) (hdb : (x == ("__debug__" : Str)) = false := by decide) (he : starEach (e :: es) X.env = (false, eval e X.env) :: starEach es X.env := by rfl) (hpl : (backTo pos (starEach es X.env)).any (·.1) = false := by rfl) :
    PE X (.Call (.Name x p) (e :: es) [] pos) (tMakeS C sp E t) := by
  refine ⟨fun pins s σ H Q I h => ?_⟩
  refine wpAny_Call_Name_kw (ld_glob I hg hm ?_ hdb)
  refine PySem.W.callWith_K (h₀ := X.base) I.ok.mod.kin M.kp (thn (ha.run pos pins s σ H _ I h) fun us s1 ⟨vs, H1, I1, r, q⟩ => ⟨I1.kIn, ?_⟩) he hpl
  exact run_makeS M F hr hb (hx σ) I1 r q
end
/-- a comprehension over a text, sign by sign -/
theorem lcStr {z : Str} {g : TG} {tt : TT} {te : TE} {ws : List Nat} {ρ : L2.St} {G : Hp} {D : Addr} {R : Hp → Prop} (P : Nat → Hp → Prop) (first : P 0 (upd G D (.lst [])))
    (step : ∀ i c H, z.cps[i]? = some c → P i H → g (.str ⟨#[c]⟩) (wipe ρ ws) H fun σ2 H2 => wipe σ2 ws = wipe ρ ws ∧ tt σ2 H2 fun b H3 => if b = true then te σ2 H3 fun y H4 => ∃ acc, H4 D = some (.lst acc) ∧ acc.length < sizeLine ∧ P (i + 1) (upd H4 D (.lst (acc ++ [y]))) else P (i + 1) H3)
    (last : ∀ H, P z.cps.size H → R H) :
    ∃ W : Nat → Nat → Hp → Prop, (∃ m, W 0 m (upd G D (.lst []))) ∧ ∀ i m H, W i m H → ((Its z).stop i H ∧ R H) ∨ ((Its z).go i H ∧ ∃ Nx : Hp → Prop, (∀ H', Nx H' → ∃ m', m' < m ∧ W (i + 1) m' H') ∧ ∀ x H', (Its z).yld i H x H' →
      g x (wipe ρ ws) H' fun σ2 H2 => wipe σ2 ws = wipe ρ ws ∧ tt σ2 H2 fun b H3 => if b = true then te σ2 H3 fun y H4 => ∃ acc, H4 D = some (.lst acc) ∧ acc.length < sizeLine ∧ Nx (upd H4 D (.lst (acc ++ [y]))) else Nx H3) := by
  refine ⟨fun i m H => m = z.cps.size - i ∧ i ≤ z.cps.size ∧ P i H, ⟨_, rfl, Nat.zero_le _, first⟩, ?_⟩
  rintro i m H ⟨rfl, hi, p⟩
  rcases Nat.lt_or_ge i z.cps.size with lt | ge
  · refine .inr ⟨lt, P (i + 1), fun H' p' => ⟨_, Nat.sub_succ_lt_self _ _ lt, rfl, lt, p'⟩, fun x H' ⟨e, c, ec, ex⟩ => ?_⟩
    subst e ex
    exact step i c _ ec p
  · exact .inl ⟨ge, last H (Nat.le_antisymm hi ge ▸ p)⟩
/-- values whose class is a built-in one -/
inductive Bv (H : Hp) : V → String → Prop where
  | non : Bv H .non "NoneType"
  | bl (b : Bool) : Bv H (.bl b) "bool"
  | int (i : Int) : Bv H (.int i) "int"
  | str (z : Str) : Bv H (.str z) "str"
  | lst {a : Addr} {xs : List V} (e : H a = some (.lst xs)) : Bv H (.ref a) "list"
  | tup {a : Addr} {xs : List V} (e : H a = some (.tup xs)) : Bv H (.ref a) "tuple"
  | dK {a : Addr} {kvs : List (Key × V)} (e : H a = some (.dK kvs)) : Bv H (.ref a) "dict"
theorem Bv.ty {K : PySem.W.Frag} {H : Hp} {x : V} {T : String} (h : Bv H x T) : TyX K H x (.type T) := by
  cases h with
  | non => exact .base .non
  | bl b => exact .base (.bl b)
  | int i => exact .base (.int i)
  | str z => exact .base (.str z)
  | lst e => exact .base (.lst e)
  | tup e => exact .base (.tup e)
  | dK e => exact .base (.dK e)
theorem Bv.same {H H' : Hp} {x : V} {T : String} (s : Same H H') (h : Bv H x T) : Bv H' x T := by
  cases h with
  | non => exact .non
  | bl b => exact .bl b
  | int i => exact .int i
  | str z => exact .str z
  | lst e => exact .lst (s _ _ e)
  | tup e => exact .tup (s _ _ e)
  | dK e => exact .dK (s _ _ e)
def isI : V → Bool
  | .int _ => true
  | _ => false
def isB : V → Bool
  | .bl _ => true
  | _ => false
def isS : V → Bool
  | .str _ => true
  | _ => false
/-- isinstance against a built-in class, by the value -/
theorem Bv.kits {K : PySem.W.Frag} {H : Hp} {x : V} {T : String} (h : Bv H x T) : PySem.W.kitOne K (.type T) (.type "str") = some (isS x) ∧ PySem.W.kitOne K (.type T) (.type "bool") = some (isB x) ∧ PySem.W.kitOne K (.type T) (.type "int") = some (isI x || isB x) := by
  cases h with
  | non => exact ⟨kit_ty (r := false) (by decide +kernel), kit_ty (r := false) (by decide +kernel), kit_ty (r := false) (by decide +kernel)⟩
  | bl b => exact ⟨kit_ty (r := false) (by decide +kernel), kit_ty (r := true) (by decide +kernel), kit_ty (r := true) (by decide +kernel)⟩
  | int i => exact ⟨kit_ty (r := false) (by decide +kernel), kit_ty (r := false) (by decide +kernel), kit_ty (r := true) (by decide +kernel)⟩
  | str z => exact ⟨kit_ty (r := true) (by decide +kernel), kit_ty (r := false) (by decide +kernel), kit_ty (r := false) (by decide +kernel)⟩
  | lst e => exact ⟨kit_ty (r := false) (by decide +kernel), kit_ty (r := false) (by decide +kernel), kit_ty (r := false) (by decide +kernel)⟩
  | tup e => exact ⟨kit_ty (r := false) (by decide +kernel), kit_ty (r := false) (by decide +kernel), kit_ty (r := false) (by decide +kernel)⟩
  | dK e => exact ⟨kit_ty (r := false) (by decide +kernel), kit_ty (r := false) (by decide +kernel), kit_ty (r := false) (by decide +kernel)⟩
end Tw
/-! Tw: a method called by keywords alone. -/
namespace Tw
open PySem PySem.Spec PyProof.Rows L2
section
variable {K : PySem.W.Frag} {x qual : Str} {params : Arguments} {body : List Stmt} {scope : Scope} {f : Addr} {fd : FuncData} {ps : List Str}
theorem kbNone (F : FunD K x qual params body scope [] [] f fd) (n : Nat) (ks : List Str)
    (h : ∀ (kV doc pm : Value) (an : Option Addr) (cdv ct : Value) (us ws : List Value), us.length = n → ws.length = ks.length → bindArgs (PySem.W.fnOf x qual params body scope .none kV doc pm an cdv ct) ⟨us, ks.zip ws⟩ = pure (ps.zip (us ++ ws))) :
    KBn K fd ps n ks (fun us ws => us ++ ws) (fun vs zs => vs ++ zs) := by
  obtain ⟨oc, od, dV, kV, doc, pm, an, cdv, ct, osl, rfl, lk, hcd, hD, hK⟩ := F.ex
  rcases hD with ⟨_, rfl⟩ | ⟨e, _⟩
  · exact ⟨fun s us ws X l1 l2 => .of_eq (h kV doc pm an cdv ct us ws l1 l2), fun r1 r2 => r1.append r2⟩
  · exact absurd rfl e
end
/-- o.m(k = v, ..) -/
def tMethN (C : Addr) (m : Str) (n : Nat) (sp : Sp) (gV : List V → List V → List V) (E : XK) (ta : TE) (tk : TA) : TE := fun σ H Q => ta σ H fun x H1 => ∃ (a dx : Addr) (fs : List (Str × V)), x = .ref a ∧ H1 a = some (.ins C dx fs) ∧ fs.lookup m = none ∧
  tk σ H1 fun zs H2 => zs.length = n ∧ sp (gV [.ref a] zs) H2 Q E
section
variable {X : Cx} {CX : CXT} {k : Nat} {f C : Addr} {fd : FuncData} {ps ks : List Str} {sp : Sp} {E : XK} {m : Str} {pos apos : Pos} {o : Expr} {kws : List Keyword} {ta : TE} {tk : TA} {g : List Value → List Value → List Value} {gV : List V → List V → List V}
theorem pe_methN {pl : Sem Bool} (he : PE X o ta) (c : Cls X.K C) (hm : Meth X.K C m f) (F : FnOk X.prog X.w X.K X.mg X.base CX k f fd ps sp) (hr : Room k X.A) (hb : KBn X.K fd ps 1 ks g gV) (hx : Passes CX X E) (hkw : PK X kws tk)
    (hall : (backToKw pos (keywordEach kws X.env)).all (·.1.isSome) = true := by rfl) (hks : (backToKw pos (keywordEach kws X.env)).filterMap (·.1) = ks := by rfl)
    (hpl : ((backTo pos (starEach [] X.env)).any (·.1) || (backToKw pos (keywordEach kws X.env)).any (·.1.isNone)) = false := by rfl)
    (ht : eval (.Call (.Attribute o m apos) [] kws pos) X.env = (do
      let v ← eval o X.env
      standAt apos.atName
      let (h, front) ← holding [v] (getMethod v m pl)
      callWith pos h front (backTo pos (starEach [] X.env)) (backToKw pos (keywordEach kws X.env))) := by rfl) :
    PE X (.Call (.Attribute o m apos) [] kws pos) (tMethN C m ks.length sp gV E ta tk) := by
  refine ⟨fun pins s σ H Q I h => ?_⟩
  refine PySem.W.methodCall_KW (pl := pl) (thn (he.run pins s σ H _ I h) fun u s1 ⟨x, H1, I1, rx, a, dx, fs, ex, ea, l, q⟩ => ?_) ht
  subst ex
  cases (show u = Value.ref a from rx)
  refine getmeth_ok I1 ea c hm l ?_
  refine PySem.W.callWith_KW0 (h₀ := X.base) (first := [.ref a]) I1.ok.mod.kin hm.kp hall (thn (hkw.run pos pins s1 σ H1 _ I1 q) fun ws s2 ⟨zs, H2, I2, rz, l2, q2⟩ => ⟨I2.kIn, ?_⟩) hpl
  rw [hks]
  exact run_fnN (us := [.ref a]) (vs := [.ref a]) F hr hb hx I2 (.cons rx .nil) rz rfl l2 q2
end
/-- == by an own __eq__, where the context is a comprehension's: what it knows is named -/
theorem eqOwnK {X : Cx} {CX : CXT} {k : Nat} {f C : Addr} {fd : FuncData} {ps : List Str} {sp : Sp} {E : XK} (P : Program) (w : World) (K : PySem.W.Frag) (mg : Str → Option Value) (base : Heap) (hs : PySem.W.findIn K (.ref C) "__eq__" = some (some (.ref f))) (hf : PySem.W.isFn K (.ref f) = true)
    (F : FnOk P w K mg base CX k f fd ps sp) (hr : Room k X.A) (hb : Binds K fd ps []) (hx : Passes CX X E) (e1 : X.prog = P := by rfl) (e2 : X.w = w := by rfl) (e3 : X.K = K := by rfl) (e4 : X.mg = mg := by rfl) (e5 : X.base = base := by rfl) : OpR X (compareOp .Eq) (rEqOwn K C sp E) := by
  subst e1 e2 e3 e4 e5
  exact op_eqOwn hs hf F hr hb hx
/-! lists of bools -/
theorem dpBools {K : PySem.W.Frag} {H : Hp} : ∀ bs : List Bool, DpAll K H (bs.map V.bl) (bs.map PyData.bool)
  | [] => .nil
  | b :: bs => .cons (.bl b) (dpBools bs)
theorem layBools : ∀ bs : List Bool, PyData.canLayAll0 (bs.map PyData.bool) = true ∧ PyData.depthAll (bs.map PyData.bool) = 0
  | [] => ⟨rfl, rfl⟩
  | b :: bs => by
    obtain ⟨h1, h2⟩ := layBools bs
    constructor
    · simp only [List.map_cons, PyData.canLayAll0, PyData.canLay0, h1, Bool.and_self]
    · simp only [List.map_cons, PyData.depthAll, PyData.depth, h2, Nat.max_self]
theorem shapedBools (bs : List Bool) : SeqAt.shaped (.list (bs.map PyData.bool)) = true := by
  obtain ⟨h1, h2⟩ := layBools bs
  simp [SeqAt.shaped, PyData.canLay0, PyData.depth, h1, h2]
theorem eqvBools (bs : List Bool) : PyData.eqv (.list (bs.map PyData.bool)) (.list (bs.map PyData.bool)) = true :=
  SeqAt.eqv_refl _ (by simpa [PyData.canLay0] using (layBools bs).1)
theorem ifSame {d : PyData} {A B : Prop} (h : PyData.eqv d d = true) (b : B) : if (!PyData.eqv d d) = true then A else B := by
  rw [h]
  exact iteF b
theorem mildBools : ∀ bs : List Bool, mildAll (bs.map PyData.bool) = true ∧ capAll (bs.map PyData.bool) ≤ 100 * bs.length
  | [] => ⟨rfl, Nat.le_refl _⟩
  | b :: bs => by
    obtain ⟨h1, h2⟩ := mildBools bs
    constructor
    · simp only [List.map_cons, mildAll, mild, h1, Bool.and_self]
    · simp only [List.map_cons, capAll, List.length_cons]
      have : cap (.bool b) ≤ 90 := by cases b <;> decide
      omega
end Tw
/-! Tw: enumerate over a list, a tuple, an own object that gives a tuple's iterator. -/
namespace Tw
open PySem PySem.Spec PyProof.Rows L2
/-- pairs (number, item), the items as G tells them -/
def IteG (G : Hp → List V → Prop) : It := ⟨fun i H => ∃ (xs : List V) (x : V), G H xs ∧ xs[i]? = some x,
  fun i H v H' => ∃ (T : Addr) (x : V), v = .ref T ∧ H T = none ∧ H' = upd H T (.tup [.int (i : Nat), x]) ∧ ∀ xs, G H xs → xs[i]? = some x, fun i H => ∃ xs : List V, G H xs ∧ i = xs.length⟩
theorem turnL {P : Program} {w : World} {K : PySem.W.Frag} {elts : List Expr} {kk : Nat} {tpos : Pos} (a e it : Addr) :
    Turn P w K (.Tuple elts kk tpos) (IteG fun H xs => SqL K H a xs) [e, it] e (fun i h => (∃ old, IsEnum h e it ((i : Nat) : Int) old) ∧ h.IsListIter it a i ∧ e ≠ it) :=
  let T := turn_enum (P := P) (w := w) (K := K) (elts := elts) (kk := kk) (tpos := tpos) a e it
  ⟨T.mem, T.obj, T.keep, T.item, fun X h1 h2 h3 h4 i pins s σ H E I hf st ⟨xs, g, hx⟩ => T.done X h1 h2 h3 h4 i pins s σ H E I hf st ⟨xs, g, Nat.le_of_eq hx.symm⟩, T.self⟩
theorem turnT {P : Program} {w : World} {K : PySem.W.Frag} {elts : List Expr} {kk : Nat} {tpos : Pos} (a e it : Addr) :
    Turn P w K (.Tuple elts kk tpos) (IteG fun H xs => SqT K H a xs) [e, it] e (fun i h => (∃ old, IsEnum h e it ((i : Nat) : Int) old) ∧ h.IsTupleIter it a i ∧ e ≠ it) where
  mem := List.mem_cons_self
  obj := fun i h ⟨⟨old, he⟩, ⟨o, ho, hc, hd⟩, _⟩ b hb => by
    rcases List.mem_cons.mp hb with z | z
    · exact z ▸ ⟨_, he, fun v q => nomatch q⟩
    · rw [List.mem_singleton.mp z]
      exact ⟨o, ho, fun v q => by
        rw [hd] at q
        cases q⟩
  keep := fun i h h' ⟨⟨old, he⟩, hi, hne⟩ k => ⟨⟨old, k e List.mem_cons_self _ he⟩, hi.at fun o q => k it (List.mem_cons_of_mem _ List.mem_cons_self) o q, hne⟩
  item := by
    intro X e1 e2 e3 hc i pins s σ H E I hf ⟨⟨old, he⟩, hit, hne⟩ ⟨xs, x, hq, hx⟩
    subst e1 e2 e3
    obtain ⟨its, rv, p, hz⟩ := I.tuple hq
    obtain ⟨u, hu, ru⟩ := rv.get hx
    have hel : e < s.heap.objs.size := Heap.lt_size he
    have hil : it < s.heap.objs.size := by
      obtain ⟨_, q, _⟩ := hit
      exact Heap.lt_size q
    have hta : a ≠ it := fun z => by
      obtain ⟨o, q, c, _⟩ := hit
      obtain ⟨o', q', c', _⟩ := p
      rw [z, q] at q'
      cases q'
      rw [c] at c'
      exact absurd c' (by decide)
    have hea : e ≠ a := fun z => by
      obtain ⟨o', q', c', _⟩ := p
      rw [← z, show s.heap.get? e = _ from he] at q'
      cases q'
      exact absurd (Value.type.inj c') (by decide)
    have hlt : i < its.toArray.size := by
      rw [List.size_toArray]
      exact (List.getElem?_eq_some_iff.mp hu).1
    refine wpAny_pyNext_enum_itemC (Draws.tuple (A := X.A.in1) (I.ok.hd hc) it a hta its.toArray) he ⟨hit, p⟩ hlt hne (fun hm => ?_) fun y h1 tk py ho st1 hT hsz hk => ?_
    · rcases List.mem_cons.mp hm with z | z
      · exact hne z
      · exact hea (List.mem_singleton.mp z)
    · have ey : y = u := by
        have q : its.toArray[i]? = some y := py
        rw [List.getElem?_toArray, hu] at q
        exact (Option.some.inj q).symm
      subst ey
      refine ⟨_, rfl, wpAny_letOwnedTupleGo_enum (s := { s with heap := h1, toks := tk + 1 }) ho fun h2 he2 sb => ?_⟩
      have hT2 : h2.get? s.heap.objs.size = some { cls := .type "tuple", data := .seq #[.int i tk, y] } := (sb.2 _ (Nat.ne_of_gt hel)).trans hT
      have ok : ObjOk X.prog X.w (upd H s.heap.objs.size (.tup [.int (i : Nat), x])) h2 s.heap.objs.size (.tup [.int (i : Nat), x]) := ⟨(by show 2 ≤ sizeLine; decide), [.int i tk, y], .cons ⟨_, rfl⟩ (.cons ru .nil), ⟨_, hT2, rfl, _, rfl⟩⟩
      have I1 : Inv X pins σ (upd H s.heap.objs.size (.tup [.int (i : Nat), x])) { s with heap := h2, toks := tk + 1 } := I.turnedNew (ch := [e, it]) (fun b ob hb q => by
        have b1 : b ≠ e := fun z => hb (z ▸ List.mem_cons_self)
        have b2 : b ≠ it := fun z => hb (z ▸ List.mem_cons_of_mem _ List.mem_cons_self)
        exact (sb.2 b b1).trans (hk b ob b1 b2 q)) hf (Nat.le_refl _) ok
      refine ⟨.ref s.heap.objs.size, _, I1, rfl, ⟨_, x, rfl, I.hok.fresh (Nat.le_refl _), rfl, fun ys hy => I.tuple_inj hy hq ▸ hx⟩, ⟨⟨y, ?_⟩, st1.1.at fun o q => (sb.2 it hne.symm).trans q, hne⟩, fun b hb => ?_⟩
      · rw [show ((i + 1 : Nat) : Int) = (i : Int) + 1 by omega]
        exact he2
      · have lt : b < s.heap.objs.size := by
          rcases List.mem_cons.mp hb with z | z
          · exact z ▸ hel
          · exact (List.mem_singleton.mp z) ▸ hil
        rw [upd_ne (Nat.ne_of_lt lt)]
        exact (hf b hb).1
  done := by
    intro X e1 e2 e3 hc i pins s σ H E I hf ⟨⟨old, he⟩, hit, hne⟩ ⟨xs, hq, hx⟩
    subst e1 e2 e3
    obtain ⟨its, rv, p, hz⟩ := I.tuple hq
    have hta : a ≠ it := fun z => by
      obtain ⟨o, q, c, _⟩ := hit
      obtain ⟨o', q', c', _⟩ := p
      rw [z, q] at q'
      cases q'
      rw [c] at c'
      exact absurd c' (by decide)
    have hn : its.toArray.size = i := by
      rw [List.size_toArray, ← rv.length, hx]
    have D := Draws.tuple (prog := X.prog) (w := X.w) (A := X.A.in1) (I.ok.hd hc) it a hta its.toArray
    rw [hn] at D
    obtain ⟨f0, f1, f2, f3, f4, f5⟩ := hf it (List.mem_cons_of_mem _ List.mem_cons_self)
    exact wpAny_pyNext_enum_endD D he ⟨hit, p⟩ fun h' eb => ⟨rfl, I.turned (t' := s.toks) (fun b o hb q => eb b o hb q) f0 f1 f3 f4 f5⟩
  self := fun A i s Q E ⟨⟨_, he⟩, _⟩ h => wpAny_pyIter_enum he h
end Tw
/-! Tw: walking an own object whose __iter__ returns a tuple's iterator. -/
namespace Tw
open PySem PySem.Spec PyProof.Rows L2 ItX
/-- at it: an iterator of the tuple at t, before its item i -/
def ItT (t it : Addr) (i : Nat) : HO := .ext fun h => h.IsTupleIter it t i
theorem itT_ok {P : Program} {w : World} {H : Hp} {h : Heap} {t it : Addr} {i : Nat} (e : h.IsTupleIter it t i) : ObjOk P w H h it (ItT t it i) := ⟨e, ⟨_, e.choose_spec.1⟩, fun h1 h2 q k => q.at fun o z => k _ z⟩
theorem itT_get {X : Cx} {pins : List (Addr × Obj)} {σ : L2.St} {H : Hp} {s : Shared} {t it : Addr} {i : Nat} (I : Inv X pins σ H s) (e : H it = some (ItT t it i)) : s.heap.IsTupleIter it t i := (I.hok it _ e).1
/-- iter(t), t a tuple: a young iterator -/
def rIterT (K : PySem.W.Frag) (n : Nat) : List V → Hp → VK → Prop := fun xs H Q => ∃ (t : Addr) (zs : List V), xs = [.ref t] ∧ SqT K H t zs ∧ ∀ it H', H it = none → n ≤ it → Same H H' → H' it = some (ItT t it 0) → Q (.ref it) H'
theorem call_iterT {X : Cx} : CallR X (.builtin "iter") (rIterT X.K X.s_0.heap.objs.size) := by
  intro pins s σ H xs us Q I r h
  obtain ⟨t, zs, rfl, hq, q⟩ := h
  obtain ⟨u, rfl, ru⟩ := vals1 r
  cases (show u = Value.ref t from ru)
  obtain ⟨its, rv, pl, hz⟩ := I.tuple hq
  refine Calls.call_function_entry (by decide +kernel) (by decide +kernel) PySem.W.kdk_entry_iter (PySem.W.kdk_args_iter _) ?_
  unfold Builtin.«iter»
  refine wpAny_bind (m := someArgs "iter" 1 2 _) (wpAny_of_eq (a := [Value.ref t]) (by first | rfl | kernel_rfl!) ?_)
  show wpAny _ _ (pyIter (.ref t) >>= _) _ _ _
  refine wpAny_bind (wpAny_pyIter_tuple (show s.heap.IsTuple t its.toArray from pl) (wpAny_pure ⟨_, rfl, ?_⟩))
  have hf := I.hok.fresh (Nat.le_refl s.heap.objs.size)
  have new : (s.heap.push { cls := .type "tuple_iterator", data := .fields #[.ref t, .int 0 0] }).IsTupleIter s.heap.objs.size t 0 := ⟨_, Heap.get?_push_size _ rfl, rfl, rfl⟩
  exact ⟨.ref s.heap.objs.size, upd H s.heap.objs.size (ItT t s.heap.objs.size 0), I.laid (t' := s.toks) (fun b u e => Heap.get?_push_of_some _ e) (Nat.le_refl _) (itT_ok new), rfl, q _ _ hf I.sz (same_new hf) upd_same⟩
/-- a def's promise that knows how many objects there are when it is called -/
structure FnN (P : Program) (w : World) (K : PySem.W.Frag) (mg : Str → Option Value) (base : Heap) (CX : CXT) (k : Nat) (f : Addr) (fd : FuncData) (ps : List Str) (sp : Nat → Sp) : Prop where
  len : ∀ n vs H Q E, sp n vs H Q E → vs.length = ps.length
  run : ∀ (A : Around) (outer : List Env) (s : Shared) (H : Hp) (args : Args) (us : List Value) (vs : List V) (Q : VK) (E : XK), Room k A → Env0 P w K mg base A outer s H →
    BindsTo s fd args (ps.zip us) → Vals vs us → sp s.heap.objs.size vs H Q E → codeAny (model P w) A (.call (.ref f) args) (CR CX outer P w H s Q E) s
theorem _root_.L2.FunD.okN {P : Program} {w : World} {K : PySem.W.Frag} {mg : Str → Option Value} {base : Heap} {CX : CXT} {x qual : Str} {params : Arguments} {body : List Stmt} {scope : Scope} {dvs : List V} {kws : List (Str × V)} {f : Addr} {fd : FuncData} {N ps : List Str} {k : Nat} {sp : Nat → Sp}
    (F : FunD K x qual params body scope dvs kws f fd) (S : FnScope N ps scope) (len : ∀ n vs H Q E, sp n vs H Q E → vs.length = ps.length)
    (hbody : ∀ (cdv : Value) (A : Around) (outer : List Env) (s : Shared) (H : Hp) (vs : List V) (Q : VK) (E : XK), Room k (A.deeper (envOfC qual scope s.heap.objs.size f cdv)) → sp s.heap.objs.size vs H Q E →
      ∃ t, PSs (cxOf CX P w K mg base N qual scope f cdv A outer s H E) body t ∧ t { nx := fun _ H' => Q .non H', rt := Q } (L2.start N vs) H) : FnN P w K mg base CX (k + 1) f fd ps sp := by
  obtain ⟨oc, od, dV, kV, doc, pm, an, cdv, ct, osl, rfl, lk, hcd, _, _⟩ := F.ex
  refine ⟨len, fun A outer s H args us vs Q E hr e0 hb r hsp => ?_⟩
  have at0 : ∀ b o, base.get? b = some o → s.heap.get? b = some o := fun b o e => (e0.bs b o e).1
  have hkind : ∀ y ∈ ps.zip us, scope.names.lookup y.1 = some .local ∨ (scope.names.lookup y.1 = some .cell ∧ ((cellsFrom (s.heap.objs.size + 1) scope.names []).lookup y.1).isSome = true) := by
    rintro ⟨n, v⟩ hy
    rcases S.par n (List.of_mem_zip hy).1 with q | q
    · exact .inl q
    · exact .inr ⟨q, PySem.W.cellsFrom_some _ _ _ (.inl q)⟩
  refine codeAny_call_function hr.depth ((e0.mod.kin.keeps at0) _ _ lk) rfl S.co S.gen rfl (PySem.W.codeRec_of (e0.mod.kin.keeps at0) hcd) (hb _ _ _ _ ?_)
  refine wpAny_newFunctionEnv_cells S.kind hkind fun env he s1 x => ?_
  subst he
  refine ⟨(e0.mod.nolimit.keeps at0).keeps x.toInCall.keep, codeAny_func ?_⟩
  obtain ⟨t, ht, hq⟩ := hbody cdv A outer s H vs Q E (hr.deeper _) hsp
  refine wpAny_mono (ht.run [] s1 (L2.start N vs) H _ (inv_start S hr.hd e0 (len _ _ _ _ _ hsp) r x) hq) (fun fl s' hs => ?_) fun e s' hs => hs
  cases fl with
  | ret u =>
    obtain ⟨v, σ', H', J, rv, q⟩ := hs
    exact ⟨v, H', J.os, J.bare, J.base, J.hok, rv, q⟩
  | next =>
    obtain ⟨σ', H', J, q⟩ := hs
    exact ⟨.non, H', J.os, J.bare, J.base, J.hok, rfl, q⟩
  | brk => exact hs.elim fun _ z => z.elim fun _ z => z.2.elim
  | cont => exact hs.elim fun _ z => z.elim fun _ z => z.2.elim
section
variable {X : Cx} {CX : CXT} {k : Nat} {f C : Addr} {fd : FuncData} {ps : List Str} {E : XK} {pins : List (Addr × Obj)} {σ : L2.St} {H : Hp} {s : Shared}
/-- what an own __iter__ promises that returns iter(self.f), a tuple: f's items are told by ITS -/
def spIter (C : Addr) (ff : Str) : Nat → Sp := fun n vs H Q _ => ∃ (a dx t : Addr) (fs : List (Str × V)) (zs : List V), vs = [.ref a] ∧ H a = some (.ins C dx fs) ∧ fs.lookup ff = some (.ref t) ∧ H t = some (.tup zs) ∧ ∀ it H', H it = none → n ≤ it → Same H H' → H' it = some (ItT t it 0) → Q (.ref it) H'
theorem iter_ownT {A' : Around} {ff : Str} {a dx t : Addr} {fs : List (Str × V)} {zs : List V} {R : Value → Shared → Prop} (hs : PySem.W.findIn X.K (.ref C) "__iter__" = some (some (.ref f))) (hf : PySem.W.isFn X.K (.ref f) = true) (F : FnN X.prog X.w X.K X.mg X.base CX k f fd ps (spIter C ff)) (hr : Room k A')
    (he : Env0 X.prog X.w X.K X.mg X.base A' X.stack s H) (hb : Binds X.K fd ps []) (hx : Passes CX X E) (I : Inv X pins σ H s) (ha : H a = some (.ins C dx fs)) (hl : fs.lookup ff = some (.ref t)) (ht : H t = some (.tup zs))
    (q : ∀ it s' H', Inv X pins σ H' s' → H it = none → Same H H' → H' it = some (ItT t it 0) → X.s_0.heap.objs.size ≤ it → R (.ref it) s') : wpAny (model X.prog X.w) A' (pyIter (.ref a)) R X.xe s := by
  obtain ⟨od, ox, J⟩ := inst_at I ha
  obtain ⟨m0, hF⟩ := I.fr
  refine PySem.W.owit_iter hF I.ok.mod.kin J hs hf ?_
  have hsp : spIter C ff s.heap.objs.size [.ref a] H (fun v H' => ∃ it, v = .ref it ∧ s.heap.objs.size ≤ it ∧ H it = none ∧ Same H H' ∧ H' it = some (ItT t it 0)) E := ⟨a, dx, t, fs, zs, rfl, ha, hl, ht, fun it H' h0 hn sm e => ⟨it, rfl, hn, h0, sm, e⟩⟩
  have len := F.len _ _ _ _ _ hsp
  have b := hb s [.ref a] I.kIn (by simpa using len)
  rw [List.append_nil] at b
  refine wpAny_call (codeAny_mono (F.run A' X.stack s H ⟨[.ref a], []⟩ [.ref a] [.ref a] _ E hr he b (.cons rfl .nil) hsp) fun r s' hq => ?_)
  match r, hq with
  | .error e, hq => exact hx pins σ H s e s' I hq
  | .ok (.ret u), hq =>
    obtain ⟨v, H', I', rv, it, ev, hn, h0, sm, e⟩ := I.after hq
    subst ev
    cases (show u = Value.ref it from rv)
    have hit := itT_get I' e
    show PySem.W.OwitIt _ _ _ _ _ _
    unfold PySem.W.OwitIt
    exact wpAny_specialOf hit.typeIs PySem.F.slot_tuple_iterator_next.lookup (q it s' H' I' h0 sm e (Nat.le_trans I.sz hn))
theorem drop_same {H H1 : Hp} {it : Addr} (h0 : H it = none) (sm : Same H H1) : Same H (dropH H1 it) := fun b o e => by
  rw [dropH_ne (ne_of_none e h0)]
  exact sm b o e
/-- for x in o -/
def iOwn (K : PySem.W.Frag) (C : Addr) (ff : Str) (te : TE) : TI := fun σ H R => te σ H fun x H1 => ∃ (a dx t : Addr) (fs : List (Str × V)) (zs : List V), x = .ref a ∧ H1 a = some (.ins C dx fs) ∧ fs.lookup ff = some (.ref t) ∧ H1 t = some (.tup zs) ∧ ∀ H2, Same H1 H2 → R (Itt K t) H2
theorem pi_own {tg e : Expr} {te : TE} {ff : Str} (hs : PySem.W.findIn X.K (.ref C) "__iter__" = some (some (.ref f))) (hf : PySem.W.isFn X.K (.ref f) = true) (F : FnN X.prog X.w X.K X.mg X.base CX k f fd ps (spIter C ff)) (hr : Room k X.A) (hb : Binds X.K fd ps []) (hx : Passes CX X E) (he : PE X e te) : PI X tg e (iOwn X.K C ff te) := by
  refine ⟨fun pins s σ H R I h => thn (he.run pins s σ H _ I h) fun u s1 hh => ?_⟩
  obtain ⟨x, H1, I1, rx, a, dx, t, fs, zs, ex, ha, hl, ht, q⟩ := hh
  subst ex
  cases (show u = Value.ref a from rx)
  refine iter_ownT hs hf F hr I1.env0 hb hx I1 ha hl ht fun it s2 H2 I2 h0 sm e2 hn => ?_
  have e3 := e2
  unfold ItT at e3
  refine ⟨it, [it], _, _, dropH H2 it, rfl, inv_drop I2 e3, turn_tuple t it, itT_get I2 e2, fun b hb => ?_, q _ (drop_same h0 sm)⟩
  rw [List.mem_singleton.mp hb]
  exact inv_fp I2 e2 hn
end
section
variable {prog : Program} {w : World} {A : Around} {E : Value → Shared → Prop} {s : Shared}
/-- the enumerate object behind iter(v) -/
def enumO (it : Addr) : Obj := { cls := .type "enumerate", data := .fields #[.none, .bool false, .ref it, rawInt 0, .none, .none] }
set_option maxHeartbeats 4000000 in
theorem meets_enumI (v : Value) : MeetsIn prog w (Builtin.«enumerate.__new__» ⟨[.type "enumerate", v], []⟩) (fun B R s => wpAny (model prog w) B.in1 (pyIter v) (fun u s' => ∃ it, u = .ref it ∧ R (.ok (.ret (.ref s'.heap.objs.size))) { s' with heap := s'.heap.push (enumO it) }) (fun e s' => R (.error e) s') s) :=
  .of_wp fun B R s h => by
    have hsub := sub_enumerate
    have q1 : ∀ {Q : Value → Shared → Prop}, (∀ it s', R (.ok (.ret (.ref s'.heap.objs.size))) { s' with heap := s'.heap.push (enumO it) } → Q (.ref it) s') → wpAny (model prog w) B.in1 (pyIter v) Q (fun e s' => R (.error e) s') s := fun hQ => wpAny_mono h (fun u s' ⟨it, eu, q⟩ => eu ▸ hQ it s' q) fun _ _ z => z
    obtain ⟨hp, g, d, tk, os⟩ := s
    wp_walk using q1
    refine wpAny_stack_any fun st => wpAny_pure ?_
    split
    · rename_i c _ _ _ _ _
      cases (c == Value.type "enumerate")
      · wp_walk using q1
        rintro it ⟨hp2, g2, d2, tk2, os2⟩ r
        wp_walk
        exact ⟨_, rfl, r⟩
      · wp_walk using q1
        rintro it ⟨hp2, g2, d2, tk2, os2⟩ r
        wp_walk
        exact ⟨_, rfl, r⟩
    · wp_walk using q1
      rintro it ⟨hp2, g2, d2, tk2, os2⟩ r
      wp_walk
      exact ⟨_, rfl, r⟩
theorem enum_call {v : Value} {Q : Value → Shared → Prop} (hi : wpAny (model prog w) A.in1.in1 (pyIter v) (fun u s' => ∃ it, u = .ref it ∧ Q (.ref s'.heap.objs.size) { s' with heap := s'.heap.push (enumO it) }) E s) : wpAny (model prog w) A (call (.type "enumerate") [v]) Q E s :=
  callType_newIn PySem.F.called_enumerate (by decide) (PySem.F.typeCall_enumerate_1 _) (PySem.F.newCall_enumerate_1 _) (fun obj => PySem.F.args_object_init_2 obj _) PySem.F.entry_enumerate_new (meets_enumI v)
    (wpAny_mono hi (fun u s' ⟨it, eu, q⟩ => ⟨it, eu, ⟨_, Heap.get?_push_size _ rfl, rfl⟩, q⟩) fun _ _ z => z)
end
section
variable {X : Cx} {CX : CXT} {k : Nat} {f C : Addr} {fd : FuncData} {ps : List Str} {E : XK}
/-- for i, x in enumerate(v): v a list, a tuple, an own object -/
def iEnumA (K : PySem.W.Frag) (C : Addr) (ff : Str) (ta : TA) : TI := fun σ H R => ta σ H fun vs H1 => ∃ a, vs = [.ref a] ∧ (((∃ xs, SqL K H1 a xs) ∧ R (IteG fun H xs => SqL K H a xs) H1) ∨ ((∃ xs, SqT K H1 a xs) ∧ R (IteG fun H xs => SqT K H a xs) H1) ∨
  ∃ (dx t : Addr) (fs : List (Str × V)) (zs : List V), H1 a = some (.ins C dx fs) ∧ fs.lookup ff = some (.ref t) ∧ H1 t = some (.tup zs) ∧ ∀ H2, Same H1 H2 → R (IteG fun H xs => SqT K H t xs) H2)
theorem pi_enumA {e : Expr} {ta : TA} {ff : Str} {p pos tpos : Pos} {elts : List Expr} {kk : Nat} (hs : PySem.W.findIn X.K (.ref C) "__iter__" = some (some (.ref f))) (hf : PySem.W.isFn X.K (.ref f) = true) (F : FnN X.prog X.w X.K X.mg X.base CX k f fd ps (spIter C ff)) (hr : Room (k + 2) X.A) (hb : Binds X.K fd ps []) (hx : Passes CX X E)
    (hg : Gl X "enumerate") (hm : X.mg "enumerate" = none) (ha : PA X [e] ta) (hst : starEach [e] X.env = [(false, eval e X.env)] := by rfl) : PI X (.Tuple elts kk tpos) (.Call (.Name "enumerate" p) [e] [] pos) (iEnumA X.K C ff ta) := by
  refine ⟨fun pins s σ H R I h => Call_ (ld_blt I hg hm boot_enumerate (PyProof.Rows.callWith_type1 (thn (ha.run pos pins s σ H _ I h) fun us s1 ⟨vs, H1, I1, r1, q1⟩ => ?_) hst rfl))⟩
  obtain ⟨a, ex, q1⟩ := q1
  subst ex
  obtain ⟨u, rfl, ru⟩ := vals1 r1
  cases (show u = Value.ref a from ru)
  refine enum_call ?_
  have push : ∀ {s2 : Shared} {it : Addr}, (∀ b o, s2.heap.get? b = some o → (s2.heap.push (enumO it)).get? b = some o) := fun b o z => Heap.get?_push_of_some _ z
  have isE : ∀ {s2 : Shared} {it : Addr}, IsEnum (s2.heap.push (enumO it)) s2.heap.objs.size it ((0 : Nat) : Int) .none := fun {s2 it} => Heap.get?_push_size _ rfl
  rcases q1 with ⟨⟨xs, hq⟩, q⟩ | ⟨⟨xs, hq⟩, q⟩ | ⟨dx, t, fs, zs, h1, h2, h3, q⟩
  · obtain ⟨its, rv, pl, hz⟩ := I1.list hq
    refine wpAny_pyIter_list pl.isList ⟨_, rfl, ?_⟩
    have I2 : Inv X pins σ H1 { s1 with heap := s1.heap.push { cls := .type "list_iterator", data := .fields #[.ref a, .int 0 0] } } := I1.kept (t' := s1.toks) fun b o z => Heap.get?_push_of_some _ z
    have I3 : Inv X pins σ H1 { s1 with heap := (s1.heap.push { cls := .type "list_iterator", data := .fields #[.ref a, .int 0 0] }).push (enumO s1.heap.objs.size) } := I2.kept (t' := s1.toks) push
    have hz2 : (s1.heap.push { cls := .type "list_iterator", data := .fields #[.ref a, .int 0 0] }).objs.size = s1.heap.objs.size + 1 := Heap.size_push ..
    have hne : (s1.heap.push { cls := .type "list_iterator", data := .fields #[.ref a, .int 0 0] }).objs.size ≠ s1.heap.objs.size := by omega
    have itr : ((s1.heap.push { cls := .type "list_iterator", data := .fields #[.ref a, .int 0 0] }).push (enumO s1.heap.objs.size)).IsListIter s1.heap.objs.size a 0 := ⟨_, Heap.get?_push_of_some _ (Heap.get?_push_size _ rfl), rfl, rfl⟩
    refine wpAny_pyIter_enum isE ⟨_, [_, s1.heap.objs.size], _, _, H1, rfl, I3, turnL a _ s1.heap.objs.size, ⟨⟨.none, isE⟩, itr, hne⟩, fun b hb => ?_, q⟩
    have lt : s1.heap.objs.size ≤ b := by
      rcases List.mem_cons.mp hb with z | z
      · rw [z]
        show s1.heap.objs.size ≤ (s1.heap.push _).objs.size
        omega
      · exact Nat.le_of_eq (List.mem_singleton.mp z).symm
    exact I1.fpOk lt (I1.hok.fresh lt)
  · obtain ⟨its, rv, pl, hz⟩ := I1.tuple hq
    refine wpAny_pyIter_tuple (show s1.heap.IsTuple a its.toArray from pl) ⟨_, rfl, ?_⟩
    have I2 : Inv X pins σ H1 { s1 with heap := s1.heap.push { cls := .type "tuple_iterator", data := .fields #[.ref a, .int 0 0] } } := I1.kept (t' := s1.toks) fun b o z => Heap.get?_push_of_some _ z
    have I3 : Inv X pins σ H1 { s1 with heap := (s1.heap.push { cls := .type "tuple_iterator", data := .fields #[.ref a, .int 0 0] }).push (enumO s1.heap.objs.size) } := I2.kept (t' := s1.toks) push
    have hz2 : (s1.heap.push { cls := .type "tuple_iterator", data := .fields #[.ref a, .int 0 0] }).objs.size = s1.heap.objs.size + 1 := Heap.size_push ..
    have hne : (s1.heap.push { cls := .type "tuple_iterator", data := .fields #[.ref a, .int 0 0] }).objs.size ≠ s1.heap.objs.size := by omega
    have itr : ((s1.heap.push { cls := .type "tuple_iterator", data := .fields #[.ref a, .int 0 0] }).push (enumO s1.heap.objs.size)).IsTupleIter s1.heap.objs.size a 0 := ⟨_, Heap.get?_push_of_some _ (Heap.get?_push_size _ rfl), rfl, rfl⟩
    refine wpAny_pyIter_enum isE ⟨_, [_, s1.heap.objs.size], _, _, H1, rfl, I3, turnT a _ s1.heap.objs.size, ⟨⟨.none, isE⟩, itr, hne⟩, fun b hb => ?_, q⟩
    have lt : s1.heap.objs.size ≤ b := by
      rcases List.mem_cons.mp hb with z | z
      · rw [z]
        show s1.heap.objs.size ≤ (s1.heap.push _).objs.size
        omega
      · exact Nat.le_of_eq (List.mem_singleton.mp z).symm
    exact I1.fpOk lt (I1.hok.fresh lt)
  · have hr1 : Room (k + 1) X.A.in1 := Room.in1 hr
    refine iter_ownT hs hf F hr1.in1 I1.env0.in1.in1 hb hx I1 h1 h2 h3 fun it s2 H2 I2 h0 sm e2 hn => ⟨it, rfl, ?_⟩
    have I3 : Inv X pins σ H2 { s2 with heap := s2.heap.push (enumO it) } := I2.kept (t' := s2.toks) push
    have e3 := e2
    unfold ItT at e3
    have hit : it < s2.heap.objs.size := by
      obtain ⟨_, z, _⟩ := itT_get I2 e2
      exact Heap.lt_size z
    have hne : s2.heap.objs.size ≠ it := Nat.ne_of_gt hit
    refine wpAny_pyIter_enum isE ⟨s2.heap.objs.size, [s2.heap.objs.size, it], _, _, dropH H2 it, rfl, inv_drop I3 e3, turnT t s2.heap.objs.size it, ⟨⟨.none, isE⟩, (itT_get I3 e2), hne⟩, fun b hb => ?_, q _ (drop_same h0 sm)⟩
    rcases List.mem_cons.mp hb with z | z
    · rw [z]
      exact I2.fpOk (Nat.le_refl _) (by
        rw [dropH_ne hne]
        exact I2.hok.fresh (Nat.le_refl _))
    · rw [List.mem_singleton.mp z]
      exact inv_fp I3 e2 hn
end
/-- the turns of an enumerate -/
theorem for_enum {G : Hp → List V → Prop} {xs : List V} {g : TG} {tb : TS} {D : Ends} {ρ : L2.St} {G0 : Hp} (P : Nat → L2.St → Hp → Prop) (first : P 0 ρ G0) (still : ∀ i σ H, i ≤ xs.length → P i σ H → G H xs)
    (step : ∀ i x T σ H H', xs[i]? = some x → P i σ H → H T = none → Same H H' → H' T = some (.tup [.int (i : Nat), x]) → g (.ref T) σ H' fun σ2 H2 => tb { D with nx := P (i + 1), ct := P (i + 1), bk := D.nx } σ2 H2) (last : ∀ σ H, P xs.length σ H → D.nx σ H) :
    ∃ W : Nat → Nat → L2.St → Hp → Prop, (∃ m, W 0 m ρ G0) ∧ ∀ i m σ H, W i m σ H → ((IteG G).stop i H ∧ D.nx σ H) ∨ ((IteG G).go i H ∧ ∃ N : L2.St → Hp → Prop, (∀ σ' H', N σ' H' → ∃ m', m' < m ∧ W (i + 1) m' σ' H') ∧
      ∀ x H', (IteG G).yld i H x H' → g x σ H' fun σ2 H2 => tb { D with nx := N, ct := N, bk := D.nx } σ2 H2) := by
  refine ⟨fun i m σ H => m = xs.length - i ∧ i ≤ xs.length ∧ P i σ H, ⟨_, rfl, Nat.zero_le _, first⟩, ?_⟩
  rintro i m σ H ⟨rfl, hi, p⟩
  have gx := still i σ H hi p
  rcases Nat.lt_or_ge i xs.length with lt | ge
  · refine .inr ⟨⟨xs, xs[i], gx, List.getElem?_eq_getElem lt⟩, P (i + 1), fun σ' H' p' => ⟨_, Nat.sub_succ_lt_self _ _ lt, rfl, lt, p'⟩, fun x H' ⟨T, y, ex, hT, eH, hy⟩ => ?_⟩
    subst ex eH
    exact step i y T σ H _ (hy xs gx) p hT (same_new hT) upd_same
  · have e : i = xs.length := Nat.le_antisymm hi ge
    subst e
    exact .inl ⟨⟨xs, gx, rfl⟩, last σ H p⟩
end Tw
/-! Tw: repr of any data, get of a written dict, isinstance against a tuple of classes, tuples of the written part, the hook with tables. -/
namespace Tw
open PySem PySem.Spec PyProof.Rows L2 He
section
variable {X : Cx}
/-- repr(x), x any data -/
def rReprV (K : PySem.W.Frag) : List V → Hp → VK → Prop := fun xs H Q => ∃ (v : V) (d : PyData), xs = [v] ∧ Dx K H v d ∧ mild d = true ∧ d.depth ≤ 64 ∧ cap d ≤ 16777216 ∧ Q (.str d.shown) H
theorem call_reprV (hG : NoG X.A) (hu : X.A.units + 70 < cLine) : CallR X (.builtin "repr") (rReprV X.K) := by
  intro pins s σ H xs us Q I r h
  obtain ⟨v, d, rfl, hd, hm, hdp, hc, q⟩ := h
  have hl := Nat.le_trans (shown_le d hm) (show cap d ≤ sizeLine by rw [sizeLine_eq]; exact hc)
  cases v with
  | ref a => exact call_repr hG hu pins s σ H _ us Q I r ⟨a, d, rfl, hd, hm, hdp, hc, q⟩
  | non =>
    cases hd
    obtain ⟨u, rfl, ru⟩ := vals1 r
    cases ru
    exact PySem.P.repr_of_none ⟨.str _, H, I.tok _, ⟨_, rfl⟩, by simpa only [PyData.shown] using q⟩
  | bl b =>
    cases hd
    obtain ⟨u, rfl, ru⟩ := vals1 r
    cases ru
    exact PySem.P.repr_of_bool ⟨.str _, H, I.tok _, ⟨_, rfl⟩, by simpa only [PyData.shown] using q⟩
  | int i =>
    cases hd
    obtain ⟨u, rfl, t, rfl⟩ := vals1 r
    exact PySem.P.repr_of_int (by simpa [mild] using hm) ⟨.str _, H, I.tok _, ⟨_, rfl⟩, by simpa only [PyData.shown] using q⟩
  | str x =>
    cases hd
    obtain ⟨u, rfl, t, rfl⟩ := vals1 r
    exact PySem.P.repr_of_str ⟨.str _, H, I.tok _, ⟨_, rfl⟩, by simpa only [PyData.shown] using q⟩ (by simpa only [PyData.shown] using hl)
  | _ => cases hd
/-- isinstance(x, (C, D, ..)), x anything that is known, errors too -/
def rIsAT (K : PySem.W.Frag) : List V → Hp → VK → Prop := fun xs H Q => ∃ (x : V) (tp : Addr) (cs : List V) (t : Value) (us : List Value) (b : Bool), xs = [x, .ref tp] ∧ H tp = some (.tup cs) ∧ Paired ClsV cs us ∧
  (TyX K H x t ∨ ∃ (a C : Addr) (d : Addr) (fs : List (Str × V)), x = .ref a ∧ t = .ref C ∧ IsX H a C (some d) ∧ IsXd H d fs ∧ XC K C ∧ XO K) ∧ PySem.W.kitAny K t us = some b ∧ Q (.bl b) H
theorem call_isAT : CallR X (.builtin "isinstance") (rIsAT X.K) := by
  intro pins s σ H xs us Q I r h
  obtain ⟨x, tp, cs, t, ws, b, rfl, hT, k, ty, e, q⟩ := h
  obtain ⟨u1, u2, rfl, r1, r2⟩ := vals2 r
  cases (show u2 = Value.ref tp from r2)
  obtain ⟨_, its, rv, o, h1, h2, n, h3⟩ := (show ObjOk X.prog X.w H s.heap tp (.tup cs) from I.hok tp _ hT)
  have e3 := ClsV.all k rv
  subst e3
  obtain ⟨oc, od, dt, sl⟩ := o
  simp only at h2 h3
  subst h2 h3
  rcases ty with ty | ⟨a, C, d, fs, rfl, rfl, ia, idd, T, O⟩
  · obtain ⟨P, Z, p, hx⟩ := kit_of I r1 ty
    exact PySem.W.kia_tup Z I.kIn p h1 e hx fun tk => ⟨.bl b, H, I.tok tk, rfl, q⟩
  · cases (show u1 = Value.ref a from r1)
    obtain ⟨oe, vs, ho, hz, hdt⟩ := ia.get I.hok
    obtain ⟨mA, hns, hr⟩ := idd.get I.hok
    obtain ⟨od, hod, hlk⟩ := lookIn_ns hns
    have J : PySem.W.InstAt s.heap a oe C (some od) := ⟨ho, hz.1, by unfold PySem.W.notCls; rw [hdt] <;> rfl, by rw [hz.2]; exact hod⟩
    exact PySem.W.kia_tup (PySem.W.kitx_exc (od := some od) (oexC_cl T.ox) T.ga T.gg T.ox.exC T.ca O.hn O.ht T.cm) I.kIn J h1 e (fun z => nomatch z) fun tk => ⟨.bl b, H, I.tok tk, rfl, q⟩
end
/-- d.get(y, x), d a dict of the top with text keys -/
def tKGet2 (K : PySem.W.Frag) (d : Addr) (td ty tx : TE) : TE := fun σ H Q => td σ H fun x H1 => x = .ref d ∧ ty σ H1 fun y H2 => ∃ z, y = .str z ∧ tx σ H2 fun q H3 => ∃ (r : Option Value) (v : V), PySem.W.nsIn K d z = some r ∧ (∀ u, RelV q u → RelV v (r.getD u)) ∧ Q v H3
section
variable {X : Cx} {o e f : Expr} {apos cpos : Pos} {td ty tx : TE} {d : Addr} {es : Array DictEntry} {n : Nat}
theorem pe_kget2 (D : KDict X.K X.w d es n) (ho : PE X o td) (he : PE X e ty) (hf : PE X f tx) (m : M2 X o "get" apos e f cpos) : PE X (.Call (.Attribute o "get" apos) [e, f] [] cpos) (tKGet2 X.K d td ty tx) := by
  refine ⟨fun pins s σ H Q I h => ?_⟩
  refine wpAny_Call_method m.base m.few m.line PySem.F.plainAttrs_dict PySem.F.slot_dict_get PySem.F.type_dict_get (thn (ho.run pins s σ H _ I h) fun u s1 ⟨x, H1, I1, rx, ex, q1⟩ => ?_)
  subst ex
  obtain rfl : u = Value.ref d := rx
  refine ⟨kd_type D I1, fun b q => by cases q; exact ⟨_, I1.kIn _ _ D.at_, rfl⟩, ?_⟩
  rw [m.trees]
  refine Calls.callWith_builtin rfl (Calls.evalArgs_plain (Calls.spliced_cons (thn (he.run pins s1 σ H1 _ I1 q1) fun iv s2 ⟨y, H2, I2, ry, z, ez, q2⟩ =>
    Calls.spliced_cons (thn (hf.run pins s2 σ H2 _ I2 q2) fun fv s3 ⟨q, H3, I3, rq, r, v, er, hv, q3⟩ => Calls.spliced_nil ?_))))
  subst ez
  obtain ⟨t, rfl⟩ := ry
  refine call_meetsIn PySem.F.slot_dict_get (kd_type D I3) PySem.F.entry_dict_get (PySem.F.args_dict_get_3 _ _ _) (meets_dict_get_default (PySem.strKind X.prog X.w) d (PySem.strKind_is X.prog X.w z t) D.low fv) ⟨_, PySem.W.mapOf_K (prog := X.prog) I3.kIn D.at_ D.lit, ?_⟩
  rw [PySem.W.find_K D.at_ er]
  exact ⟨v, H3, I3.tok _, hv _ rq, q3⟩
end
/-! ### tuples of the written part -/
def tupB (K : Fg) (a : Addr) (vs : List V) : Bool := match K.lookup a with
  | some ⟨.type t, _, .seq its _, _⟩ => decide (t = "tuple") && (decide (its.size ≤ 1000) && relAll vs its.toList)
  | _ => false
theorem tupB_ok {K : Fg} {a : Addr} {vs : List V} (h : tupB K a vs = true) (H : Hp) : SqT K H a vs := by
  unfold tupB at h
  cases e : K.lookup a with
  | none =>
    rw [e] at h
    cases h
  | some o =>
    rw [e] at h
    obtain ⟨oc, od, dt, sl⟩ := o
    cases oc with
    | type t =>
      cases dt with
      | seq its n =>
        obtain ⟨h1, h⟩ := ba h
        obtain ⟨h2, h3⟩ := ba h
        have e1 := of_decide_eq_true h1
        subst e1
        exact .inr ⟨_, its, n, e, rfl, rfl, Nat.le_trans (of_decide_eq_true h2) (by decide), relAll_ok h3⟩
      | _ => cases h
    | _ => cases h
/-- C.f, a constant read off the class -/
def cvalB (K : Fg) (C : Addr) (f : Str) (v : V) : Bool := match PySem.W.findCls K (.ref C) (.type "type") f with
  | some (.val u) => relB v u
  | _ => false
theorem cvalB_ok {K : Fg} {C : Addr} {f : Str} {v : V} (h : cvalB K C f v = true) : ∃ u, ClX.CVal K C (.type "type") f v u := by
  unfold cvalB at h
  split at h
  · rename_i u e
    exact ⟨u, e, relB_ok h⟩
  · cases h
def creadB (K : Fg) (C : Addr) : Bool := PySem.W.readsIn K C (.type "type") && eqO (PySem.W.specialIn K (.ref C) "__getattribute__") (some (some (.builtin "type.__getattribute__")))
theorem creadB_ok {K : Fg} {C : Addr} (h : creadB K C = true) : ClX.CRead K C (.type "type") := by
  obtain ⟨h1, h2⟩ := ba h
  exact ⟨h1, eqO_ok h2⟩
/-! ### the hook with tables -/
abbrev AlYT : Type := AlD × List (Option (List (Option (Str × Int))))
def obsYT (fs : Fz) (fn : List DefD) (ts : List Tab) (K : Fg) : AlYT := (obsY fs fn K, ts.map fun t => dicW K (t.1 K))
def valYT (fn : List DefD) (ts : List Tab) (w : World) : AlYT := (valD fn, ts.map fun t => some (keysIn w.params t.2))
def obsYTG (n : Nat) (fs : Fz) (fn : List DefD) (ts : List Tab) (g : Addr → Option Obj) : AlYT := obsYT fs fn ts (frG g (asD g n ++ [cStatics]))
def SaysYT (fs : Fz) (fn : List DefD) (ts : List Tab) (w : World) (K : Fg) : Prop := obsYT fs fn ts K = valYT fn ts w
def hookYT (n : Nat) (fs : Fz) (fn : List DefD) (ts : List Tab) : PySem.W.Hook where
  α := AlYT
  obs := fun s => obsYTG n fs fn ts s.heap.get?
  val := fun w => valYT fn ts w
  says := fun w h => ∃ K : Fg, K.In h ∧ SaysYT fs fn ts w K
  of := fun _ _ e => ⟨_, frG_in, e⟩
  keeps := fun _ _ _ ⟨K, hK, c⟩ k => ⟨K, PySem.W.Frag.In.keeps hK k, c⟩
theorem obsYTG_eq {n : Nat} {fs : Fz} {fn : List DefD} {ts : List Tab} {g : Addr → Option Obj} {s : Shared} (h : ∀ a, g a = s.heap.get? a) : obsYTG n fs fn ts g = (hookYT n fs fn ts).obs s := by
  have e : g = s.heap.get? := funext h
  rw [e] <;> rfl
section
variable {fs : Fz} {fn : List DefD} {ts : List Tab} {w : World} {K : Fg}
theorem SaysYT.y (c : SaysYT fs fn ts w K) : SaysY fs fn K := congrArg (fun z : AlYT => z.1) c
theorem SaysYT.tab (c : SaysYT fs fn ts w K) (i : Nat) {t : Tab} (h : ts[i]? = some t := by rfl) : ∃ es n, KDict K w (t.1 K) es n := by
  have e : ts.map (fun t => dicW K (t.1 K)) = ts.map fun t => some (keysIn w.params t.2) := congrArg (fun z : AlYT => z.2) c
  have e2 : (ts.map fun t => dicW K (t.1 K))[i]? = (ts.map fun t => some (keysIn w.params t.2))[i]? := by rw [e]
  rw [List.getElem?_map, List.getElem?_map, h] at e2
  exact dicW_ok (Option.some.inj e2)
end
/-! ### small texts -/
/-- signs below 128, at most n -/
def Small (n : Nat) (z : Str) : Prop := z.length ≤ n ∧ ∀ c ∈ z.cps.toList, c < 128
theorem Small.app {m n : Nat} {x y : Str} (hx : Small m x) (hy : Small n y) : Small (m + n) (x ++ y) := by
  refine ⟨by rw [Str.length_append]; exact Nat.add_le_add hx.1 hy.1, fun c hc => ?_⟩
  rw [show (x ++ y).cps.toList = TL.tl (x ++ y) from rfl, TL.tl_append] at hc
  rcases List.mem_append.mp hc with q | q
  · exact hx.2 c q
  · exact hy.2 c q
theorem Small.cut {n : Nat} {x : Str} (hx : Small n x) (lo hi : Option Int) : Small n (cutS x lo hi) := by
  refine ⟨Nat.le_trans (cutS_length x lo hi) hx.1, fun c hc => hx.2 c ?_⟩
  unfold cutS at hc
  exact List.mem_of_mem_drop (List.mem_of_mem_take (by simpa using hc))
theorem Small.mono {m n : Nat} {x : Str} (hx : Small m x) (h : m ≤ n) : Small n x := ⟨Nat.le_trans hx.1 h, hx.2⟩
theorem Small.mild {n : Nat} {x : Str} (hx : Small n x) : Tw.mild (.str x) = true := by
  unfold Tw.mild
  rw [List.all_eq_true]
  exact fun c hc => decide_eq_true (Nat.lt_trans (hx.2 c hc) (by decide))
def smallB (n : Nat) (z : Str) : Bool := decide (z.length ≤ n) && z.cps.toList.all fun c => decide (c < 128)
theorem smallB_ok {n : Nat} {z : Str} (h : smallB n z = true) : Small n z := by
  obtain ⟨h1, h2⟩ := ba h
  exact ⟨of_decide_eq_true h1, fun c hc => of_decide_eq_true (List.all_eq_true.mp h2 c hc)⟩
theorem Small.strOk {n : Nat} {z : Str} (h : Small n z) : PyData.strOk z = true := by
  unfold PyData.strOk
  rw [← Array.all_toList, List.all_eq_true]
  exact fun c hc => decide_eq_true (Nat.lt_trans (h.2 c hc) (by decide))
/-! ### lists of texts -/
theorem dxStrs {K : PySem.W.Frag} {H : Hp} : ∀ zs : List Str, DxAll K H (zs.map V.str) (zs.map PyData.str)
  | [] => .nil
  | z :: zs => .cons (.str z) (dxStrs zs)
theorem dxBools {K : PySem.W.Frag} {H : Hp} : ∀ zs : List Bool, DxAll K H (zs.map V.bl) (zs.map PyData.bool)
  | [] => .nil
  | z :: zs => .cons (.bl z) (dxBools zs)
theorem dpStrs {K : PySem.W.Frag} {H : Hp} : ∀ zs : List Str, DpAll K H (zs.map V.str) (zs.map PyData.str)
  | [] => .nil
  | z :: zs => .cons (.str z) (dpStrs zs)
theorem mildStrs {n : Nat} : ∀ zs : List Str, (∀ z ∈ zs, Small n z) → mildAll (zs.map .str) = true ∧ capAll (zs.map .str) ≤ (12 * n + 100) * zs.length
  | [], _ => ⟨rfl, Nat.le_refl _⟩
  | z :: zs, h => by
    obtain ⟨h1, h2⟩ := mildStrs zs fun y hy => h y (List.mem_cons_of_mem _ hy)
    have h3 := h z List.mem_cons_self
    constructor
    · simp only [List.map_cons, mildAll, h3.mild, h1, Bool.and_self]
    · simp only [List.map_cons, capAll, List.length_cons]
      have h4 : cap (.str z) ≤ 12 * n + 90 := by
        have := h3.1
        simp only [cap]
        omega
      rw [Nat.mul_add]
      omega
theorem depthStrs : ∀ zs : List Str, PyData.depthAll (zs.map PyData.str) = 0
  | [] => rfl
  | z :: zs => by simp only [List.map_cons, PyData.depthAll, PyData.depth, depthStrs zs, Nat.max_self]
/-- what repr asks of a list of small texts -/
theorem reprStrs {n : Nat} (zs : List Str) (h : ∀ z ∈ zs, Small n z) (hn : n ≤ 1000) (hz : zs.length ≤ 1000) : mild (.list (zs.map .str)) = true ∧ (PyData.list (zs.map .str)).depth ≤ 64 ∧ cap (.list (zs.map .str)) ≤ 16777216 := by
  obtain ⟨h1, h2⟩ := mildStrs zs h
  have h3 : (12 * n + 100) * zs.length ≤ 12100 * 1000 := Nat.mul_le_mul (by omega) hz
  refine ⟨by simpa [mild] using h1, by simp only [PyData.depth, depthStrs]; decide, ?_⟩
  simp only [cap]
  omega
end Tw
/-! ### the defs of a text, by their number -/
namespace Tw
open PySem PySem.Spec PyProof.Rows L2 He
abbrev DefsAt (fn : List DefD) (K : Fg) (fd : Nat → FuncData) : Prop := ∀ (i : Nat) (d : DefD), fn[i]? = some d → FunD K d.name d.qual d.params d.body d.scope (d.dvs K) (d.kws K) (fAd K d.at_) (fd i)
theorem SaysY.defs {fs : Fz} {fn : List DefD} {K : Fg} (c : SaysY fs fn K) {d0 : DefD} (h0 : fn[0]? = some d0) : ∃ fd : Nat → FuncData, DefsAt fn K fd := by
  obtain ⟨u0, _⟩ := c.def_ 0 h0
  have h : ∀ i : Nat, ∃ u : FuncData, ∀ d : DefD, fn[i]? = some d → FunD K d.name d.qual d.params d.body d.scope (d.dvs K) (d.kws K) (fAd K d.at_) u := fun i => by
    cases e : fn[i]? with
    | none => exact ⟨u0, fun d z => nomatch z⟩
    | some d =>
      obtain ⟨u, hu⟩ := c.def_ i e
      exact ⟨u, fun d' z => by
        cases z
        exact hu⟩
  exact ⟨fun i => Classical.choose (h i), fun i d e => Classical.choose_spec (h i) d e⟩
/-- what the walk asks of the written part and of the module's names -/
structure TxtB (fs : Fz) (fn : List DefD) (K : Fg) (mg : Str → Option Value) : Prop where
  c : SaysY fs fn K
  gl : ∀ x, (Fa.glo x).ok K = true → mg x = some (.ref (ga K x))
  fr : ∀ x, (Fa.free x).ok K = true → mg x = none
  nt : ∀ x i, (Fa.int x i).ok K = true → ∃ t, mg x = some (.int i t)
  tx : ∀ x z, (Fa.str x z).ok K = true → ∃ t, mg x = some (.str z t)
end Tw
namespace Tw
open PySem PySem.Spec PyProof.Rows L2 He
/-! ### errors of one field -/
/-- C.__init__ that stores one value -/
def spIni (C : Addr) (f : Str) : Sp := fun vs H Q _ => ∃ (a : Addr) (v : V), vs = [.ref a, v] ∧ H a = some (exo a C none) ∧ ∀ (d : Addr) (H' : Hp), H d = none → d ≠ a → H' a = some (exo a C (some d)) → H' d = some (exd d [(f, v)]) → But a H H' → Q .non H'
theorem bad_out {H : Hp} {C : Addr} {f : Str} {v : V} {Q : XK} {E : XK} (k : ∀ (d : Addr) (H' : Hp), Same H H' → H' d = some (.xd [(f, v)]) → Q (.ref C) (some d) H') :
    ([v] : List V).length ≤ 1000 ∧ ∀ a, H a = none → spIni C f (.ref a :: (([v] : List V) ++ [])) (upd H a (exo a C none)) (fun v H2 => v = .non ∧ ∃ (d : Addr) (fs : List (Str × V)), H2 a = some (exo a C (some d)) ∧ H2 d = some (exd d fs) ∧ H d = none ∧ Q (.ref C) (some d) (upd (del H2 a) d (.xd fs))) E := by
  refine ⟨(by show 1 ≤ 1000; decide), fun a ha => ⟨a, v, rfl, upd_same, fun d H' hd hda e1 e2 e3 => ?_⟩⟩
  rw [upd_ne hda] at hd
  refine ⟨rfl, d, _, e1, e2, hd, k d _ (fun b o hb => ?_) upd_same⟩
  have hba : b ≠ a := ne_of_none hb ha
  rw [upd_ne (ne_of_none hb hd), del_ne hba]
  exact e3 b o (by rw [upd_ne hba]; exact hb) hba
theorem same_but {H H1 H2 : Hp} {a : Addr} (s : Same H H1) (b : But a H1 H2) (h : H a = none) : Same H H2 := fun c o e => b c o (s c o e) (ne_of_none e h)
theorem same_made {H : Hp} {a dx : Addr} {o u : HO} (hd : H dx = none) (ha : H a = none) (hda : dx ≠ a) : Same H (upd (upd H dx o) a u) := (same_new hd).trans (same_new (by rw [upd_ne hda.symm]; exact ha))
theorem atI_gen {α : Type} {xs : List α} {i : Int} {v : α} (h0 : 0 ≤ i) (h : xs[i.toNat]? = some v) : atI xs i = some v := by
  have e : i = (i.toNat : Int) := (Int.toNat_of_nonneg h0).symm
  rw [e]
  exact atI_nat h
theorem dec_i {i j : Int} : decide (V.int i = V.int j) = decide (i = j) := by
  by_cases h : i = j
  · rw [h]
    simp
  · rw [decide_eq_false h, decide_eq_false fun z => h (V.int.inj z)]
theorem dec_s {i j : Str} : decide (V.str i = V.str j) = decide (i = j) := by
  by_cases h : i = j
  · rw [h]
    simp
  · rw [decide_eq_false h, decide_eq_false fun z => h (V.str.inj z)]
theorem inStrs (z : Str) : ∀ zs : List Str, inV (.str z) (zs.map V.str) = decide (z ∈ zs)
  | [] => rfl
  | y :: ys => by
    have ih := inStrs z ys
    unfold inV at ih ⊢
    rw [List.map_cons, List.any_cons, ih]
    show ((y == z) || _) = _
    by_cases h : y = z
    · subst h
      simp
    · rw [beq_eq_false_iff_ne.mpr h, Bool.false_or]
      exact decide_eq_decide.2 ⟨fun q => List.mem_cons_of_mem _ q, fun q => (List.mem_cons.mp q).resolve_left fun e => h e.symm⟩
theorem flatStrs : ∀ zs : List Str, (zs.map V.str).all flatV = true
  | [] => rfl
  | _ :: zs => by
    rw [List.map_cons, List.all_cons, flatStrs zs]
    rfl
end Tw
/-! Tw: own operators: x + y of one class, x * 3, 3 * x, -x, x += y. -/
namespace Tw
open PySem PySem.Spec PyProof.Rows L2 He
/-- the class at C answers to name by the def at f -/
structure OwnB (K : PySem.W.Frag) (C : Addr) (name : Str) (f : Addr) : Prop where
  self1 : PySem.W.selfFirst K C = true
  at_ : PySem.W.findIn K (.ref C) name = some (some (.ref f))
  fn : PySem.W.isFn K (.ref f) = true
def ownB (K : PySem.W.Frag) (x m : Str) : Bool := PySem.W.selfFirst K (ga K x) && (eqO (PySem.W.findIn K (.ref (ga K x)) m) (some (some (.ref (ma K (ga K x) m)))) && PySem.W.isFn K (.ref (ma K (ga K x) m)))
theorem ownB_ok {K : PySem.W.Frag} {x m : Str} (h : ownB K x m = true) : OwnB K (ga K x) m (ma K (ga K x) m) := by
  obtain ⟨h1, h⟩ := ba h
  obtain ⟨h2, h3⟩ := ba h
  exact ⟨h1, eqO_ok h2, h3⟩
section
variable {X : Cx} {CX : CXT} {k : Nat} {f C : Addr} {fd : FuncData} {ps : List Str} {sp : Sp} {E : XK} {op : Operator} {T : String}
/-- x op y, both of the class at C -/
def rBinOwn (C : Addr) (sp : Sp) (E : XK) : R2 := fun x y H Q => ∃ (a b dx dy : Addr) (fs gs : List (Str × V)), x = .ref a ∧ y = .ref b ∧ H a = some (.ins C dx fs) ∧ H b = some (.ins C dy gs) ∧ sp [x, y] H Q E
theorem op_binOwn (c : OwnB X.K C (PySem.dunder op.info.2) f) (F : FnOk X.prog X.w X.K X.mg X.base CX k f fd ps sp) (hr : Room k X.A) (hb : Binds X.K fd ps []) (hx : Passes CX X E) : OpR X (binaryOp op) (rBinOwn C sp E) := by
  intro pins s σ H x y v u Q I rx ry h
  obtain ⟨a, b, dx, dy, fs, gs, rfl, rfl, ea, eb, q⟩ := h
  cases (show v = Value.ref a from rx)
  cases (show u = Value.ref b from ry)
  obtain ⟨od, ox, J⟩ := inst_at I ea
  obtain ⟨od2, oy, J2⟩ := inst_at I eb
  obtain ⟨m, fr⟩ := I.fr
  refine PySem.W.binop_K fr I.ok.mod.kin J J2.type c.self1 c.at_ c.fn ?_
  refine wpAny_mono (run_fn (dvs := []) (ds := []) (us := [.ref a, .ref b]) (vs := [.ref a, .ref b]) F hr hb .nil hx I (.cons rfl (.cons rfl .nil)) q) (fun w s' z => ?_) fun _ _ x => x
  obtain ⟨z', H', I', rz, qz⟩ := z
  exact SlX.cmpback rz ⟨z', H', I', rz, qz⟩
/-- what is asked of a built-in class beside it -/
structure BinT (K : PySem.W.Frag) (C : Addr) (op : Operator) (T : String) : Prop where
  l : ∃ fo, PySem.W.findIn K (.type T) (PySem.dunder op.info.2) = some fo
  r : ∃ ro, PySem.W.findIn K (.type T) (PySem.dunderR op.info.2) = some ro
  sub : PySem.W.subIn K (.type T) (.ref C) = some false
  rc : ∃ rc, PySem.W.findIn K (.ref C) (PySem.dunderR op.info.2) = some rc ∧ (rc = none ∨ ∃ g : Addr, rc = some (.ref g))
def refOrNone : Option (Option Value) → Bool
  | some none => true
  | some (some (.ref _)) => true
  | _ => false
theorem refOrNone_ok {o : Option (Option Value)} (h : refOrNone o = true) : ∃ rc, o = some rc ∧ (rc = none ∨ ∃ g : Addr, rc = some (.ref g)) := by
  unfold refOrNone at h
  split at h
  · exact ⟨_, rfl, .inl rfl⟩
  · rename_i g
    exact ⟨_, rfl, .inr ⟨g, rfl⟩⟩
  · cases h
def binTB (K : PySem.W.Frag) (x : Str) (op : Operator) (T : String) : Bool := (PySem.W.findIn K (.type T) (PySem.dunder op.info.2)).isSome && ((PySem.W.findIn K (.type T) (PySem.dunderR op.info.2)).isSome && (decide (PySem.W.subIn K (.type T) (.ref (ga K x)) = some false) && refOrNone (PySem.W.findIn K (.ref (ga K x)) (PySem.dunderR op.info.2))))
theorem binTB_ok {K : PySem.W.Frag} {x : Str} {op : Operator} {T : String} (h : binTB K x op T = true) : BinT K (ga K x) op T := by
  obtain ⟨h1, h⟩ := ba h
  obtain ⟨h2, h⟩ := ba h
  obtain ⟨h3, h4⟩ := ba h
  exact ⟨Option.isSome_iff_exists.mp h1, Option.isSome_iff_exists.mp h2, of_decide_eq_true h3, refOrNone_ok h4⟩
/-- y is a value of the built-in class T -/
def ofT (H : Hp) (y : V) (T : String) : Prop := match y with
  | .int _ => T = "int"
  | .bl _ => T = "bool"
  | .str _ => T = "str"
  | _ => False
theorem ofT_type {H : Hp} {y : V} {u : Value} (r : RelV y u) (h : ofT H y T) : typeOf u = pure (.type T) := by
  cases y with
  | int i =>
    obtain ⟨t, rfl⟩ := r
    cases (show T = "int" from h)
    rfl
  | bl b =>
    cases (show u = Value.bool b from r)
    cases (show T = "bool" from h)
    rfl
  | str z =>
    obtain ⟨t, rfl⟩ := r
    cases (show T = "str" from h)
    rfl
  | _ => exact h.elim
/-- x op y, x of the class at C, y a number or a text -/
def rBinT (C : Addr) (T : String) (sp : Sp) (E : XK) : R2 := fun x y H Q => ∃ (a dx : Addr) (fs : List (Str × V)), x = .ref a ∧ H a = some (.ins C dx fs) ∧ ofT H y T ∧ sp [x, y] H Q E
theorem op_binT (c : OwnB X.K C (PySem.dunder op.info.2) f) (t : BinT X.K C op T) (F : FnOk X.prog X.w X.K X.mg X.base CX k f fd ps sp) (hr : Room k X.A) (hb : Binds X.K fd ps []) (hx : Passes CX X E) : OpR X (binaryOp op) (rBinT C T sp E) := by
  intro pins s σ H x y v u Q I rx ry h
  obtain ⟨a, dx, fs, rfl, ea, ht, q⟩ := h
  cases (show v = Value.ref a from rx)
  obtain ⟨od, ox, J⟩ := inst_at I ea
  obtain ⟨m, fr⟩ := I.fr
  obtain ⟨fo, h1⟩ := t.l
  obtain ⟨ro, h2⟩ := t.r
  obtain ⟨rc, h3, h4⟩ := t.rc
  refine PySem.W.ksp_binT fr I.ok.mod.kin J (ofT_type ry ht) c.self1 c.at_ c.fn h3 h4 h1 h2 t.sub ?_
  refine wpAny_mono (run_fn (dvs := []) (ds := []) (us := [.ref a, u]) (vs := [.ref a, y]) F hr hb .nil hx I (.cons rfl (.cons ry .nil)) q) (fun w s' z => ?_) fun _ _ x => x
  obtain ⟨z', H', I', rz, qz⟩ := z
  exact SlX.cmpback rz ⟨z', H', I', rz, qz⟩
/-- -x -/
def rNegOwn (C : Addr) (sp : Sp) (E : XK) : V → Hp → VK → Prop := fun x H Q => ∃ (a dx : Addr) (fs : List (Str × V)), x = .ref a ∧ H a = some (.ins C dx fs) ∧ sp [x] H Q E
theorem un_negOwn (c : OwnB X.K C "__neg__" f) (F : FnOk X.prog X.w X.K X.mg X.base CX k f fd ps sp) (hr : Room k X.A) (hb : Binds X.K fd ps []) (hx : Passes CX X E) : UnR X (unaryOp .USub) (rNegOwn C sp E) := by
  intro pins s σ H x v Q I rx h
  obtain ⟨a, dx, fs, rfl, ea, q⟩ := h
  cases (show v = Value.ref a from rx)
  obtain ⟨od, ox, J⟩ := inst_at I ea
  obtain ⟨m, fr⟩ := I.fr
  refine PySem.W.ksp_neg fr I.ok.mod.kin J c.at_ c.fn ?_
  exact run_fn (dvs := []) (ds := []) (us := [.ref a]) (vs := [.ref a]) F hr hb .nil hx I (.cons rfl .nil) q
/-- x op= y by an own in-place method -/
def rInOwn (C : Addr) (sp : Sp) (E : XK) : R2 := fun x y H Q => ∃ (a dx : Addr) (fs : List (Str × V)), x = .ref a ∧ H a = some (.ins C dx fs) ∧ sp [x, y] H Q E
theorem in_own (c : OwnB X.K C (PySem.dunderI op.info.2) f) (F : FnOk X.prog X.w X.K X.mg X.base CX k f fd ps sp) (hr : Room k X.A) (hb : Binds X.K fd ps []) (hx : Passes CX X E) : OpR X (inplaceOp op) (rInOwn C sp E) := by
  intro pins s σ H x y v u Q I rx ry h
  obtain ⟨a, dx, fs, rfl, ea, q⟩ := h
  cases (show v = Value.ref a from rx)
  obtain ⟨od, ox, J⟩ := inst_at I ea
  obtain ⟨m, fr⟩ := I.fr
  refine PySem.W.ksp_inplace fr I.ok.mod.kin J c.self1 c.at_ c.fn ?_
  refine wpAny_mono (run_fn (dvs := []) (ds := []) (us := [.ref a, u]) (vs := [.ref a, y]) F hr hb .nil hx I (.cons rfl (.cons ry .nil)) q) (fun w s' z => ?_) fun _ _ x => x
  obtain ⟨z', H', I', rz, qz⟩ := z
  exact SlX.cmpback rz ⟨z', H', I', rz, qz⟩
end
end Tw
namespace Tw
open PySem PySem.Spec PyProof.Rows L2 He
/-! ### a staticmethod called by its class -/
structure CSta (K : PySem.W.Frag) (C : Addr) (m : Str) (p g : Addr) : Prop where
  at_ : PySem.W.findCls K (.ref C) (.type "type") m = some (.get (.builtin "staticmethod.__get__") (.ref p) .none (.ref C))
  rc : ∃ rest, PySem.W.recIn K p "staticmethod" = some (.ref g :: rest)
  kp : PySem.W.keepIn K (.ref g) = true
/-- the def behind the record of C.m -/
def rcAt (K : PySem.W.Frag) (x m T : Str) : Addr := match PySem.W.recIn K (ma K (ga K x) m) T.toString with
  | some (.ref g :: _) => g
  | _ => 0
def cstaB (K : PySem.W.Frag) (x m : Str) : Bool := (match PySem.W.findCls K (.ref (ga K x)) (.type "type") m with
  | some (.get (.builtin b) (.ref p) .none (.ref C)) => decide (b = "staticmethod.__get__") && (decide (p = ma K (ga K x) m) && decide (C = ga K x))
  | _ => false) && ((match PySem.W.recIn K (ma K (ga K x) m) "staticmethod" with
  | some (.ref g :: _) => decide (g = rcAt K x m "staticmethod")
  | _ => false) && PySem.W.keepIn K (.ref (rcAt K x m "staticmethod")))
theorem cstaB_ok {K : PySem.W.Frag} {x m : Str} (h : cstaB K x m = true) : CSta K (ga K x) m (ma K (ga K x) m) (rcAt K x m "staticmethod") := by
  obtain ⟨h1, h⟩ := ba h
  obtain ⟨h2, h3⟩ := ba h
  refine ⟨?_, ?_, h3⟩
  · split at h1
    · rename_i b p C e
      obtain ⟨a1, a⟩ := ba h1
      obtain ⟨a2, a3⟩ := ba a
      rw [e, of_decide_eq_true a1, of_decide_eq_true a2, of_decide_eq_true a3]
    · cases h1
  · split at h2
    · rename_i g rest e
      exact ⟨rest, by rw [e, of_decide_eq_true h2]⟩
    · cases h2
section
variable {X : Cx} {CX : CXT} {k : Nat} {C p g : Addr} {fd : FuncData} {ps : List Str} {sp : Sp} {dvs : List V} {ds : List Value} {E : XK} {o e : Expr} {es : List Expr} {m : Str} {pos apos : Pos} {ta : TE} {t : TA} {pl : Sem Bool}
theorem typ_of {K : PySem.W.Frag} {mc : Value} (h : PySem.W.readsIn K C mc = true) : PySem.W.typeIn K (.ref C) = some mc := by
  simp only [PySem.W.readsIn, Bool.and_eq_true, beq_iff_eq] at h
  exact h.1.1.1.2
theorem pe_smeth (he : PE X o ta) (r : ClX.CRead X.K C (.type "type")) (c : CSta X.K C m p g) (F : FnOk X.prog X.w X.K X.mg X.base CX k g fd ps sp) (hr : Room k X.A) (hb : Binds X.K fd ps ds) (hd : Vals dvs ds) (hx : Passes CX X E) (ha : PA X (e :: es) t)
    (hst : starEach (e :: es) X.env = (false, eval e X.env) :: starEach es X.env := by rfl) (hpl : (backTo pos (starEach es X.env)).any (·.1) = false := by rfl)
    (ht : eval (.Call (.Attribute o m apos) (e :: es) [] pos) X.env = (do
      let ov ← eval o X.env
      standAt apos.atName
      let (f, first) ← holding [ov] (getMethod ov m pl)
      callWith pos f first (backTo pos (starEach (e :: es) X.env)) (backToKw pos (keywordEach [] X.env))) := by rfl) :
    PE X (.Call (.Attribute o m apos) (e :: es) [] pos) (fun σ H Q => ta σ H fun x H1 => x = .ref C ∧ t σ H1 fun vs H2 => sp (vs ++ dvs) H2 Q E) := by
  refine ⟨fun pins s σ H Q I h => ?_⟩
  refine PySem.W.methodCall_KW (pl := pl) (thn (he.run pins s σ H _ I h) fun u s1 ⟨x, H1, I1, rx, ex, q⟩ => ?_) ht
  subst ex
  obtain rfl : u = Value.ref C := rx
  obtain ⟨m', fr⟩ := I1.fr
  obtain ⟨rest, hp⟩ := c.rc
  refine PySem.W.method_cls I1.kIn r.ga (PySem.W.cls_sm fr I1.ok.mod.kin (typ_of r.rd) r.rd c.at_ hp rfl ?_)
  have I2 := I1.tok (s1.toks + 1)
  exact PySem.W.callWith_K (h₀ := X.base) I2.ok.mod.kin c.kp (thn (ha.run pos pins _ σ H1 _ I2 q) fun us s3 ⟨vs, H2, I3, rv, q2⟩ => ⟨I3.kIn, run_fn F hr hb hd hx I3 rv q2⟩) hst hpl
end
end Tw
/-! Tw: a staticmethod called within try; == of two lists of one and the same thing; slices and == within a comprehension. -/
namespace Tw
open PySem PySem.Spec PyProof.Rows L2 He
section
variable {X : Cx} {CX : CXT} {k : Nat} {C m' p g : Addr} {fd : FuncData} {ps : List Str} {sp : Sp} {E : L2.St → XK} {m : Str} {o e : Expr} {es : List Expr} {pos apos : Pos} {ta : TE} {t : TA}
theorem pe_smethS {pl : Sem Bool} (he : PE X o ta) (r : ClX.CRead X.K C (.type "type")) (c : CSta X.K C m p g) (F : FnOk X.prog X.w X.K X.mg X.base CX k g fd ps sp) (hr : Room k X.A) (hb : Binds X.K fd ps []) (hx : ∀ σ, PassesAt CX X σ (E σ)) (ha : PA X (e :: es) t)
    (hst : starEach (e :: es) X.env = (false, eval e X.env) :: starEach es X.env := by rfl) (hpl : (backTo pos (starEach es X.env)).any (·.1) = false := by rfl)
    (ht : eval (.Call (.Attribute o m apos) (e :: es) [] pos) X.env = (do
      let ov ← eval o X.env
      standAt apos.atName
      let (f, first) ← holding [ov] (getMethod ov m pl)
      callWith pos f first (backTo pos (starEach (e :: es) X.env)) (backToKw pos (keywordEach [] X.env))) := by rfl) :
    PE X (.Call (.Attribute o m apos) (e :: es) [] pos) (fun σ H Q => ta σ H fun x H1 => x = .ref C ∧ t σ H1 fun vs H2 => sp vs H2 Q (E σ)) := by
  refine ⟨fun pins s σ H Q I h => ?_⟩
  refine PySem.W.methodCall_KW (pl := pl) (thn (he.run pins s σ H _ I h) fun u s1 ⟨x, H1, I1, rx, ex, q⟩ => ?_) ht
  subst ex
  obtain rfl : u = Value.ref C := rx
  obtain ⟨m', fr⟩ := I1.fr
  obtain ⟨rest, hp⟩ := c.rc
  refine PySem.W.method_cls I1.kIn r.ga (PySem.W.cls_sm fr I1.ok.mod.kin (typ_of r.rd) r.rd c.at_ hp rfl ?_)
  have I2 := I1.tok (s1.toks + 1)
  exact PySem.W.callWith_K (h₀ := X.base) I2.ok.mod.kin c.kp (thn (ha.run pos pins _ σ H1 _ I2 q) fun us s3 ⟨vs, H2, I3, rv, q2⟩ => ⟨I3.kIn, L2.run_fnS F hr hb (hx σ) I3 rv q2⟩) hst hpl
end
section
variable {X : Cx}
/-- xs == ys: data, or two lists of one and the same object -/
def rEqSame (K : PySem.W.Frag) : R2 := fun x y H Q => rEqD K x y H Q ∨ ∃ a b c : Addr, x = .ref a ∧ y = .ref b ∧ H a = some (.lst [.ref c]) ∧ H b = some (.lst [.ref c]) ∧ Q (.bl true) H
theorem op_eqSame (hu : X.A.units + 64 < cLine) : OpR X (compareOp .Eq) (rEqSame X.K) := by
  intro pins s σ H x y v u Q I rx ry h
  rcases h with h | ⟨a, b, c, rfl, rfl, ha, hb, q⟩
  · exact op_eqD hu pins s σ H x y v u Q I rx ry h
  · obtain rfl : v = Value.ref a := rx
    obtain rfl : u = Value.ref b := ry
    obtain ⟨i1, r1, p1, _⟩ := I.list (SqL.of ha)
    obtain ⟨i2, r2, p2, _⟩ := I.list (SqL.of hb)
    obtain ⟨u1, rfl, e1⟩ := vals1 r1
    obtain ⟨u2, rfl, e2⟩ := vals1 r2
    cases (show u1 = Value.ref c from e1)
    cases (show u2 = Value.ref c from e2)
    refine SeqAt.eq_listAt (e := fun _ => true) p1.isList p2.isList rfl (by omega) (fun j h1 h2 => ?_) ?_
    · have e : j = 0 := by
        have : j < 1 := h1
        omega
      subst e
      exact SeqAt.EqAt.same _
    · exact ⟨.bl true, H, I, rfl, q⟩
end
theorem eqDK {X : Cx} (K : PySem.W.Frag) (hu : X.A.units + 64 < cLine) (h : X.K = K := by rfl) : OpR X (compareOp .Eq) (rEqD K) := by
  subst h
  exact op_eqD hu
/-- a[lo:hi] of a list, the new list in an abstract heap -/
def rSlN (K : PySem.W.Frag) : V → Option Int → Option Int → Hp → VK → Prop := fun x lo hi H Q => ∃ a xs, x = .ref a ∧ SqL K H a xs ∧ ∀ (p : Addr) (H' : Hp), H p = none → Same H H' → H' p = some (.lst (cutV xs lo hi)) → Q (.ref p) H'
theorem sl_listN {X : Cx} : SlR X (rSlN X.K) := by
  intro pins s σ H x v vl vu lo hi sl Q I rx hs pl pu h
  obtain ⟨a, xs, ex, hx, q⟩ := h
  exact sl_list pins s σ H x v vl vu lo hi sl Q I rx hs pl pu ⟨a, xs, ex, hx, fun p hp => q p _ hp (same_new hp) upd_same⟩
theorem slK {X : Cx} (K : PySem.W.Frag) (h : X.K = K := by rfl) : SlR X (rSlN K) := by
  subst h
  exact sl_listN
theorem But.free {p q : Addr} {H H' : Hp} (B : But p H H') (h : H' q = none) (hq : q ≠ p) : H q = none := by
  cases e : H q with
  | none => rfl
  | some o =>
    have z := B q o e hq
    rw [h] at z
    cases z
end Tw
/-! Tw: 3 * x, x of an own class. -/
namespace Tw
open PySem PySem.Spec PyProof.Rows L2 He
theorem int_mul_inst (a : Int) (t : Tok) (y : Addr) (ox : Obj) (hd : ox.data = .plain) :
    Meets (Builtin.«int.__mul__» ⟨[.int a t, .ref y], []⟩) (fun _ R s => s.heap.get? y = some ox ∧ R (.ok (.ret Value.notImplemented)) s) :=
  .of_wp fun prog w A R s h => by
    obtain ⟨hp, g, d, tk, os⟩ := s
    obtain ⟨hl, h⟩ := h
    obtain ⟨oc, od, dt, sl⟩ := ox
    cases hd
    wp_walk
    exact ⟨_, rfl, h⟩
theorem int_mul_dec {prog : Program} {w : World} {A : Around} {E : Value → Shared → Prop} {s : Shared} {a : Int} {t : Tok} {y : Addr} {oy : Obj} {Q : Value → Shared → Prop} (J : s.heap.get? y = some oy) (hd : oy.data = .plain) (h : Q .notImplemented s) :
    wpAny (model prog w) A (call (.builtin "int.__mul__") [.int a t, .ref y]) Q E s := by
  refine call_meets (T := "int") (name := PySem.dunder "mul") (id := "int.__mul__") (self := .int a t) (rest := [.ref y]) F.slot_int_mul (typeIs_int s a t) F.entry_int_mul (F.args_int_mul_2 (.int a t) (.ref y)) (int_mul_inst a t y oy hd) ?_
  exact ⟨J, h⟩
theorem int_try {prog : Program} {w : World} {A : Around} {E : Value → Shared → Prop} {s : Shared} {a : Int} {t : Tok} {y : Addr} (nm : Str) (sl : Slot "int" nm "int.__mul__")
    (h0 : wpAny (model prog w) A (call (.builtin "int.__mul__") [.int a t, .ref y]) (fun v s' => v = .notImplemented ∧ (none : Option Value) = none ∧ s' = s) E s) :
    wpAny (model prog w) A (tryMethod (.int a t) nm (.ref y)) (fun r s' => r = none ∧ s' = s) E s := by
  exact wpAny_tryMethod_declines (T := "int") (id := "int.__mul__") (Q := fun r s' => r = none ∧ s' = s) (typeIs_int s a t) sl h0
open PySem.W in
theorem bin_reflI {prog : Program} {w : World} {A : Around} {E : Value → Shared → Prop} {s : Shared} {K : Frag} {y C f f0 : Addr} {oy : Obj} {od : Option Obj} {a : Int} {t : Tok} {ro : Option Value} {Q : Value → Shared → Prop}
    (Y : K.In s.heap) (J : InstAt s.heap y oy C od) (hd : oy.data = .plain) (c : OwnB K C (PySem.dunderR "mul") f) (hm0 : findIn K (.ref C) (PySem.dunder "mul") = some (some (.ref f0)))
    (h2 : findIn K (.type "int") (PySem.dunderR "mul") = some ro) (hsub : subIn K (.ref C) (.type "int") = some false)
    (h : wpAny (model prog w) A (call (.ref f) [.ref y, .int a t]) (PySem.W.CmpBack Q) E s) : wpAny (model prog w) A (binaryOp .Mult (.int a t) (.ref y)) Q E s := by
  obtain ⟨cd, rest, hcd, hm⟩ := ksp_first c.self1
  have one := ksp_try Y J c.at_ c.fn h
  have dec : wpAny (model prog w) A (tryMethod (.int a t) (PySem.dunder "mul") (.ref y)) (fun r s' => r = none ∧ s' = s) E s := int_try (PySem.dunder "mul") F.slot_int_mul (int_mul_dec J.1 hd ⟨rfl, rfl, rfl⟩)
  obtain ⟨hh, g, d, tt, os⟩ := s
  have L1 : Looks (model prog w) hh (typeOf (.ref y)) (.ref C) := J.type
  have L2 : Looks (model prog w) hh (typeOf (.int a t)) (.type "int") := Looks.of_pure rfl
  have L3 : Looks (model prog w) hh (fillsNumberSlot (.ref C) "mul") true := fills_K Y hcd hm hm0
  have L4 : Looks (model prog w) hh (fillsNumberSlot (.type "int") "mul") true := Looks.of_pure F.fills_int_mul
  have L5 : Looks (model prog w) hh (isSubtype (.ref C) (.type "int")) false := looks_subIn Y hsub
  have L7 : Looks (model prog w) hh (numberSlotInPython (.type "int") "mul") false := Looks.of_pure rfl
  have hne : (Value.type "int" == Value.ref C) = false := Bool.eq_false_iff.mpr fun q => by cases beq_iff_eq.mp q
  have hi : Operator.Mult.info = ("*", "mul") := rfl
  simp only [binaryOp, hi]
  refine wpAny_holding (wpAny_bind ?_)
  unfold binaryOp1
  refine wpAny_bind (L2.at (wpAny_bind (L1.at (wpAny_bind (L4.at ?_)))))
  simp only [hne, Bool.false_eq_true, if_false]
  ksp_lk
  refine wpAny_mono dec (fun r s' hr' => ?_) fun _ _ e => e
  obtain ⟨rfl, rfl⟩ := hr'
  ksp_lk
  refine wpAny_mono one (fun r s' hr' => ?_) fun _ _ e => e
  obtain ⟨v, rfl, hq⟩ := hr'
  ksp_lk
  exact hq

section
variable {X : Cx} {CX : CXT} {k : Nat} {f C : Addr} {fd : FuncData} {ps : List Str} {sp : Sp} {E : XK}
/-- 3 * x -/
def rBinRI (C : Addr) (sp : Sp) (E : XK) : R2 := fun x y H Q => ∃ (i : Int) (a dx : Addr) (fs : List (Str × V)), x = .int i ∧ y = .ref a ∧ H a = some (.ins C dx fs) ∧ sp [y, x] H Q E
theorem op_binRI {f0 : Addr} (c : OwnB X.K C (PySem.dunderR "mul") f) (c0 : OwnB X.K C (PySem.dunder "mul") f0) (t : BinT X.K C .Mult "int") (hsub : PySem.W.subIn X.K (.ref C) (.type "int") = some false)
    (F : FnOk X.prog X.w X.K X.mg X.base CX k f fd ps sp) (hr : Room k X.A) (hb : Binds X.K fd ps []) (hx : Passes CX X E) : OpR X (binaryOp .Mult) (rBinRI C sp E) := by
  intro pins s σ H x y v u Q I rx ry h
  obtain ⟨i, a, dx, fs, rfl, rfl, ea, q⟩ := h
  cases (show u = Value.ref a from ry)
  obtain ⟨tk, rfl⟩ := rx
  obtain ⟨ox, od, J, hd⟩ := StX.insC_at I (C := C) (.inr ⟨dx, fs, ea⟩)
  obtain ⟨ro, h2⟩ := t.r
  refine bin_reflI I.kIn J hd c c0.at_ h2 hsub ?_
  refine wpAny_mono (run_fn (dvs := []) (ds := []) (us := [.ref a, .int i tk]) (vs := [.ref a, .int i]) F hr hb .nil hx I (.cons rfl (.cons ⟨tk, rfl⟩ .nil)) q) (fun w s' z => ?_) fun _ _ x => x
  obtain ⟨z', H', I', rz, qz⟩ := z
  exact SlX.cmpback rz ⟨z', H', I', rz, qz⟩
end
end Tw
/-! Tw: lambdas: a try whose clause knows how many names there are; the head's hook with tables of code objects. -/
namespace Tw
open PySem PySem.Spec PyProof.Rows L2 He
/-- what the clause wishes: its error stands tracked behind the suite -/
def wAsL (K : PySem.W.Frag) (c : Value) (i : Nat) (ts : Addr → Value → Option Addr → TS) (Wout : WX) (n : Nat) (D : Ends) : WX := fun cls d σ H => σ.length = n →
  ∃ (C : Addr) (b : Bool), cls = .ref C ∧ PySem.W.exmOne K cls c = some b ∧ (b = true → ∀ a, H a = none → ts a cls d { nx := fun σ' H' => D.nx (σ'.set i none) (upd H' a (exT a C d)), rt := D.rt, bk := fun σ' H' => D.bk (σ'.set i none) H', ct := fun σ' H' => D.ct (σ'.set i none) H' } (σ.set i (some (.ref a))) H) ∧
    (b = false → Wout cls d σ H)
section
variable {X : Cx} {x n : Str} {c : Value} {i : Nat} {body suite : List Stmt} {b₀ : Stmt} {np pos pos' : Pos} {tb : WX → TS} {ts : Addr → Value → Option Addr → TS} {Wout : WX}
theorem ps_tryL (hex : X.ex = []) (hs : X.stack = X.env :: X.outer) (hf : X.env.frame = some X.env.locals) (hN : X.N.Nodup) (hi : X.N[i]? = some n) (hln : X.env.kindOf n = some .local) (hc : Names X x c) (tk : Takes X Wout)
    (hb : ∀ (W : WX) (pn : List (Addr × Obj)) (xe : Value → Shared → Prop), Takes (X.tr pn xe) W → PassesOwn (model X.prog X.w) X.A X.env xe → PSs (X.tr pn xe) body (tb W))
    (hsu : ∀ (a : Addr) (oe : Obj) (cls : Value) (d : Option Addr) (pn : List (Addr × Obj)), Zc cls d oe → (∃ vs, oe.data = .fields vs) → PSs (X.suite a ((a, oe) :: pn)) (b₀ :: suite) (ts a cls d)) :
    PS X (.Try body [.ExceptHandler (some (.Name x np)) (some n) (b₀ :: suite) pos'] [] [] pos) (fun D σ H => tb (wAsL X.K c i ts Wout X.N.length D) D σ H) := by
  refine ⟨fun pins s σ H D I h => ?_⟩
  have ok := I.ok
  have hfr : X.A.frames = some (X.env :: X.outer) := by rw [ok.frames, hs]
  have hloc : Loc X.env.scope n := .inl hln
  refine wpAny_Try_except ?_
  refine wpAny_mono ((hb (wAsL X.K c i ts Wout X.N.length D) (X.pn ++ pins) (fun e s₁ => wpAny (model X.prog X.w) X.A (noteFrame e X.env) (fun _ s₂ => wpAny (model X.prog X.w) X.A (setFlight e none) (fun _ s₃ =>
    wpAny (model X.prog X.w) X.A (handleBy e X.env [.ExceptHandler (some (.Name x np)) (some n) (b₀ :: suite) pos']) (SP X pins D) X.xe s₃) X.xe s₂) X.xe s₁) (fun u s' xx => ?_) PassesOwn.looking).run [] s σ H D (I.toTry _) h) (fun f s1 hsp => ?_) (fun e s1 he => he)
  · obtain ⟨a, B, sI, pins', σ', H', cls, d, rfl, J', nb, up, sky, na, os, ag, hw⟩ := xx
    obtain ⟨C, b, hcls, hb1, hyes, hno⟩ := hw J'.len
    have J : Inv X pins σ' H' sI := J'.ofTry ok
    have sky' : Sky B (X.env :: X.outer) a (Zc cls d) X.env.locals s'.heap := by rw [← hs]; exact sky
    show wpAny (model X.prog X.w) X.A (noteFrame (.ref a) X.env) _ _ _
    refine Sky.land Zc.steady hfr hf sky' fun h3 fl3 up3 => ?_
    have J3 : Inv X pins σ' H' { s' with heap := h3 } := J.landed nb fl3.1 (up.trans up3) os ag
    obtain ⟨oe3, vs3, he3, hz3, hd3⟩ := fl3.there
    have notFr : ∀ {h : Heap} {o : Obj} {vs : Array Value}, h.FunFrames B (X.env :: X.outer) → h.get? a = some o → o.data = .fields vs → a ∉ frs (X.env :: X.outer) := fun {h o vs} ff e dd hm => by
      obtain ⟨_, o', e', hnf⟩ := ff.mem hm
      rw [e] at e'
      cases e'
      exact hnf _ dd
    have nfr := notFr fl3.2.2.1 he3 hd3
    have nL : a ≠ X.env.locals := fun z => nfr (List.mem_filterMap.mpr ⟨X.env, List.mem_cons_self, by rw [hf, z]⟩)
    have nF : a ∉ X.fs := fun hm => by
      obtain ⟨e, he, q⟩ := List.mem_filterMap.mp hm
      exact nfr (List.mem_filterMap.mpr ⟨e, List.mem_cons_of_mem _ he, q⟩)
    -- the error is new to this def
    have nI : sI.heap.get? a = none := by
      cases e : sI.heap.get? a with
      | none => rfl
      | some o =>
        have z := nb a o e (by rw [hs]; exact nfr)
        have z2 : B.get? a = none := fl3.2.1
        rw [z2] at z
        cases z
    have n0 : X.s_0.heap.get? a = none := by
      cases e : X.s_0.heap.get? a with
      | none => rfl
      | some o =>
        obtain ⟨o', z⟩ := J.base.there a o e (by rw [hex]; exact fun z => nomatch z)
        rw [nI] at z
        cases z
    have npin : ∀ p ∈ X.pn ++ pins, p.1 ≠ a := fun p hp z => by
      obtain ⟨e, _⟩ := J.pin p hp
      rw [z, nI] at e
      cases e
    have S3 := J3.suite he3 hd3 na nL nF
    refine wpAny_handleBy_cons (codeAny_handlers_test ?_) (by intro q; cases q)
    have LT : PySem.W.Looks (model X.prog X.w) h3 (typeOf (.ref a)) cls := fun A Q E s k q => wpAny_typeOf_ref (k _ _ he3) (by rw [hz3.1]; exact q)
    have LM := PySem.W.exm_one (M := model X.prog X.w) (J3.kIn) LT hb1
    have test : ∀ {Q : Value → Shared → Prop} {E : Value → Shared → Prop}, Q c { s' with heap := h3 } → wpAny (model X.prog X.w) (X.A.mark (some (.ref a))) (eval (.Name x np) X.env) Q E { s' with heap := h3 } := fun {Q E} q => by
      obtain ⟨hg, hdbg, hm | ⟨hm, hv, hnn⟩⟩ := hc
      · exact ld_glob (X := X.suite a ((a, oe3) :: (X.pn ++ pins))) S3 hg hm q hdbg
      · exact ld_blt (X := X.suite a ((a, oe3) :: (X.pn ++ pins))) S3 hg hm hv q hnn hdbg
    refine test (LM.here ?_)
    cases b with
    | true =>
      refine codeAny_handlers_suite_as ?_
      refine HandSPX.lands_againZ fl3 fun h4 fl4 up4 => ?_
      have J4 : Inv X pins σ' H' { s' with heap := h4 } := J.landed nb fl4.1 ((up.trans up3).trans up4) os ag
      obtain ⟨oe4, vs4, he4, hz4, hd4⟩ := fl4.there
      have S4 := J4.suite he4 hd4 na nL nF
      refine store_ok (X := X.suite a ((a, oe4) :: (X.pn ++ pins))) (v := .ref a) S4 hN hi hloc rfl (fun s5 S5 => ?_) (.inr hln)
      refine wpAny_mono ((hsu a oe4 cls d (X.pn ++ pins) hz4 ⟨_, hd4⟩).run [] s5 _ H' _ S5 (hyes rfl a na)) (fun f s6 hsp => ?_) (fun _ _ z => False.elim z)
      have end_ : ∀ {σ6 : L2.St} {H6 : Hp} {Q : Shared → Prop}, Inv (X.suite a ((a, oe4) :: (X.pn ++ pins))) [] σ6 H6 s6 → (∀ s7, Inv X ((a, oe4) :: pins) (σ6.set i none) H6 s7 → Q s7) →
          wpAny (model X.prog X.w) X.A (do bindName X.env n .none; unbindBehindTheSuite X.env n pos') (fun _ s7 => Q s7) X.xe s6 := fun {σ6 H6 Q} S6 hq => by
        have J6 : Inv X ((a, oe4) :: pins) σ6 H6 s6 := (S6.unsuite ok).pins_of fun p hp => S6.pin p (List.mem_append_left _ (by
          rcases List.mem_cons.mp hp with z | z
          · exact List.mem_cons.mpr (.inl z)
          · exact List.mem_cons_of_mem _ (List.mem_append_right _ z)))
        exact gone_ok J6 hN hi hln hq
      have drop : ∀ {σ7 : L2.St} {H7 : Hp} {s7 : Shared}, Inv X ((a, oe4) :: pins) σ7 H7 s7 → Inv X pins σ7 H7 s7 := fun J7 => J7.pins_of fun p hp => J7.pin p (List.mem_append_right _ (List.mem_cons_of_mem _ hp))
      subst hcls
      cases f with
      | next =>
        obtain ⟨σ6, H6, S6, q6⟩ := hsp
        exact end_ S6 fun s7 J7 => ⟨_, _, track J7 n0 npin hz4 hd4, q6⟩
      | brk =>
        obtain ⟨σ6, H6, S6, q6⟩ := hsp
        exact end_ S6 fun s7 J7 => ⟨_, _, drop J7, q6⟩
      | cont =>
        obtain ⟨σ6, H6, S6, q6⟩ := hsp
        exact end_ S6 fun s7 J7 => ⟨_, _, drop J7, q6⟩
      | ret u =>
        obtain ⟨v6, σ6, H6, S6, r6, q6⟩ := hsp
        exact end_ S6 fun s7 J7 => ⟨_, _, _, drop J7, r6, q6⟩
    | false =>
      show wpAny _ X.A (handleBy (.ref a) X.env []) _ _ _
      refine wpAny_handleBy_nil ?_
      obtain ⟨k1, k2, k3, oe, vs, T, oT, ts', he, hz, hd, h1, hr⟩ := id fl3
      unfold PySem.passOn
      refine wpAny_bind (wpAny_field he hd h1 ?_)
      rw [if_neg (show ¬ ((Value.ref T == Value.none) = true) from by simp)]
      have fin : wpAny (model X.prog X.w) X.A (setFlight (.ref a) X.env.frame) (fun _ s4 => wpAny (model X.prog X.w) X.A (throw (.ref a) : Sem Flow) (SP X pins D) X.xe s4) X.xe { s' with heap := h3 } := by
        rw [hf]
        refine HandSPX.setFlight_upZ fl3 fun h4 hh4 up4 => wpAny_throw (tk _ _ ?_)
        exact ⟨a, B, sI, pins, σ', H', cls, d, rfl, J, nb, (up.trans up3).trans up4, .inr (.inr (by rw [hs]; exact hh4)), na, os, ag, hno rfl⟩
      first
        | exact wpAny_bind (wpAny_pure (wpAny_bind fin))
        | exact wpAny_bind fin
  · cases f with
    | next =>
      obtain ⟨σ', H', J', q⟩ := hsp
      exact wpAny_execs_nil ⟨σ', H', J'.ofTry ok, q⟩
    | brk =>
      obtain ⟨σ', H', J', q⟩ := hsp
      exact ⟨σ', H', J'.ofTry ok, q⟩
    | cont =>
      obtain ⟨σ', H', J', q⟩ := hsp
      exact ⟨σ', H', J'.ofTry ok, q⟩
    | ret u =>
      obtain ⟨v, σ', H', J', r, q⟩ := hsp
      exact ⟨v, σ', H', J'.ofTry ok, r, q⟩
end

/-! ### the hook with empty tables of code objects -/
def codeAt (K : Fg) (f : Addr) : Addr := match K.lookup f with
  | some ⟨_, _, .func fd, _⟩ => (match fd.code with
    | .ref c => c
    | _ => 0)
  | _ => 0
def tabAt (K : Fg) (f : Addr) : Addr := match K.lookup (codeAt K f) with
  | some ⟨_, _, .fields vs, _⟩ => (match (vs[11]? : Option Value) with
    | some (.ref P) => P
    | _ => 0)
  | _ => 0
def isTab : Option Obj → Bool
  | some ⟨.none, none, .fields vs, sl⟩ => vs.isEmpty && sl.isEmpty
  | _ => false
theorem isTab_ok {o : Option Obj} (h : isTab o = true) : o = some { cls := .none, data := .fields #[] } := by
  unfold isTab at h
  split at h
  · rename_i vs sl
    obtain ⟨h1, h2⟩ := ba h
    have e1 : vs = #[] := by simpa using h1
    have e2 : sl = #[] := by simpa using h2
    rw [e1, e2]
  · cases h
/-- the def at f: its code object and the table of it -/
def tabB (K : Fg) (f : Addr) : Bool := PySem.W.codeHdIn K (codeAt K f) (tabAt K f) && (K.lookup (tabAt K f)).isNone
abbrev AlL : Type := AlD × List Bool
def obsL (n : Nat) (fs : Fz) (fn : List DefD) (ls : List (Fg → Addr)) (g : Addr → Option Obj) : AlL := (obsYG n fs fn g, ls.map fun f => isTab (g (tabAt (frG g (asD g n)) (f (frG g (asD g n))))))
def hookL (n : Nat) (fs : Fz) (fn : List DefD) (ls : List (Fg → Addr)) : PySem.W.Hook where
  α := AlL
  obs := fun s => obsL n fs fn ls s.heap.get?
  val := fun _ => (valD fn, ls.map fun _ => true)
  says := fun _ h => ∃ K : Fg, K.In h ∧ SaysY fs fn K ∧ ∀ f ∈ ls, isTab (h.get? (tabAt K (f K))) = true
  of := fun _ s e => ⟨_, frG_in, congrArg (fun z : AlL => z.1) e, fun f hf => List.map_inj_left.mp (congrArg (fun z : AlL => z.2) e) f hf⟩
  keeps := fun _ _ _ ⟨K, hK, c, t⟩ k => ⟨K, PySem.W.Frag.In.keeps hK k, c, fun f hf => by
    have e := isTab_ok (t f hf)
    rw [k _ _ e]
    rfl⟩
theorem obsL_eq {n : Nat} {fs : Fz} {fn : List DefD} {ls : List (Fg → Addr)} {g : Addr → Option Obj} {s : Shared} (h : ∀ a, g a = s.heap.get? a) : obsL n fs fn ls g = (hookL n fs fn ls).obs s := by
  have e : g = s.heap.get? := funext h
  rw [e] <;> rfl

/-! ### x[i] = v by an own __setitem__ -/
section
variable {X : Cx} {CX : CXT} {k : Nat} {f C : Addr} {fd : FuncData} {ps : List Str} {sp : Sp} {E : XK}
def setOwn (C : Addr) (sp : Sp) (E : XK) : V → V → V → Hp → (Hp → Prop) → Prop := fun o i v H Q => ∃ (a dx : Addr) (fs : List (Str × V)), o = .ref a ∧ H a = some (.ins C dx fs) ∧ sp [o, i, v] H (fun _ H' => Q H') E
theorem pset_own (hq : PySem.W.noSeq X.K C = true) (hs : PySem.W.findIn X.K (.ref C) "__setitem__" = some (some (.ref f))) (hf : PySem.W.isFn X.K (.ref f) = true) (F : FnOk X.prog X.w X.K X.mg X.base CX k f fd ps sp) (hr : Room k X.A) (hb : Binds X.K fd ps []) (hx : Passes CX X E) : PSet X (setOwn C sp E) := by
  intro pins s σ H o i v ov iv u Q I ro ri rv h
  obtain ⟨a, dx, fs, rfl, ea, q⟩ := h
  cases (show ov = Value.ref a from ro)
  obtain ⟨od, ox, J⟩ := inst_at I ea
  obtain ⟨m, fr⟩ := I.fr
  refine PySem.W.ksp_setItem fr I.ok.mod.kin J hq hs hf ?_
  refine wpAny_mono (run_fn (dvs := []) (ds := []) (us := [.ref a, iv, u]) (vs := [.ref a, i, v]) F hr hb .nil hx I (.cons rfl (.cons ri (.cons rv .nil))) q) (fun w s' z => ?_) fun _ _ x => x
  obtain ⟨z', H', I', rz, qz⟩ := z
  exact ⟨H', I', qz⟩
end
end Tw
/-! Tw: the head's hook with defs at any address (methods behind staticmethod, classmethod, property). -/
namespace Tw
open PySem PySem.Spec PyProof.Rows L2 He
abbrev DefA := He5.DefA
abbrev AlA : Type := (Bool × List FnW) × List (Option (List (Option (Str × Int))))
def obsA (fs : Fz) (fn : List DefA) (ts : List Tab) (K : Fg) : AlA := (((fs.all fun f => f K) && fn.all fun d => d.ok K, fn.map fun d => He5.fnA K (d.at_ K)), ts.map fun t => dicW K (t.1 K))
def valA (fn : List DefA) (ts : List Tab) (w : World) : AlA := ((true, fn.map He5.DefA.val), ts.map fun t => some (keysIn w.params t.2))
def obsAG (n : Nat) (fs : Fz) (fn : List DefA) (ts : List Tab) (g : Addr → Option Obj) : AlA := obsA fs fn ts (frG g (asD g n ++ [cStatics]))
def SaysA (fs : Fz) (fn : List DefA) (ts : List Tab) (w : World) (K : Fg) : Prop := obsA fs fn ts K = valA fn ts w
def hookA (n : Nat) (fs : Fz) (fn : List DefA) (ts : List Tab) : PySem.W.Hook where
  α := AlA
  obs := fun s => obsAG n fs fn ts s.heap.get?
  val := fun w => valA fn ts w
  says := fun w h => ∃ K : Fg, K.In h ∧ SaysA fs fn ts w K
  of := fun _ _ e => ⟨_, frG_in, e⟩
  keeps := fun _ _ _ ⟨K, hK, c⟩ k => ⟨K, PySem.W.Frag.In.keeps hK k, c⟩
theorem obsAG_eq {n : Nat} {fs : Fz} {fn : List DefA} {ts : List Tab} {g : Addr → Option Obj} {s : Shared} (h : ∀ a, g a = s.heap.get? a) : obsAG n fs fn ts g = (hookA n fs fn ts).obs s := by
  have e : g = s.heap.get? := funext h
  rw [e] <;> rfl
abbrev DefsA (fn : List DefA) (K : Fg) (fd : Nat → FuncData) : Prop := ∀ (i : Nat) (d : DefA), fn[i]? = some d → FunD K d.name d.qual d.params d.body d.scope (d.dvs K) (d.kws K) (d.at_ K) (fd i)
section
variable {fs : Fz} {fn : List DefA} {ts : List Tab} {w : World} {K : Fg}
theorem SaysA.fact (c : SaysA fs fn ts w K) (i : Nat) {f : Fg → Bool} (h : fs[i]? = some f) : f K = true := by
  have c1 := (ba (show ((fs.all fun f => f K) && fn.all fun d => d.ok K) = true from congrArg (fun z : AlA => z.1.1) c)).1
  exact List.all_eq_true.mp c1 f (List.mem_of_getElem? h)
theorem SaysA.def_ (c : SaysA fs fn ts w K) (i : Nat) {d : DefA} (h : fn[i]? = some d) : ∃ fd, FunD K d.name d.qual d.params d.body d.scope (d.dvs K) (d.kws K) (d.at_ K) fd := by
  have c2 := (ba (show ((fs.all fun f => f K) && fn.all fun d => d.ok K) = true from congrArg (fun z : AlA => z.1.1) c)).2
  have e : fn.map (fun d => He5.fnA K (d.at_ K)) = fn.map He5.DefA.val := congrArg (fun z : AlA => z.1.2) c
  have e2 : (fn.map fun d => He5.fnA K (d.at_ K))[i]? = (fn.map He5.DefA.val)[i]? := by rw [e]
  rw [List.getElem?_map, List.getElem?_map, h] at e2
  exact He5.DefA.funD (Option.some.inj e2) (List.all_eq_true.mp c2 d (List.mem_of_getElem? h))
theorem SaysA.tab (c : SaysA fs fn ts w K) (i : Nat) {t : Tab} (h : ts[i]? = some t) : ∃ es n, KDict K w (t.1 K) es n := by
  have e : ts.map (fun t => dicW K (t.1 K)) = ts.map fun t => some (keysIn w.params t.2) := congrArg (fun z : AlA => z.2) c
  have e2 : (ts.map fun t => dicW K (t.1 K))[i]? = (ts.map fun t => some (keysIn w.params t.2))[i]? := by rw [e]
  rw [List.getElem?_map, List.getElem?_map, h] at e2
  exact dicW_ok (Option.some.inj e2)
theorem SaysA.defs (c : SaysA fs fn ts w K) {d0 : DefA} (h0 : fn[0]? = some d0) : ∃ fd : Nat → FuncData, DefsA fn K fd := by
  obtain ⟨u0, _⟩ := c.def_ 0 h0
  have h : ∀ i : Nat, ∃ u : FuncData, ∀ d : DefA, fn[i]? = some d → FunD K d.name d.qual d.params d.body d.scope (d.dvs K) (d.kws K) (d.at_ K) u := fun i => by
    cases e : fn[i]? with
    | none => exact ⟨u0, fun d z => nomatch z⟩
    | some d =>
      obtain ⟨u, hu⟩ := c.def_ i e
      exact ⟨u, fun d' z => by
        cases z
        exact hu⟩
  exact ⟨fun i => Classical.choose (h i), fun i d e => Classical.choose_spec (h i) d e⟩
end
/-- what the walk asks of the written part and of the module's names -/
structure TxtA (fs : Fz) (fn : List DefA) (ts : List Tab) (w : World) (K : Fg) (mg : Str → Option Value) : Prop where
  c : SaysA fs fn ts w K
  gl : ∀ x, (Fa.glo x).ok K = true → mg x = some (.ref (ga K x))
  fr : ∀ x, (Fa.free x).ok K = true → mg x = none
  nt : ∀ x i, (Fa.int x i).ok K = true → ∃ t, mg x = some (.int i t)
  tx : ∀ x z, (Fa.str x z).ok K = true → ∃ t, mg x = some (.str z t)
theorem TxtA.fact {fs : Fz} {fn : List DefA} {ts : List Tab} {w : World} {K : Fg} {mg : Str → Option Value} (T : TxtA fs fn ts w K mg) (i : Nat) {f : Fg → Bool} (h : fs[i]? = some f := by rfl) : f K = true := T.c.fact i h
end Tw
/-! Tw: the head's hook for laws with lambdas: defs at any address, the tables of code objects left out of the fragment and told empty. -/
namespace Tw
open PySem PySem.Spec PyProof.Rows L2 He
def obsZ (fs : Fz) (fn : List DefA) (K : Fg) : AlD := ((fs.all fun f => f K) && fn.all fun d => d.ok K, fn.map fun d => He5.fnA K (d.at_ K))
def valZ (fn : List DefA) : AlD := (true, fn.map He5.DefA.val)
def SaysZ (fs : Fz) (fn : List DefA) (K : Fg) : Prop := obsZ fs fn K = valZ fn
section
variable {fs : Fz} {fn : List DefA} {K : Fg}
theorem SaysZ.fact (c : SaysZ fs fn K) (i : Nat) {f : Fg → Bool} (h : fs[i]? = some f := by rfl) : f K = true := by
  obtain ⟨c1, _⟩ := ba (congrArg (fun z : AlD => z.1) (show obsZ fs fn K = valZ fn from c))
  exact of_all (f := fun f : Fg → Bool => f K) c1 (List.mem_of_getElem? h)
theorem SaysZ.def_ (c : SaysZ fs fn K) (i : Nat) {d : DefA} (h : fn[i]? = some d) : ∃ fd, FunD K d.name d.qual d.params d.body d.scope (d.dvs K) (d.kws K) (d.at_ K) fd := by
  obtain ⟨_, c2⟩ := ba (congrArg (fun z : AlD => z.1) (show obsZ fs fn K = valZ fn from c))
  have e2 : fn.map (fun d => He5.fnA K (d.at_ K)) = fn.map He5.DefA.val := congrArg (fun z : AlD => z.2) c
  have e3 := congrArg (fun l : List FnW => l[i]?) e2
  simp only [List.getElem?_map, h, Option.map_some] at e3
  exact He5.DefA.funD (Option.some.inj e3) (of_all (f := fun d : DefA => d.ok K) c2 (List.mem_of_getElem? h))
theorem SaysZ.defs (c : SaysZ fs fn K) {d0 : DefA} (h0 : fn[0]? = some d0) : ∃ fd : Nat → FuncData, DefsA fn K fd := by
  obtain ⟨u0, _⟩ := c.def_ 0 h0
  have h : ∀ i : Nat, ∃ u : FuncData, ∀ d : DefA, fn[i]? = some d → FunD K d.name d.qual d.params d.body d.scope (d.dvs K) (d.kws K) (d.at_ K) u := fun i => by
    by_cases hi : ∃ d, fn[i]? = some d
    · obtain ⟨d, hd⟩ := hi
      obtain ⟨u, hu⟩ := c.def_ i hd
      refine ⟨u, fun d' z => ?_⟩
      rw [hd] at z
      rw [← Option.some.inj z]
      exact hu
    · exact ⟨u0, fun d z => absurd ⟨d, z⟩ hi⟩
  obtain ⟨fd, hf⟩ := Classical.axiomOfChoice h
  exact ⟨fd, fun i d e => hf i d e⟩
end
/-- the written part without the tables of these defs -/
def frZ (n : Nat) (ls : List (Fg → Addr)) (g : Addr → Option Obj) : Fg := frG g ((asD g n ++ [cStatics]).filter fun a => !((ls.map fun f => tabAt (frG g (asD g n)) (f (frG g (asD g n)))).contains a))
def obsZG (n : Nat) (fs : Fz) (fn : List DefA) (ls : List (Fg → Addr)) (g : Addr → Option Obj) : AlL := (obsZ fs fn (frZ n ls g), ls.map fun f => isTab (g (tabAt (frZ n ls g) (f (frZ n ls g)))))
def hookZ (n : Nat) (fs : Fz) (fn : List DefA) (ls : List (Fg → Addr)) : PySem.W.Hook where
  α := AlL
  obs := fun s => obsZG n fs fn ls s.heap.get?
  val := fun _ => (valZ fn, ls.map fun _ => true)
  says := fun _ h => ∃ K : Fg, K.In h ∧ SaysZ fs fn K ∧ ∀ f ∈ ls, isTab (h.get? (tabAt K (f K))) = true
  of := fun _ s e => by
    have e2 : (ls.map fun f => isTab (s.heap.get? (tabAt (frZ n ls s.heap.get?) (f (frZ n ls s.heap.get?))))) = ls.map fun _ => true := congrArg (fun z : AlL => z.2) e
    exact ⟨_, frG_in, congrArg (fun z : AlL => z.1) e, fun f hf => List.map_inj_left.mp e2 f hf⟩
  keeps := fun _ _ _ ⟨K, hK, c, t⟩ k => ⟨K, PySem.W.Frag.In.keeps hK k, c, fun f hf => by
    rw [k _ _ (isTab_ok (t f hf))]
    rfl⟩
theorem obsZG_eq {n : Nat} {fs : Fz} {fn : List DefA} {ls : List (Fg → Addr)} {g : Addr → Option Obj} {s : Shared} (h : ∀ a, g a = s.heap.get? a) : obsZG n fs fn ls g = (hookZ n fs fn ls).obs s := by
  rw [show g = s.heap.get? from funext h]
  rfl
/-- what the walk asks of the written part and of the module's names -/
structure TxtZ (fs : Fz) (fn : List DefA) (K : Fg) (mg : Str → Option Value) : Prop where
  c : SaysZ fs fn K
  gl : ∀ x, (Fa.glo x).ok K = true → mg x = some (.ref (ga K x))
  fr : ∀ x, (Fa.free x).ok K = true → mg x = none
  nt : ∀ x i, (Fa.int x i).ok K = true → ∃ t, mg x = some (.int i t)
  tx : ∀ x z, (Fa.str x z).ok K = true → ∃ t, mg x = some (.str z t)
theorem txtZ {fs : Fz} {fn : List DefA} {K : Fg} {h : Heap} {mg : Str → Option Value} (X : K.In h) (G : h.Ns mainGlobals mg) (c : SaysZ fs fn K) : TxtZ fs fn K mg :=
  ⟨c, fun x hx => He.glo_ok X G hx, fun x hx => He.free_ok X G hx, fun x i hx => He.int_ok X G hx, fun x z hx => He.str_ok X G hx⟩
theorem TxtZ.fact {fs : Fz} {fn : List DefA} {K : Fg} {mg : Str → Option Value} (T : TxtZ fs fn K mg) (i : Nat) {f : Fg → Bool} (h : fs[i]? = some f := by rfl) : f K = true := T.c.fact i h
/-- the code objects and tables of the defs that make lambdas -/
def csZ (ls : List (Fg → Addr)) (K : Fg) : List (Addr × Addr) := ls.map fun f => (Tw.codeAt K (f K), tabAt K (f K))
end Tw
/-! Tw: a lambda as a value (tracked), and sorted(xs, key=lambda x: x.field). -/
namespace Tw
open PySem PySem.Spec PyProof.Rows L2 He LamX
/-- the function object of a lambda stands at f -/
def FunO (f : Addr) (q : Str) (ps : Arguments) (e : Expr) (sc : Scope) (cl : List (Str × Addr)) (c' : Addr) : HO := .ext fun h => ∃ pm ctv : Value, h.get? f = some (PySem.W.kla_obj "<lambda>" q ps e sc cl pm c' ctv)
theorem funO_ne {f c' : Addr} {q : Str} {ps : Arguments} {e : Expr} {sc : Scope} {cl : List (Str × Addr)} (xs : Array Value) : FunO f q ps e sc cl c' ≠ .tbl xs := fun z => by
  unfold FunO at z
  cases z
section
variable {X : Cx} {pins : List (Addr × Obj)} {σ : L2.St} {H : Hp} {s : Shared}
theorem funO_laid {h' : Heap} {tk : Nat} {q : Str} {ps : Arguments} {e : Expr} {sc : Scope} {cl : List (Str × Addr)} {pm ctv : Value} {c' : Addr} (I : Inv X pins σ H s) (k : ∀ b o, s.heap.get? b = some o → h'.get? b = some o) (hp : s.heap.objs.size ≤ h'.objs.size) :
    Inv X pins σ (upd H h'.objs.size (FunO h'.objs.size q ps e sc cl c')) { s with heap := h'.push (PySem.W.kla_obj "<lambda>" q ps e sc cl pm c' ctv), toks := tk } := by
  have hz : (h'.push (PySem.W.kla_obj "<lambda>" q ps e sc cl pm c' ctv)).get? h'.objs.size = some (PySem.W.kla_obj "<lambda>" q ps e sc cl pm c' ctv) := Heap.get?_push_size _ rfl
  refine I.laid (fun b o z => Heap.get?_push_of_some _ (k b o z)) hp ?_
  exact ⟨⟨pm, ctv, hz⟩, ⟨_, hz⟩, fun h1 h2 ⟨pm, ctv, z⟩ st => ⟨pm, ctv, st _ z⟩⟩
/-- a lambda is made: its function object tracked -/
theorem lam_laid {T : List (Addr × Str)} {c P : Addr} {ps : Arguments} {e : Expr} {sc : Scope} {pos : Pos} {E : Value → Shared → Prop} {Q : Value → Shared → Prop} (I : Inv X pins σ H s) (TB : TabB X.base X.mg c P) (hcode : X.env.code = .ref c)
    (hm : (P, X.env.qual ++ "<lambda>") ∈ T) (hu : ∀ p ∈ T, p.1 = P → p.2 = X.env.qual ++ "<lambda>") (hT : Tabs T H) (hdef : defaultsOf ps X.env = ([], [])) (hfree : ∀ y ∈ sc.names, y.2 = .free → ∃ c, X.env.cells.lookup y.1 = some c)
    (h : ∀ (f c' : Addr) (H1 : Hp) (s' : Shared), Inv X pins σ H1 s' → ExtN H H1 → Tabs T H1 → H f = none → H1 f = some (FunO f (X.env.qual ++ "<lambda>") ps e sc (cloFrom X.env.cells sc.names []) c') → H1 c' = some (CodeO c' (X.env.qual ++ "<lambda>")) → Q (.ref f) s') :
    wpAny (model X.prog X.w) X.A (eval (.Lambda ps e sc pos) X.env) Q E s := by
  obtain ⟨tb, hP, ht, ha⟩ := hT _ hm
  have bP : s.heap.BuiltinsAt X.mg P := TB.bm.keeps I.bk
  have hP' := I.hok P _ hP
  have gl : s.heap.Ns mainGlobals X.mg := I.mod.glob.keeps I.bk
  have fin : ∀ {f c' : Addr} {H1 : Hp} {o : HO}, H1 f = none → ExtN H H1 → Tabs T H1 → ExtN H (upd H1 f o) ∧ Tabs T (upd H1 f o) := fun {f c' H1 o} n e t =>
    ⟨e.trans (ExtN.of (same_new n)), t.ext (same_new n)⟩
  refine PySem.W.kla_eval hdef ?_
  cases hc : codeAmong pos tb.toList with
  | none =>
    refine PySem.W.kla_makeFunction (c := c) (P := P) (ps := tb) (closure_ok hfree) I.ok.glob
      gl hcode (TB.code.keeps I.bk) hP' ht hc TB.gP bP fun c' ctv h' tk hx hge hlt hrec htb => ?_
    obtain ⟨c2, oc, vs, t, e2, hoc, hd, hv⟩ := hrec
    cases e2
    have nC : H c' = none := I.hok.fresh hge
    have nP : P ≠ c' := ne_of_none hP nC
    have I1 := inv_table (t' := tk) (more := #[rawInt pos.line, rawInt pos.col, .ref c']) I hP hx htb hge
      ⟨oc, vs, t, hoc, hd, hv⟩
    generalize hH1 : upd (upd H P (.tbl (tb ++ #[rawInt pos.line, rawInt pos.col, .ref c']))) c' (CodeO c' (X.env.qual ++ "<lambda>")) = H1 at I1
    have hE : ExtN H H1 := fun b o z n => by
      have n1 : b ≠ P := fun y => n tb (Option.some.inj (z.symm.trans (by rw [y]; exact hP)))
      rw [← hH1, upd_ne (ne_of_none z nC), upd_ne n1]
      exact z
    have atC : H1 c' = some (CodeO c' (X.env.qual ++ "<lambda>")) := by rw [← hH1, upd_same]
    have atP : H1 P = some (.tbl (tb ++ #[rawInt pos.line, rawInt pos.col, .ref c'])) := by rw [← hH1, upd_ne nP, upd_same]
    have eL : (tb ++ #[rawInt pos.line, rawInt pos.col, .ref c']).toList = tb.toList ++ [rawInt pos.line, rawInt pos.col, .ref c'] := by simp
    have T1 : Tabs T H1 := fun p hp => by
      by_cases hb : p.1 = P
      · rw [hu p hp hb, hb]
        refine ⟨_, atP, by rw [eL]; exact PySem.TriplesOk_snoc _ _ _ _ ht, fun p' cv z => ?_⟩
        rw [eL] at z
        rcases among_app _ ht z with y | y
        · obtain ⟨c0, z1, z2⟩ := ha p' cv y
          exact ⟨c0, z1, hE _ _ z2 codeO_ne⟩
        · exact ⟨c', y, atC⟩
      · obtain ⟨tb', a1, a2, a3⟩ := hT p hp
        refine ⟨tb', ?_, a2, fun p' cv z => ?_⟩
        · rw [← hH1, upd_ne (ne_of_none a1 nC), upd_ne hb]
          exact a1
        · obtain ⟨c0, z1, z2⟩ := a3 p' cv z
          exact ⟨c0, z1, hE _ _ z2 codeO_ne⟩
    have nf : H1 h'.objs.size = none := I1.hok.fresh (Nat.le_refl _)
    obtain ⟨f1, f2⟩ := fin (c' := c') (o := FunO h'.objs.size (X.env.qual ++ "<lambda>") ps e sc (cloFrom X.env.cells sc.names []) c') nf hE T1
    refine h h'.objs.size c' _ _ (funO_laid (s := { s with heap := h', toks := tk }) (tk := tk) I1 (fun _ _ z => z) (Nat.le_refl _)) f1 f2 (I.hok.fresh (Nat.le_trans hge (Nat.le_of_lt hlt))) upd_same ?_
    rw [upd_ne (Nat.ne_of_lt hlt)]
    exact atC
  | some cv =>
    obtain ⟨c', e', hco⟩ := ha pos cv hc
    subst e'
    refine PySem.W.kla_makeFunctionHit (c := c) (P := P) (ps := tb) (closure_ok hfree) I.ok.glob
      gl hcode (TB.code.keeps I.bk) hP' ht hc bP fun ctv h' tk hx hsz => ?_
    have nf : H h'.objs.size = none := I.hok.fresh hsz
    obtain ⟨f1, f2⟩ := fin (c' := c') (o := FunO h'.objs.size (X.env.qual ++ "<lambda>") ps e sc (cloFrom X.env.cells sc.names []) c') nf (ExtN.refl H) hT
    refine h h'.objs.size c' _ _ (funO_laid I hx hsz) f1 f2 nf upd_same ?_
    rw [upd_ne (ne_of_none hco nf)]
    exact hco
/-- what is said of a lambda made -/
def tLamV (T : List (Addr × Str)) (q : Str) (ps : Arguments) (e : Expr) (sc : Scope) (cl : List (Str × Addr)) : TE := fun _ H Q => Tabs T H ∧ ∀ (f c' : Addr) (H1 : Hp), ExtN H H1 → Tabs T H1 → H f = none → H1 f = some (FunO f q ps e sc cl c') → H1 c' = some (CodeO c' q) → Q (.ref f) H1
theorem pe_lambda {T : List (Addr × Str)} {c P : Addr} {ps : Arguments} {e : Expr} {sc : Scope} {pos : Pos} (TB : TabB X.base X.mg c P) (hcode : X.env.code = .ref c)
    (hm : (P, X.env.qual ++ "<lambda>") ∈ T) (hu : ∀ p ∈ T, p.1 = P → p.2 = X.env.qual ++ "<lambda>") (hdef : defaultsOf ps X.env = ([], [])) (hfree : ∀ y ∈ sc.names, y.2 = .free → X.env.scope.names.lookup y.1 = some .cell ∨ X.env.scope.names.lookup y.1 = some .free) :
    PE X (.Lambda ps e sc pos) (tLamV T (X.env.qual ++ "<lambda>") ps e sc (cloFrom X.env.cells sc.names [])) := by
  refine ⟨fun pins s σ H Q I h => ?_⟩
  obtain ⟨hT, h⟩ := h
  refine lam_laid I TB hcode hm hu hT hdef (fun y hy z => (hfree y hy z).elim (fun k => I.ok.has _ (.inl k)) fun k => I.ok.has _ (.inr k)) fun f c' H1 s' I1 e1 t1 n1 f1 c1 => ?_
  exact ⟨.ref f, H1, I1, rfl, h f c' H1 e1 t1 n1 f1 c1⟩
/-- a lambda's parameter and its body: x.fld -/
structure KeyL (sc : Scope) (x : Str) : Prop where
  kind : sc.kind = .function
  co : sc.isCoroutine = false
  gen : sc.isGenerator = false
  own : ∀ y ∈ sc.names, y.2 ≠ .cell
  loc : sc.names.lookup x = some .local
  clo : cloFrom [] sc.names [] = []
theorem key_call {f c' a C dx : Addr} {q x fld : Str} {ps : Arguments} {sc : Scope} {p1 p2 : Pos} {fs : List (Str × V)} {k : Int} {A : Around} (I : Inv X pins σ H s) (hf : H f = some (FunO f q ps (.Attribute (.Name x p1) fld p2) sc [] c')) (hc : H c' = some (CodeO c' q)) (L : KeyL sc x) (hd : A.depth < recursionLimit)
    (hbind : ∀ pm cv ctv u, bindArgs (PySem.W.kla_fn "<lambda>" q ps (.Attribute (.Name x p1) fld p2) sc [] pm cv ctv) ⟨[u], []⟩ = pure [(x, u)]) (hb : ∀ env : Env, attributeBase (.Name x p1) fld env (eval (.Name x p1) env) = eval (.Name x p1) env) (hx : (x == ("__debug__" : Str)) = false)
    (ha : H a = some (.ins C dx fs)) (cl : Cls X.K C) (na : NoAttr X.K C fld) (lk : fs.lookup fld = some (.int k)) (h : Heap) (tk : Nat) (up : ∀ b o, s.heap.get? b = some o → h.get? b = some o) :
    wpAny (model X.prog X.w) A (call (.ref f) [.ref a]) (PySem.W.KeyPure (.int k) { s with heap := h, toks := tk }) (fun _ _ => False) { s with heap := h, toks := tk } := by
  obtain ⟨⟨pm, ctv, hfo⟩, _, _⟩ := I.hok f _ hf
  obtain ⟨⟨oc, vs, t, hoc, hdc, hvc⟩, _, _⟩ := I.hok c' _ hc
  obtain ⟨mA, O, r, _, _, _⟩ := ins_get I.hok ha
  obtain ⟨u, hu, ru⟩ := RelO.some_of (v := .int k) (o := mA fld) (by rw [← lk]; exact r fld)
  obtain ⟨tu, rfl⟩ := ru
  refine wpAny_call (codeAny_mono (R := fun r s' => ∃ v, r = .ok (.ret v) ∧ PySem.W.KeyPure (.int k) { s with heap := h, toks := tk } v s') ?_ fun r s' hq => ?_)
  · refine PySem.W.kla_callFunE hd (up _ _ hfo) rfl L.co L.gen rfl ⟨c', oc, vs, t, rfl, up _ _ hoc, hdc, hvc⟩ ?_
    rw [hbind]
    refine wpAny_pure (wpAny_newFunctionEnv L.own (fun y hy => ?_) (fun h₁ hns hsb => ⟨?_, ?_⟩) L.kind)
    · cases List.mem_singleton.mp hy
      exact L.loc
    · exact ((I.nolimit.keeps up)).fresh _ hsb
    · have kp : ∀ b o, h.get? b = some o → h₁.get? b = some o := fun b o e => (hsb.2 b (Nat.ne_of_lt (Heap.lt_size e))).trans (Heap.get?_push_of_some _ e)
      have kp2 : ∀ b o, s.heap.get? b = some o → h₁.get? b = some o := fun b o e => kp b o (up b o e)
      refine PySem.W.kla_codeExpr (attr_of (hb _) (wpAny_Name (wpAny_loadName_local L.kind L.loc hns (v := .ref a) ?_ ?_) hx))
      · simp
      · refine get_map (K := X.K) (mA := mA) ?_ ⟨kp2 _ _ O.obj, O.ns.at fun o q => kp2 _ _ q, O.ne⟩ (cl.get fld) cl.hd na hu (handed_of (v := .int k) ⟨tu, rfl⟩) ?_
        · exact PySem.W.Frag.In.keeps I.kIn kp2
        · exact ⟨_, rfl, _, _, rfl, kp, .int k tu⟩
  · obtain ⟨v, rfl, hv⟩ := hq
    exact hv
/-- y is an instance whose field is the number k -/
def KeyedAt (K : Fg) (H : Hp) (fld : Str) (y : V) (k : Int) : Prop := ∃ (a C dx : Addr) (fs : List (Str × V)), y = .ref a ∧ H a = some (.ins C dx fs) ∧ Cls K C ∧ NoAttr K C fld ∧ fs.lookup fld = some (.int k)
/-- sorted(xs, key=lambda x: x.fld) -/
def rSortedFld (K : Fg) (x fld q : Str) (ps : Arguments) (sc : Scope) (p1 p2 : Pos) : List V → List V → Hp → VK → Prop := fun vs zs H Q => ∃ (l f c' : Addr) (ys : List V) (ks : List Int), vs = [.ref l] ∧ zs = [.ref f] ∧ SqL K H l ys ∧
  H f = some (FunO f q ps (.Attribute (.Name x p1) fld p2) sc [] c') ∧ H c' = some (CodeO c' q) ∧ Paired (KeyedAt K H fld) ys ks ∧
  ∀ p, H p = none → Q (.ref p) (upd H p (.lst (((ys.zip ks).mergeSort fun a b => decide (a.2 ≤ b.2)).map (·.1))))
theorem zip_each {K : Fg} {H : Hp} {fld : Str} : ∀ {ys : List V} {ks : List Int} {its : List Value}, Vals ys its → Paired (KeyedAt K H fld) ys ks → PySem.W.EachIs (fun (v : Value) (b : V × Int) => RelV b.1 v ∧ KeyedAt K H fld b.1 b.2) its (ys.zip ks)
  | _, _, _, .nil, .nil => .nil
  | _, _, _, .cons r rs, .cons k ks => .cons ⟨r, k⟩ (zip_each rs ks)
theorem vals_each {K : Fg} {H : Hp} {fld : Str} : ∀ {out : List Value} {bs : List (V × Int)}, PySem.W.EachIs (fun (v : Value) (b : V × Int) => RelV b.1 v ∧ KeyedAt K H fld b.1 b.2) out bs → Vals (bs.map (·.1)) out
  | _, _, .nil => .nil
  | _, _, .cons h t => .cons h.1 (vals_each t)
theorem cr_sortedFld {q x fld : Str} {ps : Arguments} {sc : Scope} {p1 p2 : Pos} (hr : Room 1 X.A) (L : KeyL sc x)
    (hbind : ∀ pm cv ctv u, bindArgs (PySem.W.kla_fn "<lambda>" q ps (.Attribute (.Name x p1) fld p2) sc [] pm cv ctv) ⟨[u], []⟩ = pure [(x, u)]) (hb : ∀ env : Env, attributeBase (.Name x p1) fld env (eval (.Name x p1) env) = eval (.Name x p1) env) (hx : (x == ("__debug__" : Str)) = false) :
    CallRK X (.builtin "sorted") [Str.ofString "key"] (rSortedFld X.K x fld q ps sc p1 p2) := by
  intro pins s σ H vs zs us ws Q I r rz h
  obtain ⟨l, f, c', ys, ks, rfl, rfl, hs, hf, hc, pr, qk⟩ := h
  obtain rfl := Vals.ref1 r
  obtain ⟨w1, rfl, e1⟩ := vals1 rz
  obtain rfl : w1 = Value.ref f := e1
  obtain ⟨its, rv, hl, hz⟩ := I.list hs
  have ln : ys.length = ks.length := Paired.length pr
  have lz : (ys.zip ks).length = ys.length := by rw [List.length_zip, ← ln, Nat.min_self]
  refine PySem.W.sorted_key_data (β := V × Int) (b := false) (R := fun v b => RelV b.1 v ∧ KeyedAt X.K H fld b.1 b.2) (vs := its) (bs := ys.zip ks) (fun b => .int b.2) hl.isList (zip_each rv pr)
    (PySem.W.AllAlike.of fun _ _ => by simp [PySem.W.alike]) (PySem.W.Sortable.others fun _ => ⟨(fun z => nomatch z), fun _ z => nomatch z⟩) (by rw [lz]; exact hz) (fun b _ => ?_) (PyProof.Rows.ksk_s1 _ _) (fun _ => PyProof.Rows.ksk_l1 _ _) (fun _ => PyProof.Rows.ksk_t1 _ _) (fun v b hR _ h tk up => ?_) fun out c h' tk up hn hD hlen he => ?_
  · have := hr.un
    show X.A.units + 2 + 0 < cLine
    omega
  · obtain ⟨hv, a, C, dx, fs, e, ha, cl, na, lk⟩ := hR
    rw [e] at hv
    obtain rfl : v = Value.ref a := hv
    refine key_call I hf hc L ?_ hbind hb hx ha cl na lk h tk up
    have := hr.dp
    show X.A.depth < recursionLimit
    omega
  · rw [PySem.W.dataLe_int (fun b : V × Int => b.2)] at he
    have hl2 : (((ys.zip ks).mergeSort fun a b => decide (a.2 ≤ b.2)).map (·.1)).length ≤ sizeLine := by
      rw [List.length_map, List.length_mergeSort, lz]
      exact hz
    exact ⟨.ref _, upd H (s.heap.objs.size + 1) (.lst (((ys.zip ks).mergeSort fun a b => decide (a.2 ≤ b.2)).map (·.1))), I.laid up (Nat.le_succ _) ⟨hl2, out, c, vals_each he, hD⟩, rfl, qk _ (I.hok.fresh (Nat.le_succ _))⟩
end
end Tw
/-! Tw: classmethods: their facts as a Bool, C.m(), cls(e), cls(*e). -/
namespace Tw
open PySem PySem.Spec PyProof.Rows L2 He LamX
/-- the def behind the classmethod C.m -/
abbrev cmAt (K : Fg) (x m : Str) : Addr := He5.wf K (ga K x) "classmethod" m
def clsmB (K : Fg) (x m : Str) : Bool := He5.wrapB K (ga K x) "classmethod" "classmethod.__get__" m && PySem.W.fnIn K (cmAt K x m)
theorem clsmB_ok {K : Fg} {x m : Str} (h : clsmB K x m = true) : ClX.CMet K (ga K x) (.type "type") m (ma K (ga K x) m) (cmAt K x m) := by
  obtain ⟨h1, h2⟩ := ba h
  exact He5.cmet_of h1 h2
/-- a def behind a classmethod, as the head's data -/
def dCl (cls : Stmt) (j : Nat) (c m : Str) : DefA := ⟨fun K => cmAt K c m, m, c ++ "." ++ m, defArgs (inClass cls j), defBody (inClass cls j), defScope (inClass cls j), [], []⟩
theorem hfree_by {sc sc' : Scope} (h : (sc.names.all fun y => !decide (y.2 = NameKind.free) || (decide (sc'.names.lookup y.1 = some .cell) || decide (sc'.names.lookup y.1 = some .free))) = true) :
    ∀ y ∈ sc.names, y.2 = .free → sc'.names.lookup y.1 = some .cell ∨ sc'.names.lookup y.1 = some .free := fun y hy e => by
  have z := List.all_eq_true.mp h y hy
  rw [decide_eq_true e, Bool.not_true, Bool.false_or, Bool.or_eq_true] at z
  exact z.imp of_decide_eq_true of_decide_eq_true
section
variable {X : Cx} {CX : CXT} {k i : Nat} {C p g f : Addr} {mc : Value} {sp : Sp} {E : XK} {x m : Str} {o e : Expr} {es : List Expr} {pos apos np : Pos} {ta te : TE} {t : TA}
/-- o.m(), o the class at C -/
theorem pe_cmeth0 {pl : Sem Bool} (he : PE X o ta) (r : ClX.CRead X.K C mc) (c : ClX.CMet X.K C mc m p g) (F : FnR X.prog X.w X.K X.mg X.base CX k g sp) (hr : Room k X.A) (hx : Passes CX X E)
    (ht : eval (.Call (.Attribute o m apos) [] [] pos) X.env = (do
      let ov ← eval o X.env
      standAt apos.atName
      let (f, first) ← holding [ov] (getMethod ov m pl)
      callWith pos f first (backTo pos (starEach [] X.env)) (backToKw pos (keywordEach [] X.env))) := by rfl) :
    PE X (.Call (.Attribute o m apos) [] [] pos) (fun σ H Q => ta σ H fun x H1 => x = .ref C ∧ sp [.ref C] H1 Q E) := by
  refine ⟨fun pins s σ H Q I h => PySem.W.methodCall_KW (pl := pl) (thn (he.run pins s σ H _ I h) fun u s1 ⟨x, H1, I1, rx, ex, q⟩ => ?_) ht⟩
  subst ex
  obtain rfl : u = Value.ref C := rx
  refine ClX.getmethcm_ok I1 r c fun s2 I2 => ?_
  exact PySem.W.callWith_M0 (first := []) ⟨ClX.pin_at I2, I2.kIn⟩ c.fi (ClX.run_cm (us := []) (vs := []) F hr hx I2 .nil q)
/-- x(e, ..), x a local name that holds the class at C -/
theorem pe_makeV (M : Mk X.K C f) (F : FnR X.prog X.w X.K X.mg X.base CX k f sp) (hr : Room (k + 1) X.A) (hx : Passes CX X E) (hN : X.N[i]? = some x) (hv : Vis X.env.scope x) (ha : PA X (e :: es) t)
    (hd : (x == ("__debug__" : Str)) = false := by decide) (hcd : (x == ("__classdict__" : Str)) = false := by decide)
    (he : starEach (e :: es) X.env = (false, eval e X.env) :: starEach es X.env := by rfl) (hpl : (backTo pos (starEach es X.env)).any (·.1) = false := by rfl) :
    PE X (.Call (.Name x np) (e :: es) [] pos) (fun σ H Q => σ[i]? = some (some (.ref C)) ∧ StX.tMakeR C sp E t σ H Q) := by
  refine ⟨fun pins s σ H Q I h => wpAny_Call_Name_kw (thn ((pe_var (pos := np) (i := i) hN hv hd hcd).run pins s σ H (fun v H1 => v = .ref C ∧ H1 = H) I ⟨.ref C, h.1, rfl, rfl⟩) fun u s1 ⟨v, H1, I1, r1, ev, eH⟩ => ?_)⟩
  subst ev eH
  cases r1
  exact PySem.W.callWith_K (h₀ := X.base) I1.ok.mod.kin M.kp (thn (ha.run pos pins s1 σ _ _ I1 h.2) fun us s2 ⟨vs, H2, I2, r, q⟩ => ⟨I2.kIn, StX.run_makeR M F hr hx I2 r q⟩) he hpl
/-- x(*y), x a local name that holds the class at C -/
theorem pe_makeVS (M : Mk X.K C f) (F : FnR X.prog X.w X.K X.mg X.base CX k f sp) (hr : Room (k + 1) X.A) (hx : Passes CX X E) (hN : X.N[i]? = some x) (hv : Vis X.env.scope x) (he : PE X e te)
    (hd : (x == ("__debug__" : Str)) = false := by decide) (hcd : (x == ("__classdict__" : Str)) = false := by decide)
    (hst : starEach [.Starred e apos] X.env = [(true, eval e X.env)] := by rfl) :
    PE X (.Call (.Name x np) [.Starred e apos] [] pos) (fun σ H Q => σ[i]? = some (some (.ref C)) ∧ te σ H fun y H1 => ∃ a xs, y = V.ref a ∧ (SqT X.K H1 a xs ∨ SqL X.K H1 a xs) ∧ ∀ z dx, H1 z = none → H1 dx = none → dx ≠ z →
      sp (V.ref z :: xs) (upd (upd H1 dx (.own z)) z (.ins C dx [])) (fun v H2 => v = .non ∧ Q (.ref z) H2) E) := by
  refine ⟨fun pins s σ H Q I h => wpAny_Call_Name_kw (thn ((pe_var (pos := np) (i := i) hN hv hd hcd).run pins s σ H (fun v H1 => v = .ref C ∧ H1 = H) I ⟨.ref C, h.1, rfl, rfl⟩) fun u s1 ⟨v, H1, I1, r1, ev, eH⟩ => ?_)⟩
  subst ev eH
  cases r1
  refine PySem.W.callWith_S (h₀ := X.base) I1.ok.mod.kin M.kp (thn (he.run pins s1 σ _ _ I1 h.2) fun v s2 ⟨y, H2, I2, ry, a, xs, ey, hxs, q⟩ => ?_) hst
  subst ey
  obtain rfl : v = Value.ref a := ry
  exact StX.star_any I2 hxs fun us s3 I3 rv => ⟨I3.kIn, StX.run_makeR M F hr hx I3 rv q⟩
/-- x(*y), x a global class -/
theorem pe_makeGS (M : Mk X.K C f) (F : FnR X.prog X.w X.K X.mg X.base CX k f sp) (hr : Room (k + 1) X.A) (hx : Passes CX X E) (hg : Gl X x) (hm : X.mg x = some (.ref C)) (he : PE X e te) (hd : (x == ("__debug__" : Str)) = false := by decide)
    (hst : starEach [.Starred e apos] X.env = [(true, eval e X.env)] := by rfl) :
    PE X (.Call (.Name x np) [.Starred e apos] [] pos) (fun σ H Q => te σ H fun y H1 => ∃ a xs, y = V.ref a ∧ (SqT X.K H1 a xs ∨ SqL X.K H1 a xs) ∧ ∀ z dx, H1 z = none → H1 dx = none → dx ≠ z →
      sp (V.ref z :: xs) (upd (upd H1 dx (.own z)) z (.ins C dx [])) (fun v H2 => v = .non ∧ Q (.ref z) H2) E) := by
  refine ⟨fun pins s σ H Q I h => wpAny_Call_Name_kw (ld_glob I hg hm ?_ hd)⟩
  refine PySem.W.callWith_S (h₀ := X.base) I.ok.mod.kin M.kp (thn (he.run pins s σ _ _ I h) fun v s2 ⟨y, H2, I2, ry, a, xs, ey, hxs, q⟩ => ?_) hst
  subst ey
  obtain rfl : v = Value.ref a := ry
  exact StX.star_any I2 hxs fun us s3 I3 rv => ⟨I3.kIn, StX.run_makeR M F hr hx I3 rv q⟩
end
end Tw
namespace K03
open PySem PySem.Spec PyProof.Rows L2 He Tw
def topS (i : Nat) : Stmt := PySem.Challenge.pw_twoheads_k03_rows_made.main.body.getD i (.Pass ⟨0, 0, 0, 0⟩)
def dM (c : Str) (i j : Nat) (m : Str) (dvs : List Dv) : DefA := ⟨fun K => ma K (ga K c) m, m, c ++ "." ++ m, defArgs (inClass (topS i) j), defBody (inClass (topS i) j), defScope (inClass (topS i) j), dvs, []⟩
def dF (x : Str) (i : Nat) : DefA := ⟨fun K => ga K x, x, x, defArgs (topS i), defBody (topS i), defScope (topS i), [], []⟩
/-- the errors with one field -/
def errs : List (Str × Nat × Str) := [("BadItem", 5, "part"), ("BadPlace", 6, "at"), ("Disordered", 7, "at"), ("TooMany", 8, "most")]
def clss : List Str := ["HeadsError", "BadInput", "Refused", "BadItem", "BadPlace", "Disordered", "TooMany", "Item", "Row"]
def fnames : List Str := ["is_lettered", "is_number", "is_rank", "as_items", "need_row", "_law_pen", "_law_draw", "_law_pick", "_law_pairs", "_law_values", "_law_told", "_law_heard", "_law_odd", "_law_mixed", "_law_sorted", "_law_made_right", "_law_of_right", "_law_refused", "law"]
def blts : List Str := ["list", "int", "len", "abs", "isinstance", "range", "str", "bool", "all", "enumerate", "tuple", "sorted", "iter"]
def kinds : List String := ["NoneType", "bool", "int", "str", "list", "tuple", "dict"]
/-- where the empty tuple stands that Row.__init__ has as its default -/
def nilAt (K : Fg) : Addr := match K.lookup (ma K (ga K "Row") "__init__") with
  | some ⟨_, _, .func fd, _⟩ => (match fd.defaults with
    | .ref t => (match K.lookup t with
      | some ⟨_, _, .seq its _, _⟩ => (match its.toList with
        | .ref e :: _ => e
        | _ => 0)
      | _ => 0)
    | _ => 0)
  | _ => 0
def nilB (K : Fg) : Bool := match K.lookup (nilAt K) with
  | some ⟨.type c, _, .seq its _, _⟩ => decide (c = "tuple") && its.toList.isEmpty
  | _ => false
def mostB (K : Fg) : Bool := match PySem.W.findIn K (.ref (ga K "Row")) "MOST" with
  | some (some (.int i t)) => decide (i = 200) && eqO (PySem.W.specialIn K (.int i t) "__get__") (some none)
  | _ => false
theorem nilB_ok {K : Fg} (h : nilB K = true) (H : Hp) : SqT K H (nilAt K) [] := by
  unfold nilB at h
  cases q : K.lookup (nilAt K) with
  | none =>
    rw [q] at h
    cases h
  | some o =>
    obtain ⟨oc, od, dt, sl⟩ := o
    rw [q] at h
    cases oc with
    | type c =>
      cases dt with
      | seq its n =>
        obtain ⟨h1, h2⟩ := ba h
        have e1 := of_decide_eq_true h1
        subst e1
        have e2 : its.toList = [] := List.isEmpty_iff.mp h2
        refine .inr ⟨_, its, n, q, rfl, rfl, ?_, ?_⟩
        · have e3 : its.size = 0 := by
            rw [← Array.length_toList, e2]
            rfl
          rw [e3]
          exact Nat.zero_le _
        · rw [e2]
          exact .nil
      | _ => cases h
    | _ => cases h
theorem mostB_ok {K : Fg} (h : mostB K = true) : ∃ u, Con K (ga K "Row") "MOST" (.int 200) u := by
  unfold mostB at h
  cases q : PySem.W.findIn K (.ref (ga K "Row")) "MOST" with
  | none =>
    rw [q] at h
    cases h
  | some o =>
    rw [q] at h
    cases o with
    | none => cases h
    | some v =>
      cases v with
      | int i t =>
        obtain ⟨h1, h2⟩ := ba h
        have e := of_decide_eq_true h1
        subst e
        exact ⟨_, q, ⟨_, rfl⟩, eqO_ok h2, by decide +kernel⟩
      | _ => cases h
def fn : List DefA := errs.map (fun e => dM e.1 e.2.1 0 "__init__" []) ++ [dM "Item" 17 0 "__init__" [.str ""], dM "Item" 17 3 "before" [], dM "Row" 25 1 "__init__" [.adr nilAt], dM "Row" 25 4 "__iter__" [], dM "Row" 25 3 "__len__" [], dM "Row" 25 10 "listed" [], dM "Row" 25 11 "ranks" [], dM "Row" 25 9 "__eq__" [],
  dF "is_lettered" 12, dF "is_number" 15, dF "is_rank" 16, dF "as_items" 19, dF "need_row" 20, dF "_law_pen" 29, dF "_law_draw" 30, dF "_law_pick" 31, dF "_law_pairs" 32, dF "_law_values" 33, dF "_law_told" 34, dF "_law_heard" 35, dF "_law_odd" 36, dF "_law_mixed" 37, dF "_law_sorted" 38, dF "_law_made_right" 39, dF "_law_of_right" 40, dF "_law_refused" 41, dF "law" 42, dCl (topS 25) 2 "Row" "of"]
def letters : Str := "abcdefghijklmnopqrstuvwxyz"
def beyond : Int := 10 ^ 30
def fs : Fz := [fun K => clss.all fun x => (Fa.glo x).ok K, fun K => fnames.all fun x => (Fa.glo x).ok K, fun K => blts.all fun x => (Fa.free x).ok K, fun K => (Fa.int "BEYOND" beyond).ok K, fun K => (Fa.int "LONGEST" 8).ok K, fun K => (Fa.str "LETTERS" letters).ok K,
  fun K => errs.all fun e => (Fy.xc e.1).ok K, fun K => Fy.xo.ok K, fun K => errs.all fun e => (Fy.ini e.1).ok K, fun K => errs.all fun e => (Fy.names e.1 [e.2.2]).ok K, fun K => errs.all fun e => errs.all fun d => (Fy.kit e.1 d.1 (decide (e.1 = d.1))).ok K,
  fun K => errs.all fun e => decide (PySem.W.exmOne K (.ref (ga K e.1)) (.ref (ga K "HeadsError")) = some true),
  fun K => kinds.all fun t => decide (PySem.W.kitOne K (.type t) (.ref (ga K "Item")) = some false) && errs.all fun e => decide (PySem.W.kitOne K (.type t) (.ref (ga K e.1)) = some false),
  fun K => (Fy.kit "Item" "Item" true).ok K, fun K => (Fy.kit "Row" "Row" true).ok K, fun K => PySem.W.notFirst K (ga K "Row") (.ref (ga K "Row")),
  fun K => (Fa.cls "Item").ok K, fun K => (Fa.mkr "Item").ok K, fun K => (["rank", "name"] : List Str).all fun f => (Fa.noat "Item" f).ok K, fun K => (Fa.meth "Item" "before").ok K,
  fun K => (Fa.cls "Row").ok K, fun K => (Fa.mkr "Row").ok K, fun K => (Fa.noat "Row" "state").ok K, fun K => (["listed", "ranks", "__iter__", "__len__", "__eq__"] : List Str).all fun m => (Fa.meth "Row" m).ok K,
  fun K => (["Item", "Row"] : List Str).all fun c => decide (PySem.W.mroIn K (ga K c) (.type "object") = some true) && eqO (PySem.W.findIn K (.ref (ga K c)) "__class__") (some (some (.builtin "object.__class__"))), nilB, mostB,
  fun K => clsmB K "Row" "of", fun K => creadB K (ga K "Row"), fun K => cvalB K (ga K "Row") "MOST" (.int 200),
  fun K => tabB K (cmAt K "Row" "of"), fun K => tabB K (ga K "_law_of_right"), fun K => tabB K (ga K "_law_refused"), fun K => tabB K (ga K "law"),
  fun K => decide (([tabAt K (cmAt K "Row" "of"), tabAt K (ga K "_law_of_right"), tabAt K (ga K "_law_refused"), tabAt K (ga K "law")] : List Addr).Nodup)]
/-- what the walk asks of the written part and of the module's names -/
structure Txt (K : Fg) (mg : Str → Option Value) : Prop where
  c : SaysZ fs fn K
  gl : ∀ x, (Fa.glo x).ok K = true → mg x = some (.ref (ga K x))
  fr : ∀ x, (Fa.free x).ok K = true → mg x = none
  nt : ∀ x i, (Fa.int x i).ok K = true → ∃ t, mg x = some (.int i t)
  tx : ∀ x z, (Fa.str x z).ok K = true → ∃ t, mg x = some (.str z t)
section
variable {K : Fg} {mg : Str → Option Value}
theorem Txt.cl (T : Txt K mg) {x : Str} (h : x ∈ clss) : mg x = some (.ref (ga K x)) := T.gl x (of_all (f := fun x => (Fa.glo x).ok K) (T.c.fact 0) h)
theorem Txt.fn (T : Txt K mg) {x : Str} (h : x ∈ fnames) : mg x = some (.ref (ga K x)) := T.gl x (of_all (f := fun x => (Fa.glo x).ok K) (T.c.fact 1) h)
theorem Txt.bl (T : Txt K mg) {x : Str} (h : x ∈ blts) : mg x = none := T.fr x (of_all (f := fun x => (Fa.free x).ok K) (T.c.fact 2) h)
theorem Txt.beyond (T : Txt K mg) : ∃ t, mg "BEYOND" = some (.int K03.beyond t) := T.nt _ _ (T.c.fact 3)
theorem Txt.longest (T : Txt K mg) : ∃ t, mg "LONGEST" = some (.int 8 t) := T.nt _ _ (T.c.fact 4)
theorem Txt.letters (T : Txt K mg) : ∃ t, mg "LETTERS" = some (.str K03.letters t) := T.tx _ _ (T.c.fact 5)
theorem Txt.xc (T : Txt K mg) {e : Str × Nat × Str} (h : e ∈ errs) : XC K (ga K e.1) := xc_ok (of_all (f := fun e : Str × Nat × Str => (Fy.xc e.1).ok K) (T.c.fact 6) h)
theorem Txt.xo (T : Txt K mg) : XO K := xo_ok (T.c.fact 7)
theorem Txt.ini (T : Txt K mg) {e : Str × Nat × Str} (h : e ∈ errs) : PySem.W.findIn K (.ref (ga K e.1)) "__init__" = some (some (.ref (ma K (ga K e.1) "__init__"))) ∧ PySem.W.typeIn K (.ref (ma K (ga K e.1) "__init__")) = some (.type "function") := ini_ok (of_all (f := fun e : Str × Nat × Str => (Fy.ini e.1).ok K) (T.c.fact 8) h)
theorem Txt.no (T : Txt K mg) {e : Str × Nat × Str} (h : e ∈ errs) : PySem.W.findIn K (.ref (ga K e.1)) e.2.2 = some none := names_ok (of_all (f := fun e : Str × Nat × Str => (Fy.names e.1 [e.2.2]).ok K) (T.c.fact 9) h) List.mem_cons_self
theorem Txt.kit (T : Txt K mg) {e d : Str × Nat × Str} (h : e ∈ errs) (g : d ∈ errs) : PySem.W.kitOne K (.ref (ga K e.1)) (.ref (ga K d.1)) = some (decide (e.1 = d.1)) := kit_ok (of_all (f := fun d : Str × Nat × Str => (Fy.kit e.1 d.1 (decide (e.1 = d.1))).ok K) (of_all (f := fun e : Str × Nat × Str => errs.all fun d => (Fy.kit e.1 d.1 (decide (e.1 = d.1))).ok K) (T.c.fact 10) h) g)
theorem Txt.exm (T : Txt K mg) {e : Str × Nat × Str} (h : e ∈ errs) : PySem.W.exmOne K (.ref (ga K e.1)) (.ref (ga K "HeadsError")) = some true := of_decide_eq_true (of_all (f := fun e : Str × Nat × Str => decide (PySem.W.exmOne K (.ref (ga K e.1)) (.ref (ga K "HeadsError")) = some true)) (T.c.fact 11) h)
theorem Txt.kind (T : Txt K mg) {t : String} (h : t ∈ kinds) : PySem.W.kitOne K (.type t) (.ref (ga K "Item")) = some false ∧ ∀ e ∈ errs, PySem.W.kitOne K (.type t) (.ref (ga K e.1)) = some false := by
  obtain ⟨a, b⟩ := ba (List.all_eq_true.mp (T.c.fact 12) t h)
  exact ⟨of_decide_eq_true a, fun e he => of_decide_eq_true (List.all_eq_true.mp b e he)⟩
theorem Txt.kitII (T : Txt K mg) : PySem.W.kitOne K (.ref (ga K "Item")) (.ref (ga K "Item")) = some true := kit_ok (T.c.fact 13)
theorem Txt.kitRR (T : Txt K mg) : PySem.W.kitOne K (.ref (ga K "Row")) (.ref (ga K "Row")) = some true := kit_ok (T.c.fact 14)
theorem Txt.nfR (T : Txt K mg) : PySem.W.notFirst K (ga K "Row") (.ref (ga K "Row")) = true := T.c.fact 15
theorem Txt.cls (T : Txt K mg) : Cls K (ga K "Item") := cls_ok (T.c.fact 16)
theorem Txt.mkI (T : Txt K mg) : Mk K (ga K "Item") (ma K (ga K "Item") "__init__") := mkr_ok (T.c.fact 17)
theorem Txt.na (T : Txt K mg) {f : Str} (h : f ∈ (["rank", "name"] : List Str)) : NoAttr K (ga K "Item") f := noat_ok (List.all_eq_true.mp (T.c.fact 18) f h)
theorem Txt.mtB (T : Txt K mg) : Meth K (ga K "Item") "before" (ma K (ga K "Item") "before") := meth_ok (T.c.fact 19)
theorem Txt.clsR (T : Txt K mg) : Cls K (ga K "Row") := cls_ok (T.c.fact 20)
theorem Txt.mkR (T : Txt K mg) : Mk K (ga K "Row") (ma K (ga K "Row") "__init__") := mkr_ok (T.c.fact 21)
theorem Txt.naR (T : Txt K mg) : NoAttr K (ga K "Row") "state" := noat_ok (T.c.fact 22)
theorem Txt.mtR (T : Txt K mg) {m : Str} (h : m ∈ (["listed", "ranks", "__iter__", "__len__", "__eq__"] : List Str)) : Meth K (ga K "Row") m (ma K (ga K "Row") m) := meth_ok (List.all_eq_true.mp (T.c.fact 23) m h)
theorem Txt.ob (T : Txt K mg) {c : Str} (h : c ∈ (["Item", "Row"] : List Str)) : PySem.W.mroIn K (ga K c) (.type "object") = some true ∧ PySem.W.findIn K (.ref (ga K c)) "__class__" = some (some (.builtin "object.__class__")) := by
  obtain ⟨a, b⟩ := ba (List.all_eq_true.mp (T.c.fact 24) c h)
  exact ⟨of_decide_eq_true a, eqO_ok b⟩
theorem Txt.nil (T : Txt K mg) (H : Hp) : SqT K H (nilAt K) [] := nilB_ok (T.c.fact 25) H
theorem Txt.most (T : Txt K mg) : ∃ u, Con K (ga K "Row") "MOST" (.int 200) u := mostB_ok (T.c.fact 26)
theorem Txt.cmet (T : Txt K mg) : ClX.CMet K (ga K "Row") (.type "type") "of" (ma K (ga K "Row") "of") (cmAt K "Row" "of") := clsmB_ok (T.c.fact 27)
theorem Txt.cread (T : Txt K mg) : ClX.CRead K (ga K "Row") (.type "type") := creadB_ok (T.c.fact 28)
theorem Txt.cmost (T : Txt K mg) : ∃ u, ClX.CVal K (ga K "Row") (.type "type") "MOST" (.int 200) u := cvalB_ok (T.c.fact 29)
theorem Txt.tab1 (T : Txt K mg) : tabB K (cmAt K "Row" "of") = true := T.c.fact 30
theorem Txt.tab2 (T : Txt K mg) : tabB K (ga K "_law_of_right") = true := T.c.fact 31
theorem Txt.tab3 (T : Txt K mg) : tabB K (ga K "_law_refused") = true := T.c.fact 32
theorem Txt.tab4 (T : Txt K mg) : tabB K (ga K "law") = true := T.c.fact 33
theorem Txt.tabne (T : Txt K mg) : ([tabAt K (cmAt K "Row" "of"), tabAt K (ga K "_law_of_right"), tabAt K (ga K "_law_refused"), tabAt K (ga K "law")] : List Addr).Nodup := of_decide_eq_true (T.c.fact 34)
end
abbrev s_draw : Stmt := topS 30
abbrev N_draw : List Str := ["_law_pen_here", "_law_many", "_law_digit", "_law_at", "_law_cell", "_law_great", "_law_mixed_here"]
theorem sc_draw : FnScope N_draw ["_law_pen_here", "_law_many"] (defScope s_draw) := ⟨rfl, rfl, rfl, by decide +kernel, rfl, by decide +kernel, by decide +kernel⟩
section
variable {P : Program} {w : World} {K : Fg} {mg : Str → Option Value} {base : Heap}
theorem ok_draw {f : Addr} {fd : FuncData} (F : FnP K "_law_draw" "_law_draw" s_draw f fd) (T : Txt K mg) : FnOk P w K mg base CX0 1 f fd ["_law_pen_here", "_law_many"] spDrawL := by
  have zint : mg "int" = none := T.bl (by decide +kernel)
  have zlen : mg "len" = none := T.bl (by decide +kernel)
  have zabs : mg "abs" = none := T.bl (by decide +kernel)
  refine F.ok sc_draw (fun vs H Q E h => ?_) (fun cdv A outer s H vs Q E hr h => ?_)
  · obtain ⟨p, l, m, c, rfl, _⟩ := h
    rfl
  · obtain ⟨p, l, m, c, rfl, hm0, hm1, ⟨ns, i, g, hp, hl, hlp, hn, hi0, hic, hg0⟩, hc, k⟩ := h
    have hsp : SqL K H p [.ref l, .int i, .int g] := SqL.of hp
    have hsl : SqL K H l (ns.map V.int) := SqL.of hl
    refine ⟨_, PSs.nox (pss_cons (ps_if (pt_cmpR op_gt (pe_ix ix_list (pv 0) pe_int (fun _ _ => rfl)) pe_int (nomark _)) (pss_cons (ps_set (i := 2) sc_draw.nd rfl (Or.inl rfl) (pe_op op_mod (pe_callTy call_int1 (by rfl) zint (by decide +kernel) (pa_cons (pe_ix ix_list (pv 0) pe_int (fun _ _ => rfl)) pa_nil)) (pv 1)))
    (pss_cons (ps_asg (pe_op op_fdiv (pe_callTy call_int1 (by rfl) zint (by decide +kernel) (pa_cons (pe_ix ix_list (pv 0) pe_int (fun _ _ => rfl)) pa_nil)) (pv 1)) (pg_sub (pv 0) pe_int set_list))
    (pss_one (ps_ret (pv 2))))) pss_nil)
    (pss_cons (ps_set (i := 3) sc_draw.nd rfl (Or.inl rfl) (pe_ix ix_list (pv 0) pe_int (fun _ _ => rfl)))
    (pss_cons (ps_asg (pe_op op_add (pv 3) pe_int) (pg_sub (pv 0) pe_int set_list))
    (pss_cons (ps_set (i := 4) sc_draw.nd rfl (Or.inl rfl) (pe_op op_add (pe_op op_mul pe_int (pv 3)) pe_int))
    (pss_mid (ps_if (pt_cmpR (op_neD hr.units) (pe_ix ix_list (pv 0) pe_int (fun _ _ => rfl)) (pe_lst pa_nil) (nomark _)) (pss_one (ps_set (i := 4) sc_draw.nd rfl (Or.inl rfl) (pe_ix ix_list (pe_ix ix_list (pv 0) pe_int (fun _ _ => rfl)) (pe_op op_mod (pe_callTy call_int1 (by rfl) zint (by decide +kernel) (pa_cons (pv 3) pa_nil)) (pe_callB call_len (by rfl) zlen (by decide +kernel) (pa_cons (pe_ix ix_list (pv 0) pe_int (fun _ _ => rfl)) pa_nil))) (fun _ _ => rfl)))) pss_nil)
    (pss_mid (ps_if (PW.pt (pw_and (pt_cmpR op_lt (pv 3) (pe_callB call_len (by rfl) zlen (by decide +kernel) (pa_cons (pe_ix ix_list (pv 0) pe_int (fun _ _ => rfl)) pa_nil)) (nomark _)) (pw_and1 (pt_cmpR op_ge (pe_callB call_abs (by rfl) zabs (by decide +kernel) (pa_cons (pv 4) pa_nil)) (pe_op op_pow pe_int pe_int) (nomark _))))) (pss_cons (ps_set (i := 5) sc_draw.nd rfl (Or.inl rfl) (pe_op op_add (pe_op op_mul pe_int (pe_op op_sub (pe_callB call_abs (by rfl) zabs (by decide +kernel) (pa_cons (pv 4) pa_nil)) (pe_op op_pow pe_int pe_int))) (pe_callTy call_int1 (by rfl) zint (by decide +kernel) (pa_cons (pe_cmpR op_lt (pv 4) pe_int (nomark _)) pa_nil))))
    (pss_cons (ps_asg (pe_op op_fdiv (pe_callTy call_int1 (by rfl) zint (by decide +kernel) (pa_cons (pv 5) pa_nil)) (pv 1)) (pg_sub (pv 0) pe_int set_list))
    (pss_one (ps_ret (pe_op op_mod (pe_callTy call_int1 (by rfl) zint (by decide +kernel) (pa_cons (pv 5) pa_nil)) (pv 1)))))) pss_nil)
    (pss_mid (ps_set (i := 6) sc_draw.nd rfl (Or.inl rfl) (pe_op op_mod (pe_callTy call_int1 (by rfl) zint (by decide +kernel) (pa_cons (pe_op op_pow (pe_op op_add (pe_op op_add (pe_op op_mod (pe_callTy call_int1 (by rfl) zint (by decide +kernel) (pa_cons (pv 4) pa_nil)) pe_int) (pe_op op_mul pe_int (pv 3))) pe_int) pe_int) pa_nil)) pe_int))
    (pss_mid (ps_set (i := 6) sc_draw.nd rfl (Or.inl rfl) (pe_op op_mod (pe_callTy call_int1 (by rfl) zint (by decide +kernel) (pa_cons (pe_op op_pow (pe_op op_add (pe_op op_add (pe_op op_mul (pv 6) (pe_op op_add (pe_op op_mul pe_int (pv 3)) pe_int)) (pe_op op_mul (pe_op op_mul pe_int (pv 3)) (pv 3))) pe_int) pe_int) pa_nil)) pe_int))
    (pss_one (ps_ret (pe_op op_mod (pe_callTy call_int1 (by rfl) zint (by decide +kernel) (pa_cons (pe_op op_fdiv (pv 6) pe_int) pa_nil)) (pv 1)))))))))))), ?_⟩
    -- if pen[2] > 0
    refine ⟨_, rfl, p, _, 2, .int g, rfl, rfl, hsp, rfl, _, _, rfl, rfl, _, rfl, ?_⟩
    refine ite2 (fun hgt => ?_) (fun hle => ?_)
    · refine ⟨_, rfl, p, _, 2, .int g, rfl, rfl, hsp, rfl, .inl ⟨g, rfl, _, rfl, g, m, rfl, rfl, hm0, ?_⟩⟩
      refine ⟨_, rfl, p, _, 2, .int g, rfl, rfl, hsp, rfl, .inl ⟨g, rfl, _, rfl, g, m, rfl, rfl, ⟨hm0, hm1⟩, ?_⟩⟩
      refine ⟨_, rfl, p, _, 2, 2, rfl, rfl, hp, rfl, _, rfl, ?_⟩
      refine k (g % m) _ (Int.emod_nonneg _ (by omega)) (Int.emod_lt_of_pos _ hm0) ⟨ns, i, g / m, upd_same, by rw [upd_ne hlp]; exact hl, hlp, hn, hi0, by omega, Int.ediv_nonneg hg0 (by omega)⟩ But.upd
    · -- at = pen[1]; pen[1] = at + 1; cell = ..
      refine ⟨_, rfl, p, _, 1, .int i, rfl, rfl, hsp, rfl, ?_⟩
      refine ⟨_, rfl, i, 1, rfl, rfl, _, rfl, p, _, 1, 1, rfl, rfl, hp, rfl, ?_⟩
      refine ⟨_, rfl, _, i, rfl, rfl, .inl ⟨by decide, by decide⟩, _, _, rfl, rfl, ?_⟩
      have hp1 : (upd H p (.lst ([V.ref l, .int i, .int g].set 1 (.int (i + 1))))) p = some (.lst [.ref l, .int (i + 1), .int g]) := upd_same
      have hl1 : (upd H p (.lst ([V.ref l, .int i, .int g].set 1 (.int (i + 1))))) l = some (.lst (ns.map V.int)) := by rw [upd_ne hlp]; exact hl
      have b1 : But p H (upd H p (.lst ([V.ref l, .int i, .int g].set 1 (.int (i + 1))))) := But.upd
      generalize upd H p (.lst ([V.ref l, .int i, .int g].set 1 (.int (i + 1)))) = H1 at hp1 hl1 b1 ⊢
      -- if pen[0] != []
      refine ⟨fun σ' H' => ∃ z : Int, σ' = [some (.ref p), some (.int m), none, some (.int i), some (.int z), none, none] ∧ H' p = some (.lst [.ref l, .int (i + 1), .int g]) ∧ H' l = some (.lst (ns.map V.int)) ∧ But p H H', ?_, ?_⟩
      · refine ⟨_, rfl, p, _, 0, .ref l, rfl, rfl, SqL.of hp1, rfl, (by show 0 ≤ sizeLine; decide), fun q hq => ?_⟩
        have hq1 : p ≠ q := ne_of_none hp1 hq
        have hq2 : l ≠ q := ne_of_none hl1 hq
        have hp2 : (upd H1 q (.lst [])) p = some (.lst [.ref l, .int (i + 1), .int g]) := by rw [upd_ne hq1]; exact hp1
        have hl2 : (upd H1 q (.lst [])) l = some (.lst (ns.map V.int)) := by rw [upd_ne hq2]; exact hl1
        have hq3 : (upd H1 q (.lst [])) q = some (.lst []) := upd_same
        have b2 : But p H (upd H1 q (.lst [])) := b1.trans (But.of (same_new hq))
        generalize upd H1 q (.lst []) = H2 at hp2 hl2 hq3 b2 ⊢
        refine ⟨_, _, .lst (SqL.of hl2) (dp_ints ns), .lst (SqL.of hq3) .nil, shaped_ints ns, shaped_ints [], _, rfl, ?_⟩
        refine ite2 (fun hne => ?_) (fun _ => ⟨_, rfl, hp2, hl2, b2⟩)
        have hns : 0 < ns.length := by
          cases ns with
          | nil => exact absurd hne (by decide)
          | cons n r => exact Nat.succ_pos _
        have hz : (0 : Int) < ((ns.map V.int).length : Int) := by rw [List.length_map]; omega
        have j0 := Int.emod_nonneg i (Int.ne_of_gt hz)
        have j1 := Int.emod_lt_of_pos i hz
        obtain ⟨z, ez⟩ : ∃ z, (ns.map V.int)[(i % ((ns.map V.int).length : Int)).toNat]? = some (V.int z) := by
          rw [List.length_map] at j0 j1 ⊢
          have hlt : (i % (ns.length : Int)).toNat < ns.length := by omega
          exact ⟨ns[(i % (ns.length : Int)).toNat], by rw [List.getElem?_map, List.getElem?_eq_getElem hlt]; rfl⟩
        exact ⟨_, rfl, p, _, 0, .ref l, rfl, rfl, SqL.of hp2, rfl, _, rfl, .inl ⟨i, rfl, _, rfl, p, _, 0, .ref l, rfl, rfl, SqL.of hp2, rfl, _, _, rfl, .inl ⟨_, SqL.of hl2, rfl⟩, _, _, rfl, rfl, hz, l, _, _, .int z, rfl, rfl, SqL.of hl2, atI_of j0 ez, _, rfl, hp2, hl2, b2⟩⟩
      · rintro σ2 H2 ⟨z, rfl, hp2, hl2, b2⟩
        -- if at < len(pen[0]) and abs(cell) >= 10 ** 18
        refine ⟨fun σ' H' => σ' = [some (.ref p), some (.int m), none, some (.int i), some (.int z), none, none] ∧ H' = H2, ?_, ?_⟩
        · refine ⟨_, rfl, _, rfl, p, _, 0, .ref l, rfl, rfl, SqL.of hp2, rfl, _, _, rfl, .inl ⟨_, SqL.of hl2, rfl⟩, _, _, rfl, rfl, _, rfl, ?_⟩
          refine ite2 (fun _ => ?_) (fun _ => ⟨rfl, rfl⟩)
          refine ⟨_, rfl, _, rfl, _, _, rfl, rfl, ⟨by decide, by decide, by decide⟩, _, _, rfl, rfl, _, rfl, ?_⟩
          refine ite2 (fun hgr => ?_) (fun _ => ⟨rfl, rfl⟩)
          have hgr' := of_decide_eq_true hgr
          refine ⟨_, rfl, _, rfl, _, _, rfl, rfl, ⟨by decide, by decide, by decide⟩, _, _, rfl, rfl, _, _, rfl, rfl, .inl ⟨by decide, by decide⟩, _, rfl, _, _, rfl, rfl, .inr ⟨_, rfl, _, _, rfl, rfl, ?_⟩⟩
          refine ⟨_, rfl, .inl ⟨_, rfl, _, rfl, _, _, rfl, rfl, ⟨hm0, hm1⟩, _, rfl, p, _, 2, 2, rfl, rfl, hp2, rfl, ?_⟩⟩
          refine ⟨_, rfl, .inl ⟨_, rfl, _, rfl, _, _, rfl, rfl, hm0, ?_⟩⟩
          have hpos : (0 : Int) ≤ 2 * ((if z < 0 then -z else z) - 10 ^ (18 : Int).toNat) + (if decide (z < 0) = true then 1 else 0) := by
            have h2 : (0 : Int) ≤ (if decide (z < 0) = true then 1 else 0) := by split <;> decide
            omega
          exact k _ _ (Int.emod_nonneg _ (Int.ne_of_gt hm0)) (Int.emod_lt_of_pos _ hm0) ⟨ns, i + 1, _, upd_same, by rw [upd_ne hlp]; exact hl2, hlp, hn, by omega, by omega, Int.ediv_nonneg hpos (Int.le_of_lt hm0)⟩ (b2.trans But.upd)
        · rintro σ3 H3 ⟨rfl, rfl⟩
          -- the two mixings
          refine ⟨fun σ' H' => ∃ x : Int, σ' = [some (.ref p), some (.int m), none, some (.int i), some (.int z), none, some (.int x)] ∧ H' = H3 ∧ 0 ≤ x ∧ x < 2147483648, ?_, ?_⟩
          · refine ⟨_, rfl, .inl ⟨_, rfl, _, _, rfl, rfl, (by show (0 : Int) < _; decide), _, rfl, _, _, rfl, rfl, .inl ⟨by decide, by decide⟩, _, _, rfl, rfl, _, _, rfl, rfl, _, _, rfl, rfl, ⟨by decide, by decide, ?_⟩, .inl ⟨_, rfl, _, _, rfl, rfl, (by show (0 : Int) < _; decide), _, rfl, rfl, Int.emod_nonneg _ (by decide), Int.lt_trans (Int.emod_lt_of_pos _ (by decide)) (by decide)⟩⟩⟩
            apply pow_ok <;> omega
          rintro σ4 H4 ⟨x, rfl, rfl, x0, x1⟩
          have hi6 : i ≤ 1000000 := by omega
          have q1 := mul_le' x0 (Int.le_of_lt x1) (show (0 : Int) ≤ 2 * i by omega) (show 2 * i ≤ 2000000 by omega)
          have q2 := mul_le' hi0 hi6 hi0 hi6
          refine ⟨fun σ' H' => ∃ y : Int, σ' = [some (.ref p), some (.int m), none, some (.int i), some (.int z), none, some (.int y)] ∧ H' = H4, ?_, ?_⟩
          · refine ⟨_, rfl, _, rfl, _, _, rfl, rfl, .inl ⟨by decide, by decide⟩, _, _, rfl, rfl, _, _, rfl, rfl, .inl ⟨by omega, by omega⟩, _, rfl, _, _, rfl, rfl, .inl ⟨by decide, by decide⟩, _, rfl, _, _, rfl, rfl, .inl ⟨by omega, by omega⟩, _, _, rfl, rfl, _, _, rfl, rfl, _, _, rfl, rfl, ⟨by decide, by decide, ?_⟩, .inl ⟨_, rfl, _, _, rfl, rfl, (by show (0 : Int) < _; decide), _, rfl, rfl⟩⟩
            rw [Int.mul_add, Int.mul_assoc _ i i]
            apply pow_ok <;> omega
          rintro σ5 H5 ⟨y, rfl, rfl⟩
          refine ⟨_, rfl, _, _, rfl, rfl, ⟨by decide, by decide⟩, .inl ⟨_, rfl, _, rfl, _, _, rfl, rfl, hm0, ?_⟩⟩
          exact k _ _ (Int.emod_nonneg _ (Int.ne_of_gt hm0)) (Int.emod_lt_of_pos _ hm0) ⟨ns, i + 1, g, hp2, hl2, hlp, hn, by omega, by omega, hg0⟩ b2
end
abbrev s_pen : Stmt := topS 29
abbrev N_pen : List Str := ["_law_script"]
theorem sc_pen : FnScope N_pen ["_law_script"] (defScope s_pen) := ⟨rfl, rfl, rfl, by decide +kernel, rfl, by decide +kernel, by decide +kernel⟩
abbrev s_pick : Stmt := topS 31
abbrev N_pick : List Str := ["_law_pen_here", "_law_some"]
theorem sc_pick : FnScope N_pick ["_law_pen_here", "_law_some"] (defScope s_pick) := ⟨rfl, rfl, rfl, by decide +kernel, rfl, by decide +kernel, by decide +kernel⟩
section
variable {P : Program} {w : World} {K : Fg} {mg : Str → Option Value} {base : Heap}
theorem ok_pen {f : Addr} {fd : FuncData} (F : FnP K "_law_pen" "_law_pen" s_pen f fd) (T : Txt K mg) : FnOk P w K mg base CX0 1 f fd ["_law_script"] (spPenL K) := by
  have zlist : mg "list" = none := T.bl (by decide +kernel)
  refine F.ok sc_pen (fun vs H Q E h => ?_) (fun cdv A outer s H vs Q E hr h => ?_)
  · obtain ⟨a, ns, rfl, _⟩ := h
    rfl
  · obtain ⟨a, ns, rfl, hS, hn, k⟩ := h
    obtain ⟨ms, em, hm⟩ := cut_ints ns none (some 63)
    refine ⟨_, PSs.nox (pss_one (ps_ret (pe_lst (pa_cons (pe_callTy call_list_of (by rfl) zlist (by decide +kernel) (pa_cons (pe_slice sl_list (pv 0) po_none (po_some pe_int)) pa_nil)) (pa_cons pe_int (pa_cons pe_int pa_nil)))))), ?_⟩
    refine ⟨_, rfl, _, rfl, a, _, rfl, hS, fun q hq => ⟨q, _, rfl, .inl (SqL.of upd_same), fun l hl => ⟨sz1000 (by show 3 ≤ 1000; decide), fun p hp => ?_⟩⟩⟩
    rw [em] at hl hp ⊢
    have s1 := same_new (o := .lst (ms.map V.int)) hq
    have s2 := same_new (o := .lst (ms.map V.int)) hl
    have s3 := same_new (o := .lst [.ref l, .int 0, .int 0]) hp
    have hl' : (upd (upd H q (.lst (ms.map V.int))) l (.lst (ms.map V.int))) l = some (.lst (ms.map V.int)) := upd_same
    exact k p l _ ((s1.trans s2).free hp) ⟨ms, 0, 0, upd_same, s3 _ _ hl', ne_of_none hl' hp, by omega, by decide, by decide, by decide⟩ ((s1.trans s2).trans s3)
theorem ok_pick {f fD : Addr} {fd fdD : FuncData} (F : FnP K "_law_pick" "_law_pick" s_pick f fd) (FD : FnP K "_law_draw" "_law_draw" s_draw fD fdD) (gD : mg "_law_draw" = some (.ref fD)) (T : Txt K mg) : FnOk P w K mg base CX0 2 f fd ["_law_pen_here", "_law_some"] (spPickL K) := by
  have zlen : mg "len" = none := T.bl (by decide +kernel)
  have G_draw : FnOk P w K mg base CX0 1 fD fdD ["_law_pen_here", "_law_many"] spDrawL := ok_draw FD T
  have b_draw : Binds K fdD ["_law_pen_here", "_law_many"] [] := FD.bindsN fun _ _ _ _ _ _ us hl => match us, hl with | [_, _], _ => rfl
  refine F.ok sc_pick (fun vs H Q E h => ?_) (fun cdv A outer s H vs Q E hr h => ?_)
  · obtain ⟨p, l, q, xs, c, rfl, _⟩ := h
    rfl
  · obtain ⟨p, l, q, xs, c, rfl, hS, hqp, hx0, hx1, hP, hc, k⟩ := h
    refine ⟨_, PSs.nox (pss_one (ps_ret (pe_ix ix_list (pv 1) (pe_call G_draw (hr.mono (by decide)) rfl gD FD.kp b_draw .nil pass0 (pa_cons (pv 0) (pa_cons (pe_callB call_len (by rfl) zlen (by decide +kernel) (pa_cons (pv 1) pa_nil)) pa_nil))) (fun _ _ => rfl)))), ?_⟩
    refine ⟨_, rfl, _, rfl, _, rfl, _, _, rfl, .inl ⟨xs, hS, rfl⟩, p, l, (xs.length : Int), c, rfl, by omega, by omega, hP, hc, fun r H' h0 h1 hP' hB => ?_⟩
    have hlt : r.toNat < xs.length := by omega
    exact ⟨q, xs, r, _, rfl, rfl, hB.seq hqp hS, atI_of h0 (List.getElem?_eq_getElem hlt), k _ H' (List.getElem_mem hlt) hP' hB⟩
end
end K03
namespace K03
open PySem PySem.Spec PyProof.Rows L2 He Tw
/-! ### the program -/
def rankOk : V → Bool
  | .int i => decide (-beyond < i) && decide (i < beyond)
  | _ => false
def textOk (z : Str) : Bool := decide (z.length ≤ 8) && z.cps.toList.all fun c => decide (c ∈ letters.cps.toList)
def nameOk : V → Bool
  | .str z => textOk z
  | _ => false
/-- an item of rank i and name z -/
def It (K : Fg) (H : Hp) (a : Addr) (i : Int) (z : Str) : Prop := ∃ dx, H a = some (.ins (ga K "Item") dx [("rank", .int i), ("name", .str z)])
theorem It.same {K : Fg} {H H' : Hp} {a : Addr} {i : Int} {z : Str} (e : Same H H') (h : It K H a i z) : It K H' a i z := by
  obtain ⟨dx, h⟩ := h
  exact ⟨dx, e _ _ h⟩
def spIni (C : Addr) (f : Str) : Sp := fun vs H Q _ => ∃ (a : Addr) (v : V), vs = [.ref a, v] ∧ H a = some (exo a C none) ∧ ∀ (d : Addr) (H' : Hp), H d = none → d ≠ a → H' a = some (exo a C (some d)) → H' d = some (exd d [(f, v)]) → But a H H' → Q .non H'
def spNum : Sp := fun vs H Q _ => ∃ (x : V) (T : String), vs = [x] ∧ Bv H x T ∧ Q (.bl (isI x)) H
def spRank : Sp := fun vs H Q _ => ∃ (x : V) (T : String), vs = [x] ∧ Bv H x T ∧ Q (.bl (rankOk x)) H
def spLet : Sp := fun vs H Q _ => ∃ (x : V) (T : String), vs = [x] ∧ Bv H x T ∧ (∀ z, x = .str z → z.length ≤ 1000) ∧ ∀ H', Same H H' → Q (.bl (nameOk x)) H'
section
variable {P : Program} {w : World} {K : Fg} {mg : Str → Option Value} {base : Heap}
abbrev s_err (i : Nat) : Stmt := inClass (topS i) 0
theorem sc_BadItem : FnScope ["self", "part"] ["self", "part"] (defScope (s_err 5)) := ⟨rfl, rfl, rfl, by decide +kernel, rfl, by decide +kernel, by decide +kernel⟩
theorem ok_BadItem {f : Addr} {fd : FuncData} (F : FnP K "__init__" "BadItem.__init__" (s_err 5) f fd) (T : Txt K mg) : FnOk P w K mg base CX0 1 f fd ["self", "part"] (spIni (ga K "BadItem") "part") := by
  have m : (("BadItem", 5, "part") : Str × Nat × Str) ∈ errs := by decide +kernel
  refine F.ok sc_BadItem (fun vs H Q E h => ?_) (fun cdv A outer s H vs Q E hr h => ?_)
  · obtain ⟨a, v, rfl, _⟩ := h
    rfl
  · obtain ⟨a, v, rfl, ha, k⟩ := h
    refine ⟨_, PSs.nox (pss_one (ps_ost (pv 0) (pv 1))), ?_⟩
    refine ⟨_, rfl, _, rfl, a, _, rfl, (T.xc m).ox, T.no m, .inl ⟨ha, fun d hd hda => k d _ hd hda upd_same (by rw [upd_ne hda]; exact upd_same) fun b o hb hba => ?_⟩⟩
    rw [upd_ne hba, upd_ne (ne_of_none hb hd)]
    exact hb
theorem sc_BadPlace : FnScope ["self", "at"] ["self", "at"] (defScope (s_err 6)) := ⟨rfl, rfl, rfl, by decide +kernel, rfl, by decide +kernel, by decide +kernel⟩
theorem ok_BadPlace {f : Addr} {fd : FuncData} (F : FnP K "__init__" "BadPlace.__init__" (s_err 6) f fd) (T : Txt K mg) : FnOk P w K mg base CX0 1 f fd ["self", "at"] (spIni (ga K "BadPlace") "at") := by
  have m : (("BadPlace", 6, "at") : Str × Nat × Str) ∈ errs := by decide +kernel
  refine F.ok sc_BadPlace (fun vs H Q E h => ?_) (fun cdv A outer s H vs Q E hr h => ?_)
  · obtain ⟨a, v, rfl, _⟩ := h
    rfl
  · obtain ⟨a, v, rfl, ha, k⟩ := h
    refine ⟨_, PSs.nox (pss_one (ps_ost (pv 0) (pv 1))), ?_⟩
    refine ⟨_, rfl, _, rfl, a, _, rfl, (T.xc m).ox, T.no m, .inl ⟨ha, fun d hd hda => k d _ hd hda upd_same (by rw [upd_ne hda]; exact upd_same) fun b o hb hba => ?_⟩⟩
    rw [upd_ne hba, upd_ne (ne_of_none hb hd)]
    exact hb
theorem sc_Disordered : FnScope ["self", "at"] ["self", "at"] (defScope (s_err 7)) := ⟨rfl, rfl, rfl, by decide +kernel, rfl, by decide +kernel, by decide +kernel⟩
theorem ok_Disordered {f : Addr} {fd : FuncData} (F : FnP K "__init__" "Disordered.__init__" (s_err 7) f fd) (T : Txt K mg) : FnOk P w K mg base CX0 1 f fd ["self", "at"] (spIni (ga K "Disordered") "at") := by
  have m : (("Disordered", 7, "at") : Str × Nat × Str) ∈ errs := by decide +kernel
  refine F.ok sc_Disordered (fun vs H Q E h => ?_) (fun cdv A outer s H vs Q E hr h => ?_)
  · obtain ⟨a, v, rfl, _⟩ := h
    rfl
  · obtain ⟨a, v, rfl, ha, k⟩ := h
    refine ⟨_, PSs.nox (pss_one (ps_ost (pv 0) (pv 1))), ?_⟩
    refine ⟨_, rfl, _, rfl, a, _, rfl, (T.xc m).ox, T.no m, .inl ⟨ha, fun d hd hda => k d _ hd hda upd_same (by rw [upd_ne hda]; exact upd_same) fun b o hb hba => ?_⟩⟩
    rw [upd_ne hba, upd_ne (ne_of_none hb hd)]
    exact hb
theorem sc_TooMany : FnScope ["self", "most"] ["self", "most"] (defScope (s_err 8)) := ⟨rfl, rfl, rfl, by decide +kernel, rfl, by decide +kernel, by decide +kernel⟩
theorem ok_TooMany {f : Addr} {fd : FuncData} (F : FnP K "__init__" "TooMany.__init__" (s_err 8) f fd) (T : Txt K mg) : FnOk P w K mg base CX0 1 f fd ["self", "most"] (spIni (ga K "TooMany") "most") := by
  have m : (("TooMany", 8, "most") : Str × Nat × Str) ∈ errs := by decide +kernel
  refine F.ok sc_TooMany (fun vs H Q E h => ?_) (fun cdv A outer s H vs Q E hr h => ?_)
  · obtain ⟨a, v, rfl, _⟩ := h
    rfl
  · obtain ⟨a, v, rfl, ha, k⟩ := h
    refine ⟨_, PSs.nox (pss_one (ps_ost (pv 0) (pv 1))), ?_⟩
    refine ⟨_, rfl, _, rfl, a, _, rfl, (T.xc m).ox, T.no m, .inl ⟨ha, fun d hd hda => k d _ hd hda upd_same (by rw [upd_ne hda]; exact upd_same) fun b o hb hba => ?_⟩⟩
    rw [upd_ne hba, upd_ne (ne_of_none hb hd)]
    exact hb
abbrev s_num : Stmt := topS 15
theorem sc_num : FnScope ["value"] ["value"] (defScope s_num) := ⟨rfl, rfl, rfl, by decide +kernel, rfl, by decide +kernel, by decide +kernel⟩
theorem ok_num {f : Addr} {fd : FuncData} (F : FnP K "is_number" "is_number" s_num f fd) (T : Txt K mg) : FnOk P w K mg base CX0 1 f fd ["value"] spNum := by
  have zisi : mg "isinstance" = none := T.bl (by decide +kernel)
  have zint : mg "int" = none := T.bl (by decide +kernel)
  have zbool : mg "bool" = none := T.bl (by decide +kernel)
  refine F.ok sc_num (fun vs H Q E h => ?_) (fun cdv A outer s H vs Q E hr h => ?_)
  · obtain ⟨x, t, rfl, _⟩ := h
    rfl
  · obtain ⟨x, t, rfl, b, k⟩ := h
    refine ⟨_, PSs.nox (pss_one (ps_ret (pe_and (pe_callB call_isA (by rfl) zisi (by decide +kernel) (pa_cons (pv 0) (pa_cons (pe_bltn (v := .ty "int") (by rfl) zint (by decide +kernel) rfl) pa_nil))) (pe_one (pe_not (pe_callB call_isA (by rfl) zisi (by decide +kernel) (pa_cons (pv 0) (pa_cons (pe_bltn (v := .ty "bool") (by rfl) zbool (by decide +kernel) rfl) pa_nil)))))))), ?_⟩
    obtain ⟨k1, k2, k3⟩ := b.kits (K := K)
    refine ⟨_, rfl, x, .ty "int", _, _, _, rfl, .ty "int", .inl b.ty, k3, _, rfl, ?_⟩
    cases x with
    | bl y => exact ⟨_, rfl, .bl y, .ty "bool", _, _, _, rfl, .ty "bool", .inl b.ty, k2, _, rfl, k⟩
    | int i => exact ⟨_, rfl, .int i, .ty "bool", _, _, _, rfl, .ty "bool", .inl b.ty, k2, _, rfl, k⟩
    | _ => exact k
abbrev s_rnk : Stmt := topS 16
theorem sc_rnk : FnScope ["value"] ["value"] (defScope s_rnk) := ⟨rfl, rfl, rfl, by decide +kernel, rfl, by decide +kernel, by decide +kernel⟩
theorem ok_rnk {f fN : Addr} {fd fdN : FuncData} (F : FnP K "is_rank" "is_rank" s_rnk f fd) (FN : FnP K "is_number" "is_number" s_num fN fdN) (gN : mg "is_number" = some (.ref fN)) (T : Txt K mg) : FnOk P w K mg base CX0 2 f fd ["value"] spRank := by
  obtain ⟨tb, gB⟩ := T.beyond
  have G_num : FnOk P w K mg base CX0 1 fN fdN ["value"] spNum := ok_num FN T
  have b_num : Binds K fdN ["value"] [] := FN.bindsN fun _ _ _ _ _ _ us hl => match us, hl with | [_], _ => rfl
  refine F.ok sc_rnk (fun vs H Q E h => ?_) (fun cdv A outer s H vs Q E hr h => ?_)
  · obtain ⟨x, t, rfl, _⟩ := h
    rfl
  · obtain ⟨x, t, rfl, b, k⟩ := h
    refine ⟨_, PSs.nox (pss_one (ps_ret (pe_and (pe_call G_num (hr.mono (by decide)) rfl gN FN.kp b_num .nil pass0 (pa_cons (pv 0) pa_nil)) (pe_one (pe_chain op_lt op_lt (pe_un un_neg (pe_glob (v := .int beyond) rfl gB ⟨_, rfl⟩)) (pv 0) (pe_glob (v := .int beyond) rfl gB ⟨_, rfl⟩)))))), ?_⟩
    refine ⟨_, rfl, x, t, rfl, b, _, rfl, ?_⟩
    cases x with
    | int i =>
      refine ⟨_, rfl, _, rfl, _, _, rfl, rfl, _, rfl, ?_⟩
      have e : rankOk (.int i) = (decide (-beyond < i) && decide (i < beyond)) := rfl
      rw [e] at k
      by_cases h1 : -beyond < i
      · rw [decide_eq_true h1, Bool.true_and] at k
        rw [if_pos (decide_eq_true h1)]
        exact ⟨_, _, rfl, rfl, k⟩
      · rw [decide_eq_false h1, Bool.false_and] at k
        rw [decide_eq_false h1]
        exact k
    | _ => exact k
end
end K03
namespace K03
open PySem PySem.Spec PyProof.Rows L2 He Tw
abbrev s_let : Stmt := topS 12
abbrev N_let : List Str := ["value", "sign"]
theorem sc_let : FnScope N_let ["value"] (defScope s_let) := ⟨rfl, rfl, rfl, by decide +kernel, rfl, by decide +kernel, by decide +kernel⟩
def inL (c : Nat) : Bool := decide (c ∈ letters.cps.toList)
theorem all_bl (l : List Nat) : ((l.map inL).all id) = l.all inL := by
  induction l with
  | nil => rfl
  | cons c r ih => rw [List.map_cons, List.all_cons, List.all_cons, ih]; rfl
section
variable {P : Program} {w : World} {K : Fg} {mg : Str → Option Value} {base : Heap}
theorem ok_let {f : Addr} {fd : FuncData} (F : FnP K "is_lettered" "is_lettered" s_let f fd) (T : Txt K mg) : FnOk P w K mg base CX0 1 f fd ["value"] spLet := by
  have zisi : mg "isinstance" = none := T.bl (by decide +kernel)
  have zstr : mg "str" = none := T.bl (by decide +kernel)
  have zlen : mg "len" = none := T.bl (by decide +kernel)
  have zall : mg "all" = none := T.bl (by decide +kernel)
  obtain ⟨tL, gL⟩ := T.longest
  obtain ⟨tS, gS⟩ := T.letters
  refine F.ok sc_let (fun vs H Q E h => ?_) (fun cdv A outer s H vs Q E hr h => ?_)
  · obtain ⟨x, t, rfl, _⟩ := h
    rfl
  · obtain ⟨x, t, rfl, b, hz, k⟩ := h
    refine ⟨_, PSs.nox (pss_cons (ps_if (PW.pt (pw_or (pt_not (pt_val (pe_callB call_isA (by rfl) zisi (by decide +kernel) (pa_cons (pv 0) (pa_cons (pe_bltn (v := .ty "str") (by rfl) zstr (by decide +kernel) rfl) pa_nil))))) (pw_or1 (pt_cmpR op_gt (pe_callB call_len (by rfl) zlen (by decide +kernel) (pa_cons (pv 0) pa_nil)) (pe_glob (v := .int 8) rfl gL ⟨_, rfl⟩) (nomark _))))) (pss_one (ps_ret pe_bl)) pss_nil)
    (pss_one (ps_ret (pe_callB (cr_all rfl) (by rfl) zall (by decide +kernel) (pa_cons (pe_lc (own := [("sign", 1)]) (g := gName 1) (tt := tYes) (by rfl) sc_let.nd (pi_str (pv 0)) (blkOk_by (own := [("sign", 1)]) (N := N_let) (sc := defScope s_let) (by decide +kernel)) (fun _ _ _ _ _ => (pg_name (i := 1) sc_let.nd rfl (Or.inl rfl))) (fun _ _ _ _ _ => pts_nil) (fun _ _ _ _ _ => (pe_cmpR op_in_sign (pv 1) (pe_glob (v := .str letters) rfl gS ⟨_, rfl⟩) rfl))) pa_nil))))), ?_⟩
    obtain ⟨k1, k2, k3⟩ := b.kits (K := K)
    refine ⟨_, rfl, x, .ty "str", _, _, _, rfl, .ty "str", .inl b.ty, k1, _, rfl, ?_⟩
    cases x with
    | str z =>
      have hl := hz z rfl
      refine ⟨_, rfl, _, _, rfl, ⟨Nat.le_trans hl (by decide), rfl⟩, _, _, rfl, rfl, _, rfl, ?_⟩
      refine ite2 (fun h => ?_) (fun h => ?_)
      · have h2 : ¬ z.length ≤ 8 := by
          have := of_decide_eq_true h
          omega
        have e : nameOk (.str z) = false := by
          show (decide (z.length ≤ 8) && _) = false
          rw [decide_eq_false h2, Bool.false_and]
        rw [e] at k
        exact k H fun _ _ q => q
      · have h2 : z.length ≤ 8 := by
          have h3 : ¬ (8 : Int) < (z.length : Int) := fun y => h (decide_eq_true y)
          omega
        have e : nameOk (.str z) = z.cps.toList.all inL := by
          show (decide (z.length ≤ 8) && _) = _
          rw [decide_eq_true h2, Bool.true_and]
          rfl
        rw [e] at k
        refine ⟨_, rfl, z, rfl, fun D hD => lcStr (fun i H' => Same H H' ∧ H' D = some (.lst (((z.cps.toList.take i).map inL).map V.bl))) ⟨same_new hD, upd_same⟩ ?_ ?_⟩
        · rintro i c H' hc ⟨sD, gD⟩
          refine ⟨rfl, _, rfl, c, letters, rfl, rfl, _, gD, ?_, ?_, ?_⟩
          · rw [List.length_map, List.length_map]
            exact Nat.lt_of_le_of_lt (List.length_take_le' _ _) (Nat.lt_of_le_of_lt (show z.cps.toList.length ≤ 8 from h2) (by decide))
          · exact fun b o hb => by
              rw [upd_ne (ne_of_none hb hD)]
              exact sD b o hb
          · have hc2 : z.cps.toList[i]? = some c := by rw [Array.getElem?_toList]; exact hc
            rw [upd_same, List.take_add_one, hc2, List.map_append, List.map_append]
            rfl
        · rintro H' ⟨sD, gD⟩
          have e2 : z.cps.toList.take z.cps.size = z.cps.toList := List.take_of_length_le (Nat.le_of_eq (by simp))
          rw [e2] at gD
          refine ⟨D, _, rfl, SqL.of gD, ?_⟩
          rw [all_bl]
          exact k H' sD
    | _ => exact k H fun _ _ q => q
end
/-- what Item.__init__ does: the fields stand, or BadItem goes out with the part -/
def spItem (K : Fg) : Sp := fun vs H Q E => ∃ (a dx : Addr) (x y : V) (t u : String), vs = [.ref a, x, y] ∧ H a = some (.ins (ga K "Item") dx []) ∧ Bv H x t ∧ Bv H y u ∧ (∀ z, y = .str z → z.length ≤ 1000) ∧
  (rankOk x = true → nameOk y = true → ∀ H', But a H H' → H' a = some (.ins (ga K "Item") dx [("rank", x), ("name", y)]) → Q .non H') ∧
  (rankOk x = false ∨ nameOk y = false → ∀ (d : Addr) (H' : Hp), Same H H' → H' d = some (.xd [("part", .str (if rankOk x = true then "name" else "rank"))]) → E (.ref (ga K "BadItem")) (some d) H')
theorem bad_out {H : Hp} {C : Addr} {z : Str} {Q : XK} {E : XK} (k : ∀ (d : Addr) (H' : Hp), Same H H' → H' d = some (.xd [("part", .str z)]) → Q (.ref C) (some d) H') :
    ([V.str z] : List V).length ≤ 1000 ∧ ∀ a, H a = none → spIni C "part" (.ref a :: (([V.str z] : List V) ++ [])) (upd H a (exo a C none)) (fun v H2 => v = .non ∧ ∃ (d : Addr) (fs : List (Str × V)), H2 a = some (exo a C (some d)) ∧ H2 d = some (exd d fs) ∧ H d = none ∧ Q (.ref C) (some d) (upd (del H2 a) d (.xd fs))) E := by
  refine ⟨(by show 1 ≤ 1000; decide), fun a ha => ⟨a, .str z, rfl, upd_same, fun d H' hd hda e1 e2 e3 => ?_⟩⟩
  rw [upd_ne hda] at hd
  refine ⟨rfl, d, _, e1, e2, hd, k d _ (fun b o hb => ?_) upd_same⟩
  have hba : b ≠ a := ne_of_none hb ha
  rw [upd_ne (ne_of_none hb hd), del_ne hba]
  exact e3 b o (by rw [upd_ne hba]; exact hb) hba
abbrev s_item : Stmt := inClass (topS 17) 0
theorem sc_item : FnScope ["self", "rank", "name"] ["self", "rank", "name"] (defScope s_item) := ⟨rfl, rfl, rfl, by decide +kernel, rfl, by decide +kernel, by decide +kernel⟩
abbrev FnI (K : Fg) (f : Addr) (fd : FuncData) : Prop := FunD K "__init__" "Item.__init__" (defArgs s_item) (defBody s_item) (defScope s_item) [.str ""] [] f fd
section
variable {P : Program} {w : World} {K : Fg} {mg : Str → Option Value} {base : Heap}
theorem ok_item {f fR fL fB : Addr} {fd fdR fdL fdB fdN : FuncData} {fN : Addr} (F : FnI K f fd) (FR : FnP K "is_rank" "is_rank" s_rnk fR fdR) (gR : mg "is_rank" = some (.ref fR)) (FN : FnP K "is_number" "is_number" s_num fN fdN) (gN : mg "is_number" = some (.ref fN))
    (FL : FnP K "is_lettered" "is_lettered" s_let fL fdL) (gL : mg "is_lettered" = some (.ref fL)) (FB : FnP K "__init__" "BadItem.__init__" (s_err 5) (ma K (ga K "BadItem") "__init__") fdB) (T : Txt K mg) : FnOk P w K mg base (L2.CX P w) 3 f fd ["self", "rank", "name"] (spItem K) := by
  have gB : mg "BadItem" = some (.ref (ga K "BadItem")) := T.cl (by decide +kernel)
  have G_rnk : FnOk P w K mg base CX0 2 fR fdR ["value"] spRank := ok_rnk FR FN gN T
  have G_let : FnOk P w K mg base CX0 1 fL fdL ["value"] spLet := ok_let FL T
  have G_bad : FnOk P w K mg base CX0 1 _ fdB ["self", "part"] (spIni (ga K "BadItem") "part") := ok_BadItem FB T
  have b_rnk : Binds K fdR ["value"] [] := FR.bindsN fun _ _ _ _ _ _ us hl => match us, hl with | [_], _ => rfl
  have b_let : Binds K fdL ["value"] [] := FL.bindsN fun _ _ _ _ _ _ us hl => match us, hl with | [_], _ => rfl
  have b_bad : Binds K fdB ["self", "part"] [] := FB.bindsN fun _ _ _ _ _ _ us hl => match us, hl with | [_, _], _ => rfl
  have mB : (("BadItem", 5, "part") : Str × Nat × Str) ∈ errs := by decide +kernel
  obtain ⟨iB, tB⟩ := T.ini mB
  refine F.ok sc_item (fun vs H Q E h => ?_) (fun cdv A outer s H vs Q E hr h => ?_)
  · obtain ⟨a, dx, x, y, t, u, rfl, _⟩ := h
    rfl
  · obtain ⟨a, dx, x, y, t, u, rfl, ha, bx, bY, hz, kn, kx⟩ := h
    refine ⟨_, (pss_cons (ps_if (pt_not (pt_val (pe_call G_rnk (hr.mono (by decide)) rfl gR FR.kp b_rnk .nil pass0 (pa_cons (pv 1) pa_nil)))) (pss_one (ps_raise rfl (takes_of rfl rfl rfl rfl) (pmk_oex (T.xc mB).ox iB tB G_bad (hr.mono (by decide)) b_bad .nil pass0 rfl gB (pa_cons pe_str pa_nil)))) pss_nil)
    (pss_cons (ps_if (pt_not (pt_val (pe_call G_let (hr.mono (by decide)) rfl gL FL.kp b_let .nil pass0 (pa_cons (pv 2) pa_nil)))) (pss_one (ps_raise rfl (takes_of rfl rfl rfl rfl) (pmk_oex (T.xc mB).ox iB tB G_bad (hr.mono (by decide)) b_bad .nil pass0 rfl gB (pa_cons pe_str pa_nil)))) pss_nil)
    (pss_cons (ps_fld (pv 0) (pv 1) rfl)
    (pss_one (ps_fld (pv 0) (pv 2) rfl))))), ?_⟩
    refine ⟨_, rfl, x, t, rfl, bx, _, rfl, ?_⟩
    cases hx : rankOk x with
    | false =>
      rw [hx] at kx
      exact bad_out (kx (.inl rfl))
    | true =>
      rw [hx] at kx kn
      refine ⟨_, rfl, y, u, rfl, bY, hz, fun H1 s1 => ⟨_, rfl, ?_⟩⟩
      cases hy : nameOk y with
      | false =>
        rw [hy] at kx
        exact bad_out fun d H' s2 hd => kx (.inr rfl) d H' (s1.trans s2) hd
      | true =>
        rw [hy] at kn
        refine ⟨_, rfl, _, rfl, a, _, dx, _, rfl, s1 _ _ ha, T.cls, T.na (by decide +kernel), (by show 0 < 1000; decide), ?_⟩
        refine ⟨_, rfl, _, rfl, a, _, dx, _, rfl, upd_same, T.cls, T.na (by decide +kernel), (by show 1 < 1000; decide), ?_⟩
        exact kn rfl rfl _ (((But.of s1).trans But.upd).trans But.upd) upd_same
end
end K03
namespace K03
open PySem PySem.Spec PyProof.Rows L2 He Tw
theorem It.ty {K : Fg} {mg : Str → Option Value} {H : Hp} (T : Txt K mg) {a : Addr} {i : Int} {z : Str} (h : It K H a i z) : TyX K H (.ref a) (.ref (ga K "Item")) := by
  obtain ⟨dx, h⟩ := h
  exact .base (.ins h T.cls (T.ob (by decide +kernel)).2 T.xo.hn T.xo.ht (T.ob (by decide +kernel)).1)
theorem bv_kind {H : Hp} {x : V} {T : String} (h : Bv H x T) : T ∈ kinds := by
  cases h <;> decide
/-- what may stand for an item: an item, a rank, or anything plain that is neither -/
inductive Vv (K : Fg) (H : Hp) : V → Option (Int × Str) → Prop where
  | item {a : Addr} {i : Int} {z : Str} (h : It K H a i z) : Vv K H (.ref a) (some (i, z))
  | int {i : Int} (h : rankOk (.int i) = true) : Vv K H (.int i) (some (i, ""))
  | bad {x : V} {t : String} (h : Bv H x t) (b : rankOk x = false) : Vv K H x none
theorem Vv.same {K : Fg} {H H' : Hp} {x : V} {o : Option (Int × Str)} (e : Same H H') (h : Vv K H x o) : Vv K H' x o := by
  cases h with
  | item h => exact .item (h.same e)
  | int h => exact .int h
  | bad h b => exact .bad (h.same e) b
/-- references to items of these ranks and names -/
def Its (K : Fg) (H : Hp) (ys : List V) (ps : List (Int × Str)) : Prop := Paired (fun y p => ∃ a, y = V.ref a ∧ It K H a p.1 p.2) ys ps
theorem Its.same {K : Fg} {H H' : Hp} (e : Same H H') : ∀ {ys : List V} {ps : List (Int × Str)}, Its K H ys ps → Its K H' ys ps
  | _, _, .nil => .nil
  | _, _, .cons ⟨a, h1, h2⟩ t => .cons ⟨a, h1, h2.same e⟩ (Its.same e t)
theorem Its.snoc {K : Fg} {H : Hp} : ∀ {ys : List V} {ps : List (Int × Str)} {a : Addr} {p : Int × Str}, Its K H ys ps → It K H a p.1 p.2 → Its K H (ys ++ [.ref a]) (ps ++ [p])
  | _, _, _, _, .nil, h => .cons ⟨_, rfl, h⟩ .nil
  | _, _, _, _, .cons x t, h => .cons x (Its.snoc t h)
/-- a row with these items -/
def RowAt (K : Fg) (H : Hp) (a : Addr) (xs : List V) : Prop := ∃ dx t, H a = some (.ins (ga K "Row") dx [("state", .ref t)]) ∧ H t = some (.tup xs)
/-- what a row can be made of -/
def Seq (K : Fg) (H : Hp) (q : Addr) (xs : List V) : Prop := SqL K H q xs ∨ SqT K H q xs ∨ RowAt K H q xs
def spAs (K : Fg) : Sp := fun vs H Q E => ∃ (q : Addr) (xs : List V) (os : List (Option (Int × Str))), vs = [.ref q] ∧ Seq K H q xs ∧ xs.length ≤ 900 ∧ os.length = xs.length ∧ (∀ (i : Nat) (x : V), xs[i]? = some x → ∃ o : Option (Int × Str), os[i]? = some o ∧ Vv K H x o) ∧
  (∀ (ps : List (Int × Str)) (l : Addr) (H' : Hp) (ys : List V), os = ps.map some → H l = none → Same H H' → H' l = some (.lst ys) → Its K H' ys ps → Q (.ref l) H') ∧
  (∀ (n : Nat) (ps : List (Int × Str)) (d : Addr) (H' : Hp), ps.length = n → (∀ (m : Nat) (p : Int × Str), ps[m]? = some p → os[m]? = some (some p)) → os[n]? = some none → Same H H' → H' d = some (.xd [("part", .int (n : Nat))]) → E (.ref (ga K "BadItem")) (some d) H')
theorem err_out {H : Hp} {C : Addr} {f : Str} {v : V} {Q : XK} {E : XK} (k : ∀ (d : Addr) (H' : Hp), Same H H' → H' d = some (.xd [(f, v)]) → Q (.ref C) (some d) H') :
    ([v] : List V).length ≤ 1000 ∧ ∀ a, H a = none → spIni C f (.ref a :: (([v] : List V) ++ [])) (upd H a (exo a C none)) (fun u H2 => u = .non ∧ ∃ (d : Addr) (fs : List (Str × V)), H2 a = some (exo a C (some d)) ∧ H2 d = some (exd d fs) ∧ H d = none ∧ Q (.ref C) (some d) (upd (del H2 a) d (.xd fs))) E := by
  refine ⟨(by show 1 ≤ 1000; decide), fun a ha => ⟨a, v, rfl, upd_same, fun d H' hd hda e1 e2 e3 => ?_⟩⟩
  rw [upd_ne hda] at hd
  refine ⟨rfl, d, _, e1, e2, hd, k d _ (fun b o hb => ?_) upd_same⟩
  have hba : b ≠ a := ne_of_none hb ha
  rw [upd_ne (ne_of_none hb hd), del_ne hba]
  exact e3 b o (by rw [upd_ne hba]; exact hb) hba
abbrev s_iter : Stmt := inClass (topS 25) 4
theorem sc_iter : FnScope ["self"] ["self"] (defScope s_iter) := ⟨rfl, rfl, rfl, by decide +kernel, rfl, by decide +kernel, by decide +kernel⟩
section
variable {P : Program} {w : World} {K : Fg} {mg : Str → Option Value} {base : Heap}
theorem ok_iter {f : Addr} {fd : FuncData} (F : FnP K "__iter__" "Row.__iter__" s_iter f fd) (T : Txt K mg) : FnN P w K mg base CX0 1 f fd ["self"] (spIter (ga K "Row") "state") := by
  have zit : mg "iter" = none := T.bl (by decide +kernel)
  refine F.okN sc_iter (fun n vs H Q E h => ?_) (fun cdv A outer s H vs Q E hr h => ?_)
  · obtain ⟨a, dx, t, fs, zs, rfl, _⟩ := h
    rfl
  · obtain ⟨a, dx, t, fs, zs, rfl, ha, hl, ht, k⟩ := h
    refine ⟨_, (pss_one (ps_ret (pe_callB call_iterT (by rfl) zit (by decide +kernel) (pa_cons (pe_fld (pv 0) rfl) pa_nil)))), ?_⟩
    exact ⟨_, rfl, a, _, dx, _, _, rfl, ha, T.clsR, T.naR, hl, t, zs, rfl, SqT.of ht, fun it H' h0 hn sm e => k it H' h0 hn sm e⟩
abbrev s_as : Stmt := topS 19
abbrev N_as : List Str := ["values", "found", "k", "value"]
theorem sc_as : FnScope N_as ["values"] (defScope s_as) := ⟨rfl, rfl, rfl, by decide +kernel, rfl, by decide +kernel, by decide +kernel⟩
/-- the item's class, its def, all ways it is called -/
structure Itm (P : Program) (w : World) (K : Fg) (mg : Str → Option Value) (base : Heap) (fd : FuncData) (d2 : List Value) : Prop where
  ok : FnOk P w K mg base (L2.CX P w) 3 (ma K (ga K "Item") "__init__") fd ["self", "rank", "name"] (spItem K)
  b : Binds K fd ["self", "rank", "name"] []
  r2 : Vals [.str ""] d2
  b2 : Binds K fd ["self", "rank", "name"] d2
/-- the row's __iter__ -/
structure Wlk (P : Program) (w : World) (K : Fg) (mg : Str → Option Value) (base : Heap) (fd : FuncData) : Prop where
  ok : FnN P w K mg base CX0 1 (ma K (ga K "Row") "__iter__") fd ["self"] (spIter (ga K "Row") "state")
  b : Binds K fd ["self"] []
theorem seq_same {K : Fg} {H H' : Hp} {q : Addr} {xs : List V} (e : Same H H') (h : Seq K H q xs) : Seq K H' q xs := by
  rcases h with h | h | ⟨dx, t, h1, h2⟩
  · exact .inl (e.seq h)
  · exact .inr (.inl (sqT_same e h))
  · exact .inr (.inr ⟨dx, t, e _ _ h1, e _ _ h2⟩)
/-- an iterator that is there -/
def iAt (J : L2.It) : TI := fun _ H R => R J H
theorem enumA_for {K : Fg} {H H1 : Hp} {ta : TA} {g : TG} {tb : TS} {D : Ends} {σ : L2.St} {q : Addr} {xs : List V} (ht : ∀ R : List V → Hp → Prop, R [.ref q] H1 → ta σ H1 R) (s1 : Same H H1) (hS : Seq K H q xs)
    (h : ∀ (G : Hp → List V → Prop) (H2 : Hp), Same H1 H2 → (∀ H', Same H H' → G H' xs) → tFor (iAt (IteG G)) g tb D σ H2) : tFor (iEnumA K (ga K "Row") "state" ta) g tb D σ H1 := by
  have rf : Same H1 H1 := fun _ _ e => e
  refine ht _ ?_
  rcases hS with g | g | ⟨dx, t, g1, g2⟩
  · exact ⟨q, rfl, .inl ⟨⟨xs, s1.seq g⟩, h _ _ rf fun H' e => e.seq g⟩⟩
  · exact ⟨q, rfl, .inr (.inl ⟨⟨xs, sqT_same s1 g⟩, h _ _ rf fun H' e => sqT_same e g⟩)⟩
  · exact ⟨q, rfl, .inr (.inr ⟨dx, t, _, xs, s1 _ _ g1, rfl, s1 _ _ g2, fun H2 s2 => h _ _ s2 fun H' e => SqT.of (e _ _ g2)⟩)⟩
theorem same_but {H H1 H2 : Hp} {a : Addr} (s : Same H H1) (b : But a H1 H2) (h : H a = none) : Same H H2 := fun c o e => b c o (s c o e) (ne_of_none e h)
theorem same_made {H : Hp} {a dx : Addr} {o u : HO} (hd : H dx = none) (ha : H a = none) (hda : dx ≠ a) : Same H (upd (upd H dx o) a u) := (same_new hd).trans (same_new (by rw [upd_ne hda.symm]; exact ha))
theorem item_mk {K : Fg} {H : Hp} {i : Int} {z : Str} {R : VK} {E : XK} {x dx : Addr} (hx : H x = none) (hd : H dx = none) (hne : dx ≠ x) (hi : rankOk (.int i) = true) (tz : nameOk (.str z) = true) (lz : z.length ≤ 1000) (k : ∀ H' : Hp, It K H' x i z → Same H H' → R .non H') :
    spItem K [.ref x, .int i, .str z] (upd (upd H dx (.own x)) x (.ins (ga K "Item") dx [])) R E := by
  refine ⟨x, dx, .int i, .str z, "int", "str", rfl, upd_same, .int i, .str z, fun y e => ?_, fun _ _ H' b e => k H' ⟨dx, e⟩ (same_but (same_made hd hx hne) b hx), fun h => ?_⟩
  · cases e
    exact lz
  · rw [hi, tz] at h
    rcases h with h | h <;> cases h
theorem it_upd {K : Fg} {H : Hp} {l a : Addr} {us : List V} {o : HO} {i : Int} {z : Str} (hl : H l = some (.lst us)) (h : It K H a i z) : It K (upd H l o) a i z := by
  obtain ⟨dx, h⟩ := h
  refine ⟨dx, ?_⟩
  rw [upd_ne (fun e => by
    rw [e, hl] at h
    cases h)]
  exact h
theorem its_upd {K : Fg} {H : Hp} {l : Addr} {us : List V} {o : HO} (hl : H l = some (.lst us)) : ∀ {ys : List V} {ps : List (Int × Str)}, Its K H ys ps → Its K (upd H l o) ys ps
  | _, _, .nil => .nil
  | _, _, .cons ⟨a, h1, h2⟩ t => .cons ⟨a, h1, it_upd hl h2⟩ (its_upd hl t)
theorem same_upd {H H' : Hp} {l : Addr} {o : HO} (s : Same H H') (h : H l = none) : Same H (upd H' l o) := fun b u e => by
  rw [upd_ne (ne_of_none e h)]
  exact s b u e
theorem ok_as {f fR fN : Addr} {fd fdR fdN fdB fdI fdW : FuncData} {d2 : List Value} (F : FnP K "as_items" "as_items" s_as f fd) (FR : FnP K "is_rank" "is_rank" s_rnk fR fdR) (gR : mg "is_rank" = some (.ref fR)) (FN : FnP K "is_number" "is_number" s_num fN fdN) (gN : mg "is_number" = some (.ref fN))
    (FB : FnP K "__init__" "BadItem.__init__" (s_err 5) (ma K (ga K "BadItem") "__init__") fdB) (I : Itm P w K mg base fdI d2) (W : Wlk P w K mg base fdW) (T : Txt K mg) : FnOk P w K mg base (L2.CX P w) 5 f fd ["values"] (spAs K) := by
  have zisi : mg "isinstance" = none := T.bl (by decide +kernel)
  have zen : mg "enumerate" = none := T.bl (by decide +kernel)
  have gB : mg "BadItem" = some (.ref (ga K "BadItem")) := T.cl (by decide +kernel)
  have gI : mg "Item" = some (.ref (ga K "Item")) := T.cl (by decide +kernel)
  have mB : (("BadItem", 5, "part") : Str × Nat × Str) ∈ errs := by decide +kernel
  obtain ⟨iB, tB⟩ := T.ini mB
  have G_rnk : FnOk P w K mg base CX0 2 fR fdR ["value"] spRank := ok_rnk FR FN gN T
  have G_bad : FnOk P w K mg base CX0 1 _ fdB ["self", "part"] (spIni (ga K "BadItem") "part") := ok_BadItem FB T
  have b_rnk : Binds K fdR ["value"] [] := FR.bindsN fun _ _ _ _ _ _ us hl => match us, hl with | [_], _ => rfl
  have b_bad : Binds K fdB ["self", "part"] [] := FB.bindsN fun _ _ _ _ _ _ us hl => match us, hl with | [_, _], _ => rfl
  have mI := T.mtR (m := "__iter__") (by decide +kernel)
  refine F.ok sc_as (fun vs H Q E h => ?_) (fun cdv A outer s H vs Q E hr h => ?_)
  · obtain ⟨q, xs, os, rfl, _⟩ := h
    rfl
  · obtain ⟨q, xs, os, rfl, hS, hn, ho, hv, kg, kb⟩ := h
    refine ⟨_, (pss_cons (ps_set (i := 1) sc_as.nd rfl (Or.inl rfl) (pe_lstN pa_nil))
    (pss_cons (ps_for (passes_of rfl) rfl (pi_enumA mI.at_ mI.fn W.ok (hr.mono (by decide)) W.b pass0 (E := E0) (by rfl) zen (pa_cons (pv 0) pa_nil)) (pg_tup (by rfl) (pgs_cons (pg_name (i := 2) sc_as.nd rfl (Or.inl rfl)) (pgs_cons (pg_name (i := 3) sc_as.nd rfl (Or.inl rfl)) pgs_nil)))
    (pss_one (ps_if (pt_val (pe_callB call_isA (by rfl) zisi (by decide +kernel) (pa_cons (pv 3) (pa_cons (pe_glob (v := .ref (ga K "Item")) rfl gI rfl) pa_nil)))) (pss_one (ps_expr (pe_bm PySem.F.plainAttrs_list PySem.F.slot_list_append PySem.F.type_list_append mt_append (pv 1) (pa_cons (pv 3) pa_nil)))) (pss_one (ps_if (pt_val (pe_call G_rnk (hr.mono (by decide)) rfl gR FR.kp b_rnk .nil pass0 (pa_cons (pv 3) pa_nil))) (pss_one (ps_expr (pe_bm PySem.F.plainAttrs_list PySem.F.slot_list_append PySem.F.type_list_append mt_append (pv 1) (pa_cons (pe_make (E := E0) T.mkI I.ok (hr.mono (by decide)) rfl gI I.b2 I.r2 passL (pa_cons (pv 3) pa_nil)) pa_nil)))) (pss_one (ps_raise rfl (takes_of rfl rfl rfl rfl) (pmk_oex (T.xc mB).ox iB tB G_bad (hr.mono (by decide)) b_bad .nil pass0 rfl gB (pa_cons (pv 2) pa_nil)))))))))
    (pss_one (ps_ret (pv 1))))), ?_⟩
    refine ⟨sz1000 (Nat.zero_le _), fun l H1 f1 m1 s1 g1 => ?_⟩
    dsimp only [gName]
    unfold tSeq
    refine enumA_for (fun R r => ⟨_, rfl, r⟩) s1 hS fun G H2 s2 still => for_enum (xs := xs) (fun i σ H' => ∃ (kv vv : Option V) (ys : List V) (ps : List (Int × Str)), σ = [some (.ref q), some (.ref l), kv, vv] ∧ Same H H' ∧ H' l = some (.lst ys) ∧ Its K H' ys ps ∧ ps.length = i ∧ ∀ (m : Nat) (p : Int × Str), ps[m]? = some p → os[m]? = some (some p))
      ⟨none, none, [], [], rfl, s1.trans s2, s2 _ _ g1, .nil, rfl, fun m p hp => nomatch hp⟩ (fun i σ H' _ ⟨_, _, _, _, _, sm, _⟩ => still H' sm) ?_ ?_
    · rintro i x t σ H3 H4 hx ⟨kv, vv, ys, ps, rfl, sm, gl, its, hl, hp⟩ ht s4 et
      obtain ⟨o, eo, hv3⟩ := hv i x hx
      have sm4 := sm.trans s4
      have hv4 := hv3.same sm4
      have gl4 := s4 _ _ gl
      have lt : ys.length < sizeLine := by
        have h1 : ys.length = ps.length := Paired.length its
        have h2 : i < xs.length := (List.getElem?_eq_some_iff.mp hx).1
        exact Nat.lt_of_lt_of_le (show ys.length < 1000 by omega) (by decide)
      have snoc : ∀ {p : Int × Str}, o = some p → ∀ (m : Nat) (p' : Int × Str), (ps ++ [p])[m]? = some p' → os[m]? = some (some p') := fun {p} e m p' hm => by
        by_cases h : m < ps.length
        · rw [List.getElem?_append_left h] at hm
          exact hp m p' hm
        · have h2 : m = ps.length := by
            have := (List.getElem?_eq_some_iff.mp hm).1
            rw [List.length_append, List.length_singleton] at this
            omega
          subst h2
          rw [List.getElem?_append_right (Nat.le_refl _), Nat.sub_self] at hm
          cases hm
          rw [hl, eo, e]
      refine ⟨t, _, rfl, SqT.of et, rfl, ?_⟩
      refine ⟨_, _, rfl, _, _, rfl, rfl, ?_⟩
      cases hv4 with
      | @item a j z h =>
        refine ⟨_, rfl, .ref a, .ref (ga K "Item"), _, _, _, rfl, .own _, .inl (h.ty T), T.kitII, _, rfl, ?_⟩
        refine ⟨_, rfl, .inl ⟨rfl, _, SqL.of gl4⟩, _, rfl, l, _, _, rfl, rfl, gl4, lt, ?_⟩
        exact ⟨_, _, ys ++ [.ref a], ps ++ [(j, z)], rfl, same_upd sm4 f1, upd_same, Its.snoc (its_upd gl4 (its.same s4)) (it_upd gl4 h), by rw [List.length_append, hl]; rfl, snoc rfl⟩
      | @int j h =>
        refine ⟨_, rfl, .int j, .ref (ga K "Item"), .type "int", _, _, rfl, .own _, .inl (.base (.int _)), (T.kind (by decide)).1, _, rfl, ?_⟩
        refine ⟨_, rfl, .int j, "int", rfl, .int j, _, rfl, ?_⟩
        rw [h]
        refine ⟨_, rfl, .inl ⟨rfl, _, SqL.of gl4⟩, _, rfl, fun x dx hx1 hd1 hne1 => item_mk hx1 hd1 hne1 h (by decide +kernel) (by decide) fun H5 I5 s5 => ⟨rfl, ?_⟩⟩
        have gl5 := s5 _ _ gl4
        refine ⟨l, _, _, rfl, rfl, gl5, lt, ?_⟩
        exact ⟨_, _, ys ++ [.ref x], ps ++ [(j, ("" : Str))], rfl, same_upd (sm4.trans s5) f1, upd_same, Its.snoc (its_upd gl5 ((its.same s4).same s5)) (it_upd gl5 I5), by rw [List.length_append, hl]; rfl, snoc rfl⟩
      | @bad x t' b nb =>
        refine ⟨_, rfl, x, .ref (ga K "Item"), .type t', _, _, rfl, .own _, .inl b.ty, (T.kind (bv_kind b)).1, _, rfl, ?_⟩
        refine ⟨_, rfl, x, t', rfl, b, _, rfl, ?_⟩
        rw [nb]
        refine ⟨_, rfl, ?_⟩
        exact err_out fun d H5 s5 e5 => kb i ps d H5 hl hp eo (sm4.trans s5) e5
    · rintro σ H3 ⟨kv, vv, ys, ps, rfl, sm, gl, its, hl, hp⟩
      refine ⟨_, rfl, kg ps l H3 ys ?_ f1 sm gl its⟩
      refine List.ext_getElem? fun m => ?_
      by_cases h : m < ps.length
      · rw [List.getElem?_map, List.getElem?_eq_getElem h]
        exact hp m _ (List.getElem?_eq_getElem h)
      · rw [List.getElem?_eq_none (by omega), List.getElem?_eq_none (by rw [List.length_map]; omega)]
end
end K03
namespace K03
open PySem PySem.Spec PyProof.Rows L2 He Tw
def spTwo (K : Fg) (f : Int → Str → Int → Str → Bool) : Sp := fun vs H Q _ => ∃ (a b : Addr) (i j : Int) (z u : Str), vs = [.ref a, .ref b] ∧ It K H a i z ∧ It K H b j u ∧ Q (.bl (f i z j u)) H
def fBefore (i : Int) (_ : Str) (j : Int) (_ : Str) : Bool := decide (i < j)
/-- in order up to n pairs -/
def Up (ps : List (Int × Str)) (n : Nat) : Prop := ∀ (m : Nat) (a b : Int × Str), m < n → ps[m]? = some a → ps[m + 1]? = some b → a.1 ≤ b.1
def spNeed (K : Fg) : Sp := fun vs H Q E => ∃ (l : Addr) (most : Int) (ys : List V) (ps : List (Int × Str)), vs = [.ref l, .int most] ∧ H l = some (.lst ys) ∧ Its K H ys ps ∧ ys.length ≤ 900 ∧
  (Up ps ps.length → (ps.length : Int) ≤ most → Q .non H) ∧
  (∀ (k : Nat) (a b : Int × Str), ps[k]? = some a → ps[k + 1]? = some b → b.1 < a.1 → Up ps k → ∀ (d : Addr) (H' : Hp), Same H H' → H' d = some (.xd [("at", .int (1 + (k : Int)))]) → E (.ref (ga K "Disordered")) (some d) H') ∧
  (Up ps ps.length → most < (ps.length : Int) → ∀ (d : Addr) (H' : Hp), Same H H' → H' d = some (.xd [("most", .int most)]) → E (.ref (ga K "TooMany")) (some d) H')
theorem its_len {K : Fg} {H : Hp} {ys : List V} {ps : List (Int × Str)} (h : Its K H ys ps) : ys.length = ps.length := Paired.length h
theorem its_at {K : Fg} {H : Hp} : ∀ {ys : List V} {ps : List (Int × Str)} {i : Nat} {p : Int × Str}, Its K H ys ps → ps[i]? = some p → ∃ a, ys[i]? = some (V.ref a) ∧ It K H a p.1 p.2
  | _, _, 0, _, .cons ⟨a, h1, h2⟩ _, e => by
    cases e
    exact ⟨a, congrArg some h1, h2⟩
  | _, _, n + 1, _, .cons _ t, e => its_at (i := n) (show Its _ _ _ _ from t) e
abbrev s_bef : Stmt := inClass (topS 17) 3
theorem sc_bef : FnScope ["self", "other"] ["self", "other"] (defScope s_bef) := ⟨rfl, rfl, rfl, by decide +kernel, rfl, by decide +kernel, by decide +kernel⟩
abbrev s_need : Stmt := topS 20
abbrev N_need : List Str := ["items", "most", "k"]
theorem sc_need : FnScope N_need ["items", "most"] (defScope s_need) := ⟨rfl, rfl, rfl, by decide +kernel, rfl, by decide +kernel, by decide +kernel⟩
section
variable {P : Program} {w : World} {K : Fg} {mg : Str → Option Value} {base : Heap}
theorem ok_bef {f : Addr} {fd : FuncData} (F : FnP K "before" "Item.before" s_bef f fd) (T : Txt K mg) : FnOk P w K mg base CX0 1 f fd ["self", "other"] (spTwo K fBefore) := by
  refine F.ok sc_bef (fun vs H Q E h => ?_) (fun cdv A outer s H vs Q E hr h => ?_)
  · obtain ⟨a, b, i, j, z, u, rfl, _⟩ := h
    rfl
  · obtain ⟨a, b, i, j, z, u, rfl, ⟨dx, ha⟩, ⟨db, hb⟩, k⟩ := h
    refine ⟨_, PSs.nox (pss_one (ps_ret (pe_cmpR op_lt (pe_fld (pv 0) rfl) (pe_fld (pv 1) rfl) (nomark _)))), ?_⟩
    exact ⟨_, rfl, a, _, dx, _, _, rfl, ha, T.cls, T.na (by decide +kernel), rfl, _, rfl, b, _, db, _, _, rfl, hb, T.cls, T.na (by decide +kernel), rfl, _, _, rfl, rfl, k⟩
theorem ok_need {f : Addr} {fd fdB fdD fdM : FuncData} (F : FnP K "need_row" "need_row" s_need f fd) (FB : FnP K "before" "Item.before" s_bef (ma K (ga K "Item") "before") fdB)
    (FD : FnP K "__init__" "Disordered.__init__" (s_err 7) (ma K (ga K "Disordered") "__init__") fdD) (FM : FnP K "__init__" "TooMany.__init__" (s_err 8) (ma K (ga K "TooMany") "__init__") fdM) (T : Txt K mg) : FnOk P w K mg base (L2.CX P w) 3 f fd ["items", "most"] (spNeed K) := by
  have zr : mg "range" = none := T.bl (by decide +kernel)
  have zlen : mg "len" = none := T.bl (by decide +kernel)
  have gD : mg "Disordered" = some (.ref (ga K "Disordered")) := T.cl (by decide +kernel)
  have gM : mg "TooMany" = some (.ref (ga K "TooMany")) := T.cl (by decide +kernel)
  have mD : (("Disordered", 7, "at") : Str × Nat × Str) ∈ errs := by decide +kernel
  have mM : (("TooMany", 8, "most") : Str × Nat × Str) ∈ errs := by decide +kernel
  obtain ⟨iD, tD⟩ := T.ini mD
  obtain ⟨iM, tM⟩ := T.ini mM
  have G_bef : FnOk P w K mg base CX0 1 _ fdB ["self", "other"] (spTwo K fBefore) := ok_bef FB T
  have G_dis : FnOk P w K mg base CX0 1 _ fdD ["self", "at"] (spIni (ga K "Disordered") "at") := ok_Disordered FD T
  have G_many : FnOk P w K mg base CX0 1 _ fdM ["self", "most"] (spIni (ga K "TooMany") "most") := ok_TooMany FM T
  have b_bef : Binds K fdB ["self", "other"] [] := FB.bindsN fun _ _ _ _ _ _ us hl => match us, hl with | [_, _], _ => rfl
  have b_dis : Binds K fdD ["self", "at"] [] := FD.bindsN fun _ _ _ _ _ _ us hl => match us, hl with | [_, _], _ => rfl
  have b_many : Binds K fdM ["self", "most"] [] := FM.bindsN fun _ _ _ _ _ _ us hl => match us, hl with | [_, _], _ => rfl
  refine F.ok sc_need (fun vs H Q E h => ?_) (fun cdv A outer s H vs Q E hr h => ?_)
  · obtain ⟨l, most, ys, ps, rfl, _⟩ := h
    rfl
  · obtain ⟨l, most, ys, ps, rfl, hl, its, hn, kg, kd, km⟩ := h
    have ln := its_len its
    refine ⟨_, (pss_cons (ps_for (passes_of rfl) rfl (pi_range2 rfl zr (pa_cons pe_int (pa_cons (pe_callB call_len (by rfl) zlen (by decide +kernel) (pa_cons (pv 0) pa_nil)) pa_nil))) (pg_name (i := 2) sc_need.nd rfl (Or.inl rfl))
    (pss_one (ps_if (pt_val (pe_meth (E := E0) (pe_ix ix_list (pv 0) (pv 2) (fun _ _ => rfl)) T.cls T.mtB G_bef (hr.mono (by decide)) b_bef .nil pass0 (pa_cons (pe_ix ix_list (pv 0) (pe_op op_sub (pv 2) pe_int) (fun _ _ => rfl)) pa_nil))) (pss_one (ps_raise rfl (takes_of rfl rfl rfl rfl) (pmk_oex (T.xc mD).ox iD tD G_dis (hr.mono (by decide)) b_dis .nil pass0 rfl gD (pa_cons (pv 2) pa_nil)))) pss_nil)))
    (pss_one (ps_if (pt_cmpR op_gt (pe_callB call_len (by rfl) zlen (by decide +kernel) (pa_cons (pv 0) pa_nil)) (pv 1) (nomark _)) (pss_one (ps_raise rfl (takes_of rfl rfl rfl rfl) (pmk_oex (T.xc mM).ox iM tM G_many (hr.mono (by decide)) b_many .nil pass0 rfl gM (pa_cons (pv 1) pa_nil)))) pss_nil))), ?_⟩
    have len900 : ys.length ≤ sizeLine := Nat.le_trans hn (by decide)
    refine ⟨_, rfl, _, _, rfl, .inl ⟨_, SqL.of hl, rfl⟩, 1, (ys.length : Int), rfl, ⟨by decide, by decide, by omega, by omega⟩, for_range (lo := 1) (n := ((ys.length : Int) - 1).toNat) (fun i σ H' => H' = H ∧ (∃ kv : Option V, σ = [some (.ref l), some (.int most), kv]) ∧ Up ps i) ⟨rfl, ⟨none, rfl⟩, fun m a b h => absurd h (Nat.not_lt_zero _)⟩ ?_ ?_⟩
    · rintro i σ H1 hi ⟨rfl, ⟨kv, rfl⟩, up⟩
      have h1 : i < ps.length := by omega
      have h2 : i + 1 < ps.length := by omega
      obtain ⟨a, ea, Ia⟩ := its_at its (List.getElem?_eq_getElem h2)
      obtain ⟨b, eb, Ib⟩ := its_at its (List.getElem?_eq_getElem h1)
      obtain ⟨dx, hA⟩ := id Ia
      refine ⟨_, rfl, _, rfl, l, _, _, .ref a, rfl, rfl, SqL.of hl, atI_of (by omega) (by rw [show (1 + (i : Int)).toNat = i + 1 by omega]; exact ea), ?_⟩
      refine ⟨a, dx, _, rfl, hA, rfl, _, rfl, _, rfl, _, _, rfl, rfl, l, _, _, .ref b, rfl, rfl, SqL.of hl, atI_of (by omega) (by rw [show (1 + (i : Int) - 1).toNat = i by omega]; exact eb), ?_⟩
      refine ⟨a, b, _, _, _, _, rfl, Ia, Ib, _, rfl, ite2 (fun hlt => ?_) (fun hge => ?_)⟩
      · refine ⟨_, rfl, err_out fun d H5 s5 e5 => kd i _ _ (List.getElem?_eq_getElem h1) (List.getElem?_eq_getElem h2) (of_decide_eq_true hlt) up d H5 s5 e5⟩
      · refine ⟨rfl, ⟨_, rfl⟩, fun m p q hm ep eq => ?_⟩
        by_cases h : m < i
        · exact up m p q h ep eq
        · have e : m = i := by omega
          subst e
          rw [List.getElem?_eq_getElem h1] at ep
          rw [List.getElem?_eq_getElem h2] at eq
          cases ep
          cases eq
          have z : ¬ (ps[m + 1].1 < ps[m].1) := fun y => hge (decide_eq_true y)
          omega
    · rintro σ H1 ⟨rfl, ⟨kv, rfl⟩, up⟩
      have all : Up ps ps.length := fun m a b hm ea eb => by
        have h : m + 1 < ps.length := (List.getElem?_eq_some_iff.mp eb).1
        exact up m a b (by omega) ea eb
      refine ⟨_, rfl, _, _, rfl, .inl ⟨_, SqL.of hl, rfl⟩, _, rfl, _, _, rfl, rfl, _, rfl, ite2 (fun hgt => ?_) (fun hle => ?_)⟩
      · have h := of_decide_eq_true hgt
        exact ⟨_, rfl, err_out fun d H5 s5 e5 => km all (by omega) d H5 s5 e5⟩
      · have h : ¬ (most < (ys.length : Int)) := fun y => hle (decide_eq_true y)
        exact kg all (by omega)
end
end K03
namespace K03
open PySem PySem.Spec PyProof.Rows L2 He Tw
theorem it_put {K : Fg} {H : Hp} {l a : Addr} {o : HO} {i : Int} {z : Str} (hl : ∀ dx i z, H l ≠ some (.ins (ga K "Item") dx [("rank", .int i), ("name", .str z)])) (h : It K H a i z) : It K (upd H l o) a i z := by
  obtain ⟨dx, h⟩ := h
  exact ⟨dx, by rw [upd_ne (fun e => hl dx i z (by rw [← e]; exact h))]; exact h⟩
theorem its_put {K : Fg} {H : Hp} {l : Addr} {o : HO} (hl : ∀ dx i z, H l ≠ some (.ins (ga K "Item") dx [("rank", .int i), ("name", .str z)])) : ∀ {ys : List V} {ps : List (Int × Str)}, Its K H ys ps → Its K (upd H l o) ys ps
  | _, _, .nil => .nil
  | _, _, .cons ⟨a, h1, h2⟩ t => .cons ⟨a, h1, it_put hl h2⟩ (its_put hl t)
/-- what stands for a row's items, told -/
structure Src (K : Fg) (H : Hp) (q : Addr) (xs : List V) (os : List (Option (Int × Str))) : Prop where
  seq : Seq K H q xs
  few : xs.length ≤ 900
  len : os.length = xs.length
  vv : ∀ (i : Nat) (x : V), xs[i]? = some x → ∃ o : Option (Int × Str), os[i]? = some o ∧ Vv K H x o
theorem Src.same {K : Fg} {H H' : Hp} {q : Addr} {xs : List V} {os : List (Option (Int × Str))} (e : Same H H') (h : Src K H q xs os) : Src K H' q xs os :=
  ⟨seq_same e h.seq, h.few, h.len, fun i x hx => by
    obtain ⟨o, h1, h2⟩ := h.vv i x hx
    exact ⟨o, h1, h2.same e⟩⟩
/-- how the making of a row goes wrong: which error, its field, its value -/
inductive Bad (os : List (Option (Int × Str))) : Str → Str → Int → Prop where
  | item {n : Nat} {ps : List (Int × Str)} (h1 : ps.length = n) (h2 : ∀ (m : Nat) (p : Int × Str), ps[m]? = some p → os[m]? = some (some p)) (h3 : os[n]? = some none) : Bad os "BadItem" "part" (n : Nat)
  | order {k : Nat} {ps : List (Int × Str)} {a b : Int × Str} (h0 : os = ps.map some) (h1 : ps[k]? = some a) (h2 : ps[k + 1]? = some b) (h3 : b.1 < a.1) (h4 : Up ps k) : Bad os "Disordered" "at" (1 + (k : Int))
  | many {ps : List (Int × Str)} (h0 : os = ps.map some) (h1 : Up ps ps.length) (h2 : (200 : Int) < (ps.length : Int)) : Bad os "TooMany" "most" 200
/-- a row made -/
def spRow (K : Fg) : Sp := fun vs H Q E => ∃ (a q dx : Addr) (xs : List V) (os : List (Option (Int × Str))), vs = [.ref a, .ref q] ∧ H a = some (.ins (ga K "Row") dx []) ∧ Src K H q xs os ∧
  (∀ (ps : List (Int × Str)), os = ps.map some → Up ps ps.length → ps.length ≤ 200 → ∀ (H' : Hp) (ys : List V), But a H H' → RowAt K H' a ys → Its K H' ys ps → Q .non H') ∧
  (∀ (x f : Str) (v : Int), Bad os x f v → ∀ (d : Addr) (H' : Hp), Same H H' → H' d = some (.xd [(f, .int v)]) → E (.ref (ga K x)) (some d) H')
abbrev s_row : Stmt := inClass (topS 25) 1
abbrev N_row : List Str := ["self", "items", "found"]
theorem sc_row : FnScope N_row ["self", "items"] (defScope s_row) := ⟨rfl, rfl, rfl, by decide +kernel, rfl, by decide +kernel, by decide +kernel⟩
section
variable {P : Program} {w : World} {K : Fg} {mg : Str → Option Value} {base : Heap}
theorem ok_row {f fA fN : Addr} {fd fdA fdN : FuncData} {dvs : List V} (F : FunD K "__init__" "Row.__init__" (defArgs s_row) (defBody s_row) (defScope s_row) dvs [] f fd) (FA : FnP K "as_items" "as_items" s_as fA fdA) (gA : mg "as_items" = some (.ref fA)) (G_as : FnOk P w K mg base (L2.CX P w) 5 fA fdA ["values"] (spAs K))
    (FN : FnP K "need_row" "need_row" s_need fN fdN) (gN : mg "need_row" = some (.ref fN)) (G_need : FnOk P w K mg base (L2.CX P w) 3 fN fdN ["items", "most"] (spNeed K)) (T : Txt K mg) : FnOk P w K mg base (L2.CX P w) 6 f fd ["self", "items"] (spRow K) := by
  have ztup : mg "tuple" = none := T.bl (by decide +kernel)
  have b_as : Binds K fdA ["values"] [] := FA.bindsN fun _ _ _ _ _ _ us hl => match us, hl with | [_], _ => rfl
  have b_need : Binds K fdN ["items", "most"] [] := FN.bindsN fun _ _ _ _ _ _ us hl => match us, hl with | [_, _], _ => rfl
  obtain ⟨um, hm⟩ := T.most
  refine F.ok sc_row (fun vs H Q E h => ?_) (fun cdv A outer s H vs Q E hr h => ?_)
  · obtain ⟨a, q, dx, xs, os, rfl, _⟩ := h
    rfl
  · obtain ⟨a, q, dx, xs, os, rfl, ha, S, kg, kb⟩ := h
    refine ⟨_, (pss_cons (ps_set (i := 2) sc_row.nd rfl (Or.inl rfl) (pe_callS G_as (hr.mono (by decide)) rfl gA FA.kp b_as (fun σ => passAt (takes_of rfl rfl rfl rfl) σ) (pa_cons (pv 1) pa_nil)))
    (pss_cons (ps_expr (pe_callS G_need (hr.mono (by decide)) rfl gN FN.kp b_need (fun σ => passAt (takes_of rfl rfl rfl rfl) σ) (pa_cons (pv 2) (pa_cons (pe_con (pv 0) rfl) pa_nil))))
    (pss_one (ps_fld (pv 0) (pe_callTy call_tuple_of (by rfl) ztup (by decide +kernel) (pa_cons (pv 2) pa_nil)) rfl)))), ?_⟩
    refine ⟨_, rfl, q, xs, os, rfl, S.seq, S.few, S.len, S.vv, fun ps l H1 ys e0 h0 s1 g1 its => ?_, fun n ps d H1 h1 h2 h3 s1 e1 => kb _ _ _ (.item h1 h2 h3) d H1 s1 e1⟩
    have ha1 := s1 _ _ ha
    have hl9 : ys.length ≤ 900 := by
      have h1 := S.len
      have h2 := its_len its
      rw [e0, List.length_map] at h1
      have := S.few
      omega
    refine ⟨_, rfl, _, rfl, a, _, dx, _, .int 200, um, rfl, ha1, T.clsR, hm, rfl, l, 200, ys, ps, rfl, g1, its, hl9, fun up few => ?_, fun k p p' h1 h2 h3 h4 d H2 s2 e2 => kb _ _ _ (.order e0 h1 h2 h3 h4) d H2 (s1.trans s2) e2, fun up big d H2 s2 e2 => kb _ _ _ (.many e0 up big) d H2 (s1.trans s2) e2⟩
    refine ⟨_, rfl, l, ys, rfl, .inl ⟨SqL.of g1, fun t ht => ⟨_, rfl, a, _, dx, _, rfl, (same_new ht) _ _ ha1, T.clsR, T.naR, (by show 0 < 1000; decide), ?_⟩⟩⟩
    have hat : a ≠ t := ne_of_none ha1 ht
    refine kg ps e0 up (by omega) _ ys (((But.of s1).trans (But.of (same_new ht))).trans But.upd) ⟨dx, t, upd_same, by rw [upd_ne hat.symm]; exact upd_same⟩ (its_put (fun dx' i z e => ?_) (its.same (same_new ht)))
    rw [(same_new ht) _ _ ha1] at e
    exact nomatch (HO.ins.inj (Option.some.inj e)).2.2
end
end K03
namespace K03
open PySem PySem.Spec PyProof.Rows L2 He Tw
def spListed (K : Fg) : Sp := fun vs H Q _ => ∃ (a : Addr) (ys : List V), vs = [.ref a] ∧ RowAt K H a ys ∧ ∀ (l : Addr) (H' : Hp), H l = none → Same H H' → H' l = some (.lst ys) → Q (.ref l) H'
def rk (ps : List (Int × Str)) : List Int := ps.map fun p => p.1
def spRanks (K : Fg) : Sp := fun vs H Q _ => ∃ (a : Addr) (ys : List V) (ps : List (Int × Str)), vs = [.ref a] ∧ RowAt K H a ys ∧ Its K H ys ps ∧ ys.length ≤ 900 ∧ ∀ (l : Addr) (H' : Hp), H l = none → Same H H' → H' l = some (.lst ((rk ps).map V.int)) → Q (.ref l) H'
def spLen (K : Fg) : Sp := fun vs H Q _ => ∃ (a : Addr) (ys : List V), vs = [.ref a] ∧ RowAt K H a ys ∧ ys.length ≤ 900 ∧ Q (.int (ys.length : Nat)) H
def spEqR (K : Fg) : Sp := fun vs H Q _ => ∃ (a b : Addr) (ys zs : List V) (ps us : List (Int × Str)), vs = [.ref a, .ref b] ∧ RowAt K H a ys ∧ Its K H ys ps ∧ ys.length ≤ 900 ∧ RowAt K H b zs ∧ Its K H zs us ∧ zs.length ≤ 900 ∧ rk ps = rk us ∧ ∀ H', Same H H' → Q (.bl true) H'
theorem RowAt.same {K : Fg} {H H' : Hp} {a : Addr} {ys : List V} (e : Same H H') (h : RowAt K H a ys) : RowAt K H' a ys := by
  obtain ⟨dx, t, h1, h2⟩ := h
  exact ⟨dx, t, e _ _ h1, e _ _ h2⟩
theorem fldK {X : Cx} {e : Expr} {f : Str} {pos : Pos} {ta : TE} (K : Fg) (he : PE X e ta) (hb : attributeBase e f X.env (eval e X.env) = eval e X.env := by rfl) (h : X.K = K := by rfl) : PE X (.Attribute e f pos) (tFld K ta f) := by
  subst h
  exact pe_fld he hb
abbrev s_lst : Stmt := inClass (topS 25) 10
theorem sc_lst : FnScope ["self"] ["self"] (defScope s_lst) := ⟨rfl, rfl, rfl, by decide +kernel, rfl, by decide +kernel, by decide +kernel⟩
abbrev s_rks : Stmt := inClass (topS 25) 11
abbrev N_rks : List Str := ["self", "item"]
theorem sc_rks : FnScope N_rks ["self"] (defScope s_rks) := ⟨rfl, rfl, rfl, by decide +kernel, rfl, by decide +kernel, by decide +kernel⟩
abbrev s_len : Stmt := inClass (topS 25) 3
theorem sc_len : FnScope ["self"] ["self"] (defScope s_len) := ⟨rfl, rfl, rfl, by decide +kernel, rfl, by decide +kernel, by decide +kernel⟩
abbrev s_eqr : Stmt := inClass (topS 25) 9
theorem sc_eqr : FnScope ["self", "other"] ["self", "other"] (defScope s_eqr) := ⟨rfl, rfl, rfl, by decide +kernel, rfl, by decide +kernel, by decide +kernel⟩
section
variable {P : Program} {w : World} {K : Fg} {mg : Str → Option Value} {base : Heap}
theorem ok_lst {f : Addr} {fd : FuncData} (F : FnP K "listed" "Row.listed" s_lst f fd) (T : Txt K mg) : FnOk P w K mg base CX0 1 f fd ["self"] (spListed K) := by
  have zlist : mg "list" = none := T.bl (by decide +kernel)
  refine F.ok sc_lst (fun vs H Q E h => ?_) (fun cdv A outer s H vs Q E hr h => ?_)
  · obtain ⟨a, ys, rfl, _⟩ := h
    rfl
  · obtain ⟨a, ys, rfl, ⟨dx, t, ha, ht⟩, k⟩ := h
    refine ⟨_, PSs.nox (pss_one (ps_ret (pe_callTy call_list_of (by rfl) zlist (by decide +kernel) (pa_cons (pe_fld (pv 0) rfl) pa_nil)))), ?_⟩
    exact ⟨_, rfl, a, _, dx, _, _, rfl, ha, T.clsR, T.naR, rfl, t, ys, rfl, .inr (SqT.of ht), fun l hl => k l _ hl (same_new hl) upd_same⟩
theorem ok_rks {f : Addr} {fd : FuncData} (F : FnP K "ranks" "Row.ranks" s_rks f fd) (T : Txt K mg) : FnOk P w K mg base CX0 1 f fd ["self"] (spRanks K) := by
  refine F.ok sc_rks (fun vs H Q E h => ?_) (fun cdv A outer s H vs Q E hr h => ?_)
  · obtain ⟨a, ys, ps, rfl, _⟩ := h
    rfl
  · obtain ⟨a, ys, ps, rfl, ⟨dx, t, ha, ht⟩, its, hn, k⟩ := h
    refine ⟨_, PSs.nox (pss_one (ps_ret (pe_lc (own := [("item", 1)]) (g := gName 1) (tt := tYes) (by rfl) sc_rks.nd (pi_tup (pe_fld (pv 0) rfl)) (blkOk_by (own := [("item", 1)]) (N := N_rks) (sc := defScope s_rks) (by decide +kernel)) (fun _ _ _ _ _ => (pg_name (i := 1) sc_rks.nd rfl (Or.inl rfl))) (fun _ _ _ _ _ => pts_nil) (fun _ _ _ _ _ => (fldK K (pv 1)))))), ?_⟩
    have ln := its_len its
    refine ⟨_, rfl, a, _, dx, _, _, rfl, ha, T.clsR, T.naR, rfl, t, rfl, ⟨ys, SqT.of ht⟩, fun D hD => lc_tup (K := K) (a := t) (xs := ys) (fun i H' => Same H H' ∧ H' D = some (.lst (((rk ps).take i).map V.int))) ⟨same_new hD, upd_same⟩ (fun _ _ _ q => SqT.of (q.1 _ _ ht)) ?_ ?_⟩
    · rintro i x H' hx ⟨sD, gD⟩
      have hi : i < ps.length := by
        have := (List.getElem?_eq_some_iff.mp hx).1
        omega
      obtain ⟨b, eb, Ib⟩ := its_at its (List.getElem?_eq_getElem hi)
      rw [hx] at eb
      cases eb
      obtain ⟨db, hb⟩ := Ib.same sD
      refine ⟨rfl, _, rfl, b, _, db, _, _, rfl, hb, T.cls, T.na (by decide +kernel), rfl, _, gD, ?_, same_upd sD hD, ?_⟩
      · rw [List.length_map]
        exact Nat.lt_of_le_of_lt (List.length_take_le' _ _) (by
          unfold rk
          rw [List.length_map]
          exact Nat.lt_of_lt_of_le (show ps.length < 1000 by omega) (by decide))
      · have e : (rk ps)[i]? = some ps[i].1 := by
          unfold rk
          rw [List.getElem?_map, List.getElem?_eq_getElem hi]
          rfl
        rw [upd_same, List.take_add_one, e, List.map_append]
        rfl
    · rintro H' ⟨sD, gD⟩
      rw [List.take_of_length_le (by unfold rk; rw [List.length_map]; omega)] at gD
      exact k D H' hD sD gD
theorem ok_len {f : Addr} {fd : FuncData} (F : FnP K "__len__" "Row.__len__" s_len f fd) (T : Txt K mg) : FnOk P w K mg base CX0 1 f fd ["self"] (spLen K) := by
  have zlen : mg "len" = none := T.bl (by decide +kernel)
  refine F.ok sc_len (fun vs H Q E h => ?_) (fun cdv A outer s H vs Q E hr h => ?_)
  · obtain ⟨a, ys, rfl, _⟩ := h
    rfl
  · obtain ⟨a, ys, rfl, ⟨dx, t, ha, ht⟩, hn, k⟩ := h
    refine ⟨_, PSs.nox (pss_one (ps_ret (pe_callB call_len (by rfl) zlen (by decide +kernel) (pa_cons (pe_fld (pv 0) rfl) pa_nil)))), ?_⟩
    exact ⟨_, rfl, a, _, dx, _, _, rfl, ha, T.clsR, T.naR, rfl, _, _, rfl, .inr ⟨_, SqT.of ht, rfl⟩, k⟩
theorem ok_eqr {f : Addr} {fd fdK : FuncData} (F : FnP K "__eq__" "Row.__eq__" s_eqr f fd) (FK : FnP K "ranks" "Row.ranks" s_rks (ma K (ga K "Row") "ranks") fdK) (T : Txt K mg) : FnOk P w K mg base CX0 2 f fd ["self", "other"] (spEqR K) := by
  have zisi : mg "isinstance" = none := T.bl (by decide +kernel)
  have gR : mg "Row" = some (.ref (ga K "Row")) := T.cl (by decide +kernel)
  have G_rks : FnOk P w K mg base CX0 1 _ fdK ["self"] (spRanks K) := ok_rks FK T
  have b_rks : Binds K fdK ["self"] [] := FK.bindsN fun _ _ _ _ _ _ us hl => match us, hl with | [_], _ => rfl
  have mR := T.mtR (m := "ranks") (by decide +kernel)
  refine F.ok sc_eqr (fun vs H Q E h => ?_) (fun cdv A outer s H vs Q E hr h => ?_)
  · obtain ⟨a, b, ys, zs, ps, us, rfl, _⟩ := h
    rfl
  · obtain ⟨a, b, ys, zs, ps, us, rfl, hA, iA, nA, hB, iB, nB, e, k⟩ := h
    refine ⟨_, PSs.nox (pss_one (ps_ret (pe_and (pe_callB call_isA (by rfl) zisi (by decide +kernel) (pa_cons (pv 1) (pa_cons (pe_glob (v := .ref (ga K "Row")) rfl gR rfl) pa_nil))) (pe_one (pe_cmpR (op_eqD hr.units) (pe_meth0 (E := E0) (pv 0) T.clsR mR G_rks (hr.mono (by decide)) b_rks .nil pass0) (pe_meth0 (E := E0) (pv 1) T.clsR mR G_rks (hr.mono (by decide)) b_rks .nil pass0) (nomark _)))))), ?_⟩
    obtain ⟨da, ta, ha, hta⟩ := id hA
    obtain ⟨db, tb, hb, htb⟩ := id hB
    have ty : TyX K H (.ref b) (.ref (ga K "Row")) := .base (.ins hb T.clsR (T.ob (by decide +kernel)).2 T.xo.hn T.xo.ht (T.ob (by decide +kernel)).1)
    refine ⟨_, rfl, .ref b, .ref (ga K "Row"), _, _, _, rfl, .own _, .inl ty, T.kitRR, _, rfl, ?_⟩
    refine ⟨_, rfl, a, da, _, rfl, ha, rfl, a, ys, ps, rfl, hA, iA, nA, fun l1 H1 h1 s1 g1 => ?_⟩
    refine ⟨_, rfl, b, db, _, rfl, s1 _ _ hb, rfl, b, zs, us, rfl, hB.same s1, iB.same s1, nB, fun l2 H2 h2 s2 g2 => ?_⟩
    rw [← e] at g2
    refine ⟨.list ((rk ps).map .int), .list ((rk ps).map .int), .lst (SqL.of (s2 _ _ g1)) (dp_ints _), .lst (SqL.of g2) (dp_ints _), shaped_ints _, shaped_ints _, ?_⟩
    rw [SeqAt.eqv_refl _ (by simpa [PyData.canLay0] using (lay_ints (rk ps)).1)]
    exact k H2 (s1.trans s2)
end
end K03
namespace K03
open PySem PySem.Spec PyProof.Rows L2 He Tw
/-- references to pairs of these ranks and names -/
def Prs (H : Hp) (ts : List V) (ps : List (Int × Str)) : Prop := Paired (fun v p => ∃ t, v = V.ref t ∧ H t = some (.tup [.int p.1, .str p.2])) ts ps
theorem Prs.keep {H H' : Hp} (k : ∀ t xs, H t = some (.tup xs) → H' t = some (.tup xs)) : ∀ {ts : List V} {ps : List (Int × Str)}, Prs H ts ps → Prs H' ts ps
  | _, _, .nil => .nil
  | _, _, .cons ⟨t, h1, h2⟩ r => .cons ⟨t, h1, k _ _ h2⟩ (Prs.keep k r)
theorem Prs.snoc {H : Hp} : ∀ {ts : List V} {ps : List (Int × Str)} {t : Addr} {p : Int × Str}, Prs H ts ps → H t = some (.tup [.int p.1, .str p.2]) → Prs H (ts ++ [.ref t]) (ps ++ [p])
  | _, _, _, _, .nil, h => .cons ⟨_, rfl, h⟩ .nil
  | _, _, _, _, .cons x r, h => .cons x (Prs.snoc r h)
/-- a pair that makes an item -/
def Gd (p : Int × Str) : Prop := p.1.natAbs ≤ 10 ^ 29 + 10 ^ 12 ∧ textOk p.2 = true ∧ p.2.length ≤ 8
theorem up_snoc {ps : List (Int × Str)} {a : Int × Str} (h : Up ps ps.length) (hl : ∀ q, ps.getLast? = some q → q.1 ≤ a.1) : Up (ps ++ [a]) (ps ++ [a]).length := fun m x y hm ex ey => by
  have h2 : m + 1 < (ps ++ [a]).length := (List.getElem?_eq_some_iff.mp ey).1
  rw [List.length_append, List.length_singleton] at h2
  rw [List.getElem?_append_left (by omega)] at ex
  by_cases h3 : m + 1 < ps.length
  · rw [List.getElem?_append_left h3] at ey
    exact h m x y (by omega) ex ey
  · have e : m + 1 = ps.length := by omega
    rw [e, List.getElem?_append_right (Nat.le_refl _), Nat.sub_self] at ey
    cases ey
    refine hl x ?_
    rw [List.getLast?_eq_getElem?, show ps.length - 1 = m by omega]
    exact ex
def spPairs : Sp := fun vs H Q _ => ∃ (p l : Addr) (most : Nat) (c : Nat), vs = [.ref p, .int (most : Nat)] ∧ most ≤ 100 ∧ PenL H p l c ∧ c ≤ 500000 ∧
  ∀ (f : Addr) (H' : Hp) (ts : List V) (ps : List (Int × Str)), PenL H' p l (c + 300) → But p H H' → H f = none → f ≠ p → H' f = some (.lst ts) → Prs H' ts ps → ps.length ≤ most → Up ps ps.length → (∀ q ∈ ps, Gd q) → Q (.ref f) H'
abbrev s_pairs : Stmt := topS 32
abbrev N_pairs : List Str := ["_law_pen_here", "_law_most", "_law_rank", "_law_found", "_law_k"]
theorem sc_pairs : FnScope N_pairs ["_law_pen_here", "_law_most"] (defScope s_pairs) := ⟨rfl, rfl, rfl, by decide +kernel, rfl, by decide +kernel, by decide +kernel⟩
section
variable {P : Program} {w : World} {K : Fg} {mg : Str → Option Value} {base : Heap}
theorem ok_pairs {f fD fP : Addr} {fd fdD fdP : FuncData} (F : FnP K "_law_pairs" "_law_pairs" s_pairs f fd) (FD : FnP K "_law_draw" "_law_draw" s_draw fD fdD) (gD : mg "_law_draw" = some (.ref fD)) (FP : FnP K "_law_pick" "_law_pick" s_pick fP fdP) (gP : mg "_law_pick" = some (.ref fP)) (T : Txt K mg) :
    FnOk P w K mg base CX0 3 f fd ["_law_pen_here", "_law_most"] spPairs := by
  have zr : mg "range" = none := T.bl (by decide +kernel)
  have G_draw : FnOk P w K mg base CX0 1 fD fdD ["_law_pen_here", "_law_many"] spDrawL := ok_draw FD T
  have b_draw : Binds K fdD ["_law_pen_here", "_law_many"] [] := FD.bindsN fun _ _ _ _ _ _ us hl => match us, hl with | [_, _], _ => rfl
  have G_pick : FnOk P w K mg base CX0 2 fP fdP ["_law_pen_here", "_law_some"] (spPickL K) := ok_pick FP FD gD T
  have b_pick : Binds K fdP ["_law_pen_here", "_law_some"] [] := FP.bindsN fun _ _ _ _ _ _ us hl => match us, hl with | [_, _], _ => rfl
  refine F.ok sc_pairs (fun vs H Q E h => ?_) (fun cdv A outer s H vs Q E hr h => ?_)
  · obtain ⟨p, l, most, c, rfl, _⟩ := h
    rfl
  · obtain ⟨p, l, most, c, rfl, hm, hP, hc, k⟩ := h
    refine ⟨_, PSs.nox (pss_cons (ps_set (i := 2) sc_pairs.nd rfl (Or.inl rfl) (pe_call G_pick (hr.mono (by decide)) rfl gP FP.kp b_pick .nil pass0 (pa_cons (pv 0) (pa_cons (pe_lstN (pa_cons pe_int (pa_cons (pe_un un_neg pe_int) (pa_cons pe_int (pa_cons (pe_un un_neg (pe_op op_pow pe_int pe_int)) (pa_cons (pe_op op_pow pe_int pe_int) pa_nil)))))) pa_nil))))
    (pss_cons (ps_set (i := 3) sc_pairs.nd rfl (Or.inl rfl) (pe_lstN pa_nil))
    (pss_cons (ps_for PassesOwn.never rfl (pi_range1 rfl zr (pa_cons (pe_call G_draw (hr.mono (by decide)) rfl gD FD.kp b_draw .nil pass0 (pa_cons (pv 0) (pa_cons (pe_op op_add (pv 1) pe_int) pa_nil))) pa_nil)) (pg_name (i := 4) sc_pairs.nd rfl (Or.inl rfl))
    (pss_cons (ps_set (i := 2) sc_pairs.nd rfl (Or.inl rfl) (pe_op op_add (pv 2) (pe_call G_pick (hr.mono (by decide)) rfl gP FP.kp b_pick .nil pass0 (pa_cons (pv 0) (pa_cons (pe_lstN (pa_cons pe_int (pa_cons pe_int (pa_cons pe_int (pa_cons pe_int (pa_cons pe_int (pa_cons pe_int (pa_cons (pe_op op_pow pe_int pe_int) pa_nil)))))))) pa_nil)))))
    (pss_one (ps_expr (pe_bm PySem.F.plainAttrs_list PySem.F.slot_list_append PySem.F.type_list_append mt_append (pv 3) (pa_cons (pe_tupN (pa_cons (pv 2) (pa_cons (pe_call G_pick (hr.mono (by decide)) rfl gP FP.kp b_pick .nil pass0 (pa_cons (pv 0) (pa_cons (pe_lstN (pa_cons pe_str (pa_cons pe_str (pa_cons pe_str (pa_cons pe_str (pa_cons pe_str (pa_cons pe_str pa_nil))))))) pa_nil))) pa_nil))) pa_nil))))))
    (pss_one (ps_ret (pv 3)))))), ?_⟩
    refine ⟨_, rfl, _, rfl, _, _, rfl, rfl, ⟨by decide, by decide, by decide⟩, _, rfl, _, _, rfl, rfl, ⟨by decide, by decide, by decide⟩, sz1000 (by show 5 ≤ 1000; decide), fun q1 H1 f1 m1 s1 g1 => ?_⟩
    refine ⟨p, l, q1, _, c, rfl, SqL.of g1, (hP.new f1).1, (by show 0 < 5; decide), (by show 5 < 1000; decide), hP.same s1, by omega, fun v H2 hv P2 B2 => ?_⟩
    obtain ⟨r0, rfl, hr0⟩ : ∃ r : Int, v = .int r ∧ r.natAbs ≤ 10 ^ 29 := by
      simp only [List.mem_cons, List.not_mem_nil, or_false] at hv
      rcases hv with rfl | rfl | rfl | rfl | rfl
      · exact ⟨_, rfl, by decide⟩
      · exact ⟨_, rfl, by decide⟩
      · exact ⟨_, rfl, by decide⟩
      · exact ⟨_, rfl, by decide⟩
      · exact ⟨_, rfl, by decide⟩
    have B20 : But p H H2 := (But.of s1).trans B2
    refine ⟨sz1000 (Nat.zero_le _), fun lf H3 f3 m3 s3 g3 => ?_⟩
    have P3 := P2.same s3
    refine ⟨_, rfl, _, rfl, _, _, rfl, rfl, p, l, (most : Int) + 1, c + 1, rfl, by omega, by omega, P3, by omega, fun n H4 n0 n1 P4 B4 => ?_⟩
    obtain ⟨nlp, nll⟩ := P2.new f3
    have hlfH : H lf = none := by
      cases e : H lf with
      | none => rfl
      | some o =>
        by_cases h : lf = p
        · exact absurd h nlp
        · rw [B20 lf o e h] at f3
          cases f3
    have B40 : But p H H4 := (B20.trans (But.of s3)).trans B4
    refine ⟨n, rfl, by omega, by omega, for_range (lo := 0) (n := n.toNat) (fun i σ H' => ∃ (r : Int) (kv : Option V) (ts : List V) (ps : List (Int × Str)), σ = [some (.ref p), some (.int (most : Nat)), some (.int r), some (.ref lf), kv] ∧ PenL H' p l (c + 2 + 2 * i) ∧ But p H H' ∧ H' lf = some (.lst ts) ∧ Prs H' ts ps ∧ ps.length = i ∧
      Up ps ps.length ∧ (∀ q, ps.getLast? = some q → q.1 ≤ r) ∧ r.natAbs ≤ 10 ^ 29 + i * 10 ^ 9 ∧ ∀ q ∈ ps, Gd q) ⟨r0, none, [], [], rfl, P4, B40, B4 _ _ g3 nlp, .nil, rfl, (fun m a b h => absurd h (Nat.not_lt_zero _)), (fun q h => nomatch h), (by omega), (fun q h => nomatch h)⟩ ?_ ?_⟩
    · rintro i σ H5 hi ⟨r, kv, ts, ps, rfl, P5, B5, g5, prs, hl, up, last, hr5, gd⟩
      have e9 : (10 : Int) ^ (9 : Int).toNat = 1000000000 := by decide
      refine ⟨_, rfl, _, rfl, _, _, rfl, rfl, ⟨by decide, by decide, by decide⟩, sz1000 (by show 7 ≤ 1000; decide), fun q6 H6 f6 m6 s6 g6 => ?_⟩
      refine ⟨p, l, q6, _, c + 2 + 2 * i, rfl, SqL.of g6, (P5.new f6).1, (by show 0 < 7; decide), (by show 7 < 1000; decide), P5.same s6, by omega, fun v H7 hv P7 B7 => ?_⟩
      obtain ⟨d, rfl, hd0, hd1⟩ : ∃ d : Int, v = .int d ∧ 0 ≤ d ∧ d ≤ 1000000000 := by
        simp only [List.mem_cons, List.not_mem_nil, or_false] at hv
        rcases hv with rfl | rfl | rfl | rfl | rfl | rfl | rfl <;> exact ⟨_, rfl, by decide, by decide⟩
      have g7 := B7 _ _ (s6 _ _ g5) nlp
      refine ⟨_, _, rfl, rfl, _, rfl, .inl ⟨rfl, _, SqL.of g7⟩, _, rfl, _, rfl, sz1000 (by show 6 ≤ 1000; decide), fun q8 H8 f8 m8 s8 g8 => ?_⟩
      refine ⟨p, l, q8, _, c + 3 + 2 * i, rfl, SqL.of g8, (P7.new f8).1, (by show 0 < 6; decide), (by show 6 < 1000; decide), (P7.same s8).mono (by omega), by omega, fun v H9 hv P9 B9 => ?_⟩
      obtain ⟨z, rfl, tz⟩ : ∃ z : Str, v = .str z ∧ textOk z = true ∧ z.length ≤ 8 := by
        simp only [List.mem_cons, List.not_mem_nil, or_false] at hv
        rcases hv with rfl | rfl | rfl | rfl | rfl | rfl <;> exact ⟨_, rfl, by decide +kernel, by decide +kernel⟩
      have g9 := B9 _ _ (s8 _ _ g7) nlp
      refine ⟨sz1000 (by show 2 ≤ 1000; decide), fun t H10 f10 s10 g10 => ?_⟩
      have g10f := s10 _ _ g9
      have BB : But p H5 H10 := ((((But.of s6).trans B7).trans (But.of s8)).trans B9).trans (But.of s10)
      have tup_ne : ∀ {a : Addr} {xs : List V}, H5 a = some (.tup xs) → a ≠ p := fun {a xs} e h => by
        obtain ⟨ns, i', g', h1, _⟩ := P5
        rw [h, h1] at e
        cases e
      have prs10 : Prs H10 ts ps := prs.keep fun a xs e => BB _ _ e (tup_ne e)
      have lt : ts.length < sizeLine := by
        have h1 : ts.length = ps.length := Paired.length prs
        exact Nat.lt_of_lt_of_le (show ts.length < 1000 by omega) (by decide)
      refine ⟨lf, _, _, rfl, rfl, g10f, lt, r + d, _, _, ps ++ [(r + d, z)], rfl, ?_, ?_, upd_same, ?_, ?_, ?_, ?_, ?_, ?_⟩
      · obtain ⟨a1, a2⟩ := P2.new f3
        exact ((P9.same s10).upd a1 a2).mono (by omega)
      · exact fun b o hb hbp => by
          rw [upd_ne (ne_of_none hb hlfH)]
          exact BB b o (B5 b o hb hbp) hbp
      · have ne : ∀ {a : Addr} {xs : List V}, H10 a = some (.tup xs) → a ≠ lf := fun {a xs} e h => by
          rw [h, g10f] at e
          cases e
        refine Prs.snoc (prs10.keep fun a xs e => by
          rw [upd_ne (ne e)]
          exact e) ?_
        rw [upd_ne (ne g10)]
        exact g10
      · rw [List.length_append, hl]
        rfl
      · exact up_snoc up fun q hq => by
          have := last q hq
          show q.1 ≤ r + d
          omega
      · intro q hq
        rw [List.getLast?_append] at hq
        cases hq
        exact Int.le_refl _
      · have h2 : ((i + 1) * 10 ^ 9 : Nat) = i * 10 ^ 9 + 1000000000 := by omega
        omega
      · intro q hq
        rcases List.mem_append.mp hq with h | h
        · exact gd q h
        · have e := List.mem_singleton.mp h
          subst e
          refine ⟨?_, tz⟩
          show (r + d).natAbs ≤ _
          omega
    · rintro σ H5 ⟨r, kv, ts, ps, rfl, P5, B5, g5, prs, hl, up, last, hr5, gd⟩
      exact ⟨_, rfl, k lf H5 ts ps (P5.mono (by omega)) B5 hlfH nlp g5 prs (by omega) up gd⟩
end
end K03
namespace K03
open PySem PySem.Spec PyProof.Rows L2 He Tw
theorem dec_s {i j : Str} : decide (V.str i = V.str j) = decide (i = j) := by
  by_cases h : i = j
  · rw [h]
    simp
  · rw [decide_eq_false h, decide_eq_false fun z => h (V.str.inj z)]
theorem prs_at {H : Hp} : ∀ {ts : List V} {ps : List (Int × Str)} {i : Nat} {x : V}, Prs H ts ps → ts[i]? = some x → ∃ t p, x = V.ref t ∧ ps[i]? = some p ∧ H t = some (.tup [.int p.1, .str p.2])
  | _, _, 0, _, .cons ⟨t, h1, h2⟩ _, e => by
    cases e
    exact ⟨t, _, h1, rfl, h2⟩
  | _, _, n + 1, _, .cons _ r, e => prs_at (i := n) (show Prs _ _ _ from r) e
/-- values that stand for these pairs -/
def Vals' (K : Fg) (H : Hp) (xs : List V) (ps : List (Int × Str)) : Prop := Paired (fun x q => Vv K H x (some q)) xs ps
theorem vals_keep {K : Fg} {H H' : Hp} (k : ∀ a dx i z, H a = some (.ins (ga K "Item") dx [("rank", .int i), ("name", .str z)]) → H' a = some (.ins (ga K "Item") dx [("rank", .int i), ("name", .str z)])) {x : V} {q : Int × Str} (h : Vv K H x (some q)) : Vv K H' x (some q) := by
  cases h with
  | item h =>
    obtain ⟨dx, h⟩ := h
    exact .item ⟨dx, k _ _ _ _ h⟩
  | int h => exact .int h
theorem Vals'.keep {K : Fg} {H H' : Hp} (k : ∀ a dx i z, H a = some (.ins (ga K "Item") dx [("rank", .int i), ("name", .str z)]) → H' a = some (.ins (ga K "Item") dx [("rank", .int i), ("name", .str z)])) : ∀ {xs : List V} {ps : List (Int × Str)}, Vals' K H xs ps → Vals' K H' xs ps
  | _, _, .nil => .nil
  | _, _, .cons h r => .cons (vals_keep k h) (Vals'.keep k r)
theorem Vals'.snoc {K : Fg} {H : Hp} : ∀ {xs : List V} {ps : List (Int × Str)} {x : V} {q : Int × Str}, Vals' K H xs ps → Vv K H x (some q) → Vals' K H (xs ++ [x]) (ps ++ [q])
  | _, _, _, _, .nil, h => .cons h .nil
  | _, _, _, _, .cons x r, h => .cons x (Vals'.snoc r h)
theorem gd_rank {q : Int × Str} (h : Gd q) : rankOk (.int q.1) = true := by
  have h1 : -beyond < q.1 := by
    unfold beyond
    have := h.1
    omega
  have h2 : q.1 < beyond := by
    unfold beyond
    have := h.1
    omega
  show (decide _ && decide _) = true
  rw [decide_eq_true h1, decide_eq_true h2]
  rfl
def spValues (K : Fg) : Sp := fun vs H Q _ => ∃ (p l f : Addr) (ts : List V) (ps : List (Int × Str)) (c : Nat), vs = [.ref p, .ref f] ∧ PenL H p l c ∧ c ≤ 600000 ∧ H f = some (.lst ts) ∧ f ≠ p ∧ Prs H ts ps ∧ ps.length ≤ 400 ∧ (∀ q ∈ ps, Gd q) ∧
  ∀ (g : Addr) (H' : Hp) (xs : List V), PenL H' p l (c + ps.length) → But p H H' → H g = none → g ≠ p → H' g = some (.lst xs) → Vals' K H' xs ps → Q (.ref g) H'
abbrev s_values : Stmt := topS 33
abbrev N_values : List Str := ["_law_pen_here", "_law_pairs_here", "_law_found", "_law_rank", "_law_name"]
theorem sc_values : FnScope N_values ["_law_pen_here", "_law_pairs_here"] (defScope s_values) := ⟨rfl, rfl, rfl, by decide +kernel, rfl, by decide +kernel, by decide +kernel⟩
section
variable {P : Program} {w : World} {K : Fg} {mg : Str → Option Value} {base : Heap}
theorem ok_values {f fD : Addr} {fd fdD fdI : FuncData} {d2 : List Value} (F : FnP K "_law_values" "_law_values" s_values f fd) (FD : FnP K "_law_draw" "_law_draw" s_draw fD fdD) (gD : mg "_law_draw" = some (.ref fD)) (I : Itm P w K mg base fdI d2) (T : Txt K mg) :
    FnOk P w K mg base CX0 5 f fd ["_law_pen_here", "_law_pairs_here"] (spValues K) := by
  have gI : mg "Item" = some (.ref (ga K "Item")) := T.cl (by decide +kernel)
  have G_draw : FnOk P w K mg base CX0 1 fD fdD ["_law_pen_here", "_law_many"] spDrawL := ok_draw FD T
  have b_draw : Binds K fdD ["_law_pen_here", "_law_many"] [] := FD.bindsN fun _ _ _ _ _ _ us hl => match us, hl with | [_, _], _ => rfl
  refine F.ok sc_values (fun vs H Q E h => ?_) (fun cdv A outer s H vs Q E hr h => ?_)
  · obtain ⟨p, l, f, ts, ps, c, rfl, _⟩ := h
    rfl
  · obtain ⟨p, l, f, ts, ps, c, rfl, hP, hc, hf, hfp, prs, hn, gd, k⟩ := h
    refine ⟨_, PSs.nox (pss_cons (ps_set (i := 2) sc_values.nd rfl (Or.inl rfl) (pe_lstN pa_nil))
    (pss_cons (ps_for PassesOwn.never rfl (pi_list (pv 1)) (pg_tup (by rfl) (pgs_cons (pg_name (i := 3) sc_values.nd rfl (Or.inl rfl)) (pgs_cons (pg_name (i := 4) sc_values.nd rfl (Or.inl rfl)) pgs_nil)))
    (pss_one (ps_expr (pe_bm PySem.F.plainAttrs_list PySem.F.slot_list_append PySem.F.type_list_append mt_append (pv 2) (pa_cons (pe_ifExp (PW.pt (pw_and (pt_cmpR op_eq (pv 4) pe_str (nomark _)) (pw_and1 (pt_cmpR op_eq (pe_call G_draw (hr.mono (by decide)) rfl gD FD.kp b_draw .nil pass0 (pa_cons (pv 0) (pa_cons pe_int pa_nil))) pe_int (nomark _))))) (pv 3) (pe_make (E := E0) T.mkI I.ok (hr.mono (by decide)) rfl gI I.b .nil passL (pa_cons (pv 3) (pa_cons (pv 4) pa_nil)))) pa_nil)))))
    (pss_one (ps_ret (pv 2))))), ?_⟩
    have lp : ts.length = ps.length := Paired.length prs
    refine ⟨sz1000 (Nat.zero_le _), fun g H1 f1 m1 s1 g1 => ?_⟩
    obtain ⟨ngp, ngl⟩ := hP.new f1
    refine ⟨_, rfl, f, rfl, ⟨ts, SqL.of (s1 _ _ hf)⟩, for_list (K := K) (a := f) (xs := ts) (fun i σ H' => ∃ (kv nv : Option V) (xs : List V), σ = [some (.ref p), some (.ref f), some (.ref g), kv, nv] ∧ PenL H' p l (c + i) ∧ But p H H' ∧ H' g = some (.lst xs) ∧ Vals' K H' xs (ps.take i)) ⟨none, none, [], rfl, hP.same s1, But.of s1, g1, .nil⟩
      (fun i σ H' _ ⟨_, _, _, _, _, b, _⟩ => SqL.of (b _ _ hf hfp)) ?_ ?_⟩
    · rintro i x σ H2 hx ⟨kv, nv, xs, rfl, P2, B2, g2, vv⟩
      obtain ⟨t, q, rfl, eq, ht⟩ := prs_at prs hx
      obtain ⟨r, z⟩ := q
      have gq : Gd (r, z) := gd _ (List.mem_of_getElem? eq)
      have ntp : t ≠ p := fun h => by
        obtain ⟨ns, i', g', h1, _⟩ := hP
        rw [h, h1] at ht
        cases ht
      have hi : i < ps.length := (List.getElem?_eq_some_iff.mp eq).1
      have lx : xs.length < sizeLine := by
        have h1 : xs.length = (ps.take i).length := Paired.length vv
        rw [List.length_take] at h1
        exact Nat.lt_of_lt_of_le (show xs.length < 1000 by omega) (by decide)
      have tk : ps.take (i + 1) = ps.take i ++ [(r, z)] := by rw [List.take_add_one, eq]; rfl
      -- what is appended
      have fin : ∀ {H3 : Hp} {y : V} {kv nv : Option V}, PenL H3 p l (c + (i + 1)) → But p H2 H3 → Vv K H3 y (some (r, z)) → H3 g = some (.lst xs) ∧ (∃ (kv' nv' : Option V) (xs' : List V), [some (V.ref p), some (.ref f), some (.ref g), kv, nv] = [some (.ref p), some (.ref f), some (.ref g), kv', nv'] ∧ PenL (upd H3 g (.lst (xs ++ [y]))) p l (c + (i + 1)) ∧ But p H (upd H3 g (.lst (xs ++ [y]))) ∧ (upd H3 g (.lst (xs ++ [y]))) g = some (.lst xs') ∧ Vals' K (upd H3 g (.lst (xs ++ [y]))) xs' (ps.take (i + 1))) := fun {H3 y kv nv} P3 B3 vy => by
        have g3 := B3 _ _ g2 ngp
        have kp : ∀ a dx j u, H2 a = some (.ins (ga K "Item") dx [("rank", .int j), ("name", .str u)]) → H3 a = some (.ins (ga K "Item") dx [("rank", .int j), ("name", .str u)]) := fun a dx j u e => B3 _ _ e (fun h => by
          obtain ⟨ns, i', g', h1, _⟩ := P2
          rw [h, h1] at e
          cases e)
        have kg : ∀ a dx j u, H3 a = some (.ins (ga K "Item") dx [("rank", .int j), ("name", .str u)]) → (upd H3 g (.lst (xs ++ [y]))) a = some (.ins (ga K "Item") dx [("rank", .int j), ("name", .str u)]) := fun a dx j u e => by
          rw [upd_ne (fun h => by
            rw [h, g3] at e
            cases e)]
          exact e
        refine ⟨g3, kv, nv, xs ++ [y], rfl, P3.upd ngp ngl, fun b o hb hbp => ?_, upd_same, ?_⟩
        · rw [upd_ne (ne_of_none hb f1)]
          exact B3 b o (B2 b o hb hbp) hbp
        · rw [tk]
          exact Vals'.snoc ((vv.keep kp).keep kg) (vals_keep kg vy)
      have mk : ∀ {H3 : Hp} {R : VK} {x dx : Addr}, H3 x = none → H3 dx = none → dx ≠ x → (∀ H4, It K H4 x r z → Same H3 H4 → R .non H4) → spItem K [.ref x, .int r, .str z] (upd (upd H3 dx (.own x)) x (.ins (ga K "Item") dx [])) R E0 := fun h1 h2 h3 h4 => item_mk h1 h2 h3 (gd_rank gq) (show nameOk (.str z) = true from gq.2.1) (Nat.le_trans gq.2.2 (by decide)) h4
      refine ⟨t, _, rfl, SqT.of (B2 _ _ ht ntp), rfl, ?_⟩
      refine ⟨_, _, rfl, _, _, rfl, rfl, ?_⟩
      refine ⟨_, rfl, .inl ⟨rfl, _, SqL.of g2⟩, ?_⟩
      refine ⟨_, rfl, rfl, _, rfl, ?_⟩
      rw [dec_s]
      refine ite2 (fun hz => ?_) (fun hz => ?_)
      · refine ⟨_, rfl, p, l, 2, c + i, rfl, by decide, by decide, P2, by omega, fun r2 H3 _ _ P3 B3 => ⟨rfl, _, rfl, ?_⟩⟩
        have ez : z = "" := of_decide_eq_true hz
        refine ite2 (fun _ => ?_) (fun _ => ?_)
        · have vy : Vv K H3 (.int r) (some (r, z)) := by
            rw [ez]
            exact .int (gd_rank gq)
          obtain ⟨a1, a2⟩ := fin (kv := some (.int r)) (nv := some (.str z)) P3 B3 vy
          exact ⟨_, rfl, g, _, _, rfl, rfl, a1, lx, a2⟩
        · refine ⟨_, rfl, _, rfl, fun x dx h1 h2 h3 => mk h1 h2 h3 fun H4 I4 s4 => ⟨rfl, ?_⟩⟩
          obtain ⟨a1, a2⟩ := fin (kv := some (.int r)) (nv := some (.str z)) (P3.same s4) (B3.trans (But.of s4)) (.item I4)
          exact ⟨g, _, _, rfl, rfl, a1, lx, a2⟩
      · refine ⟨_, rfl, _, rfl, fun x dx h1 h2 h3 => mk h1 h2 h3 fun H4 I4 s4 => ⟨rfl, ?_⟩⟩
        obtain ⟨a1, a2⟩ := fin (kv := some (.int r)) (nv := some (.str z)) ((P2.same s4).mono (by omega)) (But.of s4) (.item I4)
        exact ⟨g, _, _, rfl, rfl, a1, lx, a2⟩
    · rintro σ H2 ⟨kv, nv, xs, rfl, P2, B2, g2, vv⟩
      rw [List.take_of_length_le (by omega)] at vv
      rw [lp] at P2
      exact ⟨_, rfl, k g H2 xs P2 B2 f1 ngp g2 vv⟩
end
end K03
namespace K03
open PySem PySem.Spec PyProof.Rows L2 He Tw
def spTold (K : Fg) : Sp := fun vs H Q _ => ∃ (f : Addr) (ys : List V) (ps : List (Int × Str)), vs = [.ref f] ∧ H f = some (.lst ys) ∧ Its K H ys ps ∧ ys.length ≤ 900 ∧ ∀ (g : Addr) (H' : Hp) (ts : List V), H g = none → Same H H' → H' g = some (.lst ts) → Prs H' ts ps → Q (.ref g) H'
/-- a value that is no item and no rank, beside the pen -/
structure Odd (H : Hp) (p : Addr) (v : V) : Prop where
  bv : ∃ t, Bv H v t
  bad : rankOk v = false
  ne : ∀ a, v = .ref a → a ≠ p
def spOdd : Sp := fun vs H Q _ => ∃ (p l : Addr) (c : Nat), vs = [.ref p] ∧ PenL H p l c ∧ c ≤ 900000 ∧ ∀ (v : V) (H' : Hp), PenL H' p l (c + 1) → But p H H' → Odd H' p v → Q v H'
abbrev s_told : Stmt := topS 34
abbrev N_told : List Str := ["_law_listed", "_law_item"]
theorem sc_told : FnScope N_told ["_law_listed"] (defScope s_told) := ⟨rfl, rfl, rfl, by decide +kernel, rfl, by decide +kernel, by decide +kernel⟩
abbrev s_odd : Stmt := topS 36
theorem sc_odd : FnScope ["_law_pen_here"] ["_law_pen_here"] (defScope s_odd) := ⟨rfl, rfl, rfl, by decide +kernel, rfl, by decide +kernel, by decide +kernel⟩
section
variable {P : Program} {w : World} {K : Fg} {mg : Str → Option Value} {base : Heap}
theorem ok_told {f : Addr} {fd : FuncData} (F : FnP K "_law_told" "_law_told" s_told f fd) (T : Txt K mg) : FnOk P w K mg base CX0 1 f fd ["_law_listed"] (spTold K) := by
  refine F.ok sc_told (fun vs H Q E h => ?_) (fun cdv A outer s H vs Q E hr h => ?_)
  · obtain ⟨f, ys, ps, rfl, _⟩ := h
    rfl
  · obtain ⟨f, ys, ps, rfl, hf, its, hn, k⟩ := h
    refine ⟨_, PSs.nox (pss_one (ps_ret (pe_lc (own := [("_law_item", 1)]) (g := gName 1) (tt := tYes) (by rfl) sc_told.nd (pi_list (pv 0)) (blkOk_by (own := [("_law_item", 1)]) (N := N_told) (sc := defScope s_told) (by decide +kernel)) (fun _ _ _ _ _ => (pg_name (i := 1) sc_told.nd rfl (Or.inl rfl))) (fun _ _ _ _ _ => pts_nil) (fun _ _ _ _ _ => (pe_tupN (pa_cons (fldK K (pv 1)) (pa_cons (fldK K (pv 1)) pa_nil))))))), ?_⟩
    have ln := its_len its
    refine ⟨_, rfl, f, rfl, ⟨ys, SqL.of hf⟩, fun D hD => lc_list (K := K) (a := f) (xs := ys) (fun i H' => Same H H' ∧ ∃ ts, H' D = some (.lst ts) ∧ Prs H' ts (ps.take i)) ⟨same_new hD, [], upd_same, .nil⟩ (fun _ _ _ q => SqL.of (q.1 _ _ hf)) ?_ ?_⟩
    · rintro i x H' hx ⟨sD, ts, gD, prs⟩
      have hi : i < ps.length := by
        have := (List.getElem?_eq_some_iff.mp hx).1
        omega
      obtain ⟨b, eb, Ib⟩ := its_at its (List.getElem?_eq_getElem hi)
      rw [hx] at eb
      cases eb
      obtain ⟨db, hb⟩ := Ib.same sD
      refine ⟨rfl, _, rfl, b, _, db, _, _, rfl, hb, T.cls, T.na (by decide +kernel), rfl, _, rfl, b, _, db, _, _, rfl, hb, T.cls, T.na (by decide +kernel), rfl, sz1000 (by show 2 ≤ 1000; decide), fun t H2 f2 s2 g2 => ?_⟩
      have gD2 := s2 _ _ gD
      have ne : ∀ {a : Addr} {xs : List V}, H2 a = some (.tup xs) → a ≠ D := fun {a xs} e h => by
        rw [h, gD2] at e
        cases e
      refine ⟨_, gD2, ?_, same_upd (sD.trans s2) hD, _, upd_same, ?_⟩
      · have h1 : ts.length = (ps.take i).length := Paired.length prs
        rw [List.length_take] at h1
        exact Nat.lt_of_lt_of_le (show ts.length < 1000 by omega) (by decide)
      · have tk : ps.take (i + 1) = ps.take i ++ [ps[i]] := by rw [List.take_add_one, List.getElem?_eq_getElem hi]; rfl
        rw [tk]
        refine Prs.snoc ((prs.keep fun a xs e => s2 _ _ e).keep fun a xs e => by
          rw [upd_ne (ne e)]
          exact e) ?_
        rw [upd_ne (ne g2)]
        exact g2
    · rintro H' ⟨sD, ts, gD, prs⟩
      rw [List.take_of_length_le (by omega)] at prs
      exact k D H' ts hD sD gD prs
theorem ok_odd {f fD fP : Addr} {fd fdD fdP : FuncData} (F : FnP K "_law_odd" "_law_odd" s_odd f fd) (FD : FnP K "_law_draw" "_law_draw" s_draw fD fdD) (gD : mg "_law_draw" = some (.ref fD)) (FP : FnP K "_law_pick" "_law_pick" s_pick fP fdP) (gP : mg "_law_pick" = some (.ref fP)) (T : Txt K mg) :
    FnOk P w K mg base CX0 3 f fd ["_law_pen_here"] spOdd := by
  have G_pick : FnOk P w K mg base CX0 2 fP fdP ["_law_pen_here", "_law_some"] (spPickL K) := ok_pick FP FD gD T
  have b_pick : Binds K fdP ["_law_pen_here", "_law_some"] [] := FP.bindsN fun _ _ _ _ _ _ us hl => match us, hl with | [_, _], _ => rfl
  refine F.ok sc_odd (fun vs H Q E h => ?_) (fun cdv A outer s H vs Q E hr h => ?_)
  · obtain ⟨p, l, c, rfl, _⟩ := h
    rfl
  · obtain ⟨p, l, c, rfl, hP, hc, k⟩ := h
    refine ⟨_, PSs.nox (pss_one (ps_ret (pe_call G_pick (hr.mono (by decide)) rfl gP FP.kp b_pick .nil pass0 (pa_cons (pv 0) (pa_cons (pe_lstN (pa_cons pe_non (pa_cons pe_bl (pa_cons pe_bl (pa_cons pe_str (pa_cons pe_str (pa_cons (pe_op op_pow pe_int pe_int) (pa_cons (pe_un un_neg (pe_op op_pow pe_int pe_int)) (pa_cons (pe_tupN (pa_cons pe_int pa_nil)) (pa_cons (pe_lstN (pa_cons pe_int pa_nil)) (pa_cons pe_dnewN (pa_cons pe_str pa_nil)))))))))))) pa_nil))))), ?_⟩
    refine ⟨_, rfl, _, _, rfl, rfl, ⟨by decide, by decide, by decide⟩, _, _, rfl, rfl, ⟨by decide, by decide, by decide⟩, _, rfl, sz1000 (by show 1 ≤ 1000; decide), fun q1 H1 f1 s1 g1 => ?_⟩
    refine ⟨sz1000 (by show 1 ≤ 1000; decide), fun q2 H2 f2 m2 s2 g2 q3 H3 f3 m3 s3 g3 => ⟨sz1000 (by show 11 ≤ 1000; decide), fun q4 H4 f4 m4 s4 g4 => ?_⟩⟩
    have P1 := hP.same s1
    have P2 := P1.same s2
    have P3 := P2.same s3
    have P4 := P3.same s4
    have n1 := (hP.new f1).1
    have n2 := (P1.new f2).1
    have n3 := (P2.new f3).1
    have n4 := (P3.new f4).1
    refine ⟨p, l, q4, _, c, rfl, SqL.of g4, n4, (by show 0 < 11; decide), (by show 11 < 1000; decide), P4, by omega, fun v H5 hv P5 B5 => ?_⟩
    have B : But p H H5 := ((((But.of s1).trans (But.of s2)).trans (But.of s3)).trans (But.of s4)).trans B5
    have flat : ∀ {y : V} {t : String}, Bv H5 y t → rankOk y = false → (∀ a, y ≠ .ref a) → Odd H5 p y := fun b r n => ⟨⟨_, b⟩, r, fun a e => absurd e (n a)⟩
    have rf : ∀ {a : Addr} {t : String}, Bv H5 (.ref a) t → a ≠ p → Odd H5 p (.ref a) := fun b n => ⟨⟨_, b⟩, rfl, fun c e => by
      cases e
      exact n⟩
    refine k v H5 P5 B ?_
    simp only [List.mem_cons, List.not_mem_nil, or_false] at hv
    rcases hv with rfl | rfl | rfl | rfl | rfl | rfl | rfl | rfl | rfl | rfl | rfl
    · exact flat .non rfl (fun _ z => nomatch z)
    · exact flat (.bl _) rfl (fun _ z => nomatch z)
    · exact flat (.bl _) rfl (fun _ z => nomatch z)
    · exact flat (.str _) rfl (fun _ z => nomatch z)
    · exact flat (.str _) rfl (fun _ z => nomatch z)
    · exact flat (.int _) (by decide) (fun _ z => nomatch z)
    · exact flat (.int _) (by decide) (fun _ z => nomatch z)
    · exact rf (.tup (B5 _ _ (s4 _ _ (s3 _ _ (s2 _ _ g1))) n1)) n1
    · exact rf (.lst (B5 _ _ (s4 _ _ (s3 _ _ g2)) n2)) n2
    · exact rf (.dK (B5 _ _ (s4 _ _ g3) n3)) n3
    · exact flat (.str _) rfl (fun _ z => nomatch z)
end
end K03
namespace K03
open PySem PySem.Spec PyProof.Rows L2 He Tw
theorem popK {X : Cx} {o e : Expr} {to te : TE} {cpos apos : Pos} (K : Fg) (ho : PE X o to) (he : PE X e te) (h : X.K = K := by rfl)
    (hbase : attributeBase o "pop" X.env (eval o X.env) = eval o X.env := by rfl)
    (hfew : ((backTo cpos (starEach [e] X.env)).all (fun x => !x.1) && (backToKw cpos (keywordEach [] X.env)).all (fun x => x.1.isSome) && decide (([e] : List Expr).length + ([] : List Keyword).length + (if ([] : List Keyword).isEmpty then 0 else 1) < 30)) = true := by rfl)
    (hline : (apos.endLine == cpos.line) = true := by rfl) (hs : starEach [e] X.env = (false, eval e X.env) :: starEach [] X.env := by rfl) (hplain : (backTo cpos (starEach [] X.env)).any (·.1) = false := by rfl) :
    PE X (.Call (.Attribute o "pop" apos) [e] [] cpos) (tBM K "list" rPopAt to (tCons te tNil)) := by
  subst h
  exact pe_bm PySem.F.plainAttrs_list PySem.F.slot_list_pop PySem.F.type_list_pop mt_popAt ho (pa_cons he pa_nil hs) hbase hfew hline hs hplain
/-- len of a list, where the context is a comprehension's -/
theorem lenK {X : Cx} (K : Fg) (h : X.K = K := by rfl) : CallR X (.builtin "len") (fun xs H Q => ∃ x n, xs = [x] ∧ LenV K x H n ∧ Q (.int n) H) := by
  subst h
  exact call_len
theorem prs_erase {H : Hp} : ∀ {ts : List V} {ps : List (Int × Str)} (k : Nat), Prs H ts ps → Prs H (ts.eraseIdx k) (ps.eraseIdx k)
  | _, _, _, .nil => by
    simp only [List.eraseIdx_nil]
    exact .nil
  | _, _, 0, .cons _ r => r
  | _, _, k + 1, .cons h r => .cons h (prs_erase k r)
def spMixed : Sp := fun vs H Q _ => ∃ (p l f : Addr) (ts : List V) (ps : List (Int × Str)) (c : Nat), vs = [.ref p, .ref f] ∧ PenL H p l c ∧ c ≤ 600000 ∧ H f = some (.lst ts) ∧ f ≠ p ∧ Prs H ts ps ∧ ps.length ≤ 400 ∧
  ∀ (g : Addr) (H' : Hp) (ts' : List V) (ps' : List (Int × Str)), PenL H' p l (c + ps.length) → But p H H' → H g = none → g ≠ p → H' g = some (.lst ts') → Prs H' ts' ps' → ps'.length = ps.length → (∀ q ∈ ps', q ∈ ps) → Q (.ref g) H'
abbrev s_mixed : Stmt := topS 37
abbrev N_mixed : List Str := ["_law_pen_here", "_law_some", "_law_left", "_law_turn"]
theorem sc_mixed : FnScope N_mixed ["_law_pen_here", "_law_some"] (defScope s_mixed) := ⟨rfl, rfl, rfl, by decide +kernel, rfl, by decide +kernel, by decide +kernel⟩
section
variable {P : Program} {w : World} {K : Fg} {mg : Str → Option Value} {base : Heap}
theorem ok_mixed {f fD : Addr} {fd fdD : FuncData} (F : FnP K "_law_mixed" "_law_mixed" s_mixed f fd) (FD : FnP K "_law_draw" "_law_draw" s_draw fD fdD) (gD : mg "_law_draw" = some (.ref fD)) (T : Txt K mg) : FnOk P w K mg base CX0 2 f fd ["_law_pen_here", "_law_some"] spMixed := by
  have zr : mg "range" = none := T.bl (by decide +kernel)
  have zlen : mg "len" = none := T.bl (by decide +kernel)
  have zlist : mg "list" = none := T.bl (by decide +kernel)
  have G_draw : FnOk P w K mg base CX0 1 fD fdD ["_law_pen_here", "_law_many"] spDrawL := ok_draw FD T
  have b_draw : Binds K fdD ["_law_pen_here", "_law_many"] [] := FD.bindsN fun _ _ _ _ _ _ us hl => match us, hl with | [_, _], _ => rfl
  refine F.ok sc_mixed (fun vs H Q E h => ?_) (fun cdv A outer s H vs Q E hr h => ?_)
  · obtain ⟨p, l, f, ts, ps, c, rfl, _⟩ := h
    rfl
  · obtain ⟨p, l, f, ts, ps, c, rfl, hP, hc, hf, hfp, prs, hn, k⟩ := h
    refine ⟨_, PSs.nox (pss_cons (ps_set (i := 2) sc_mixed.nd rfl (Or.inr rfl) (pe_callTy call_list_of (by rfl) zlist (by decide +kernel) (pa_cons (pv 1) pa_nil)))
    (pss_one (ps_ret (pe_lc (own := [("_law_turn", 3)]) (g := gName 3) (tt := tYes) (by rfl) sc_mixed.nd (pi_range1 rfl zr (pa_cons (pe_callB call_len (by rfl) zlen (by decide +kernel) (pa_cons (pv 2) pa_nil)) pa_nil)) (blkOk_by (own := [("_law_turn", 3)]) (N := N_mixed) (sc := defScope s_mixed) (by decide +kernel)) (fun _ _ _ _ _ => (pg_name (i := 3) sc_mixed.nd rfl (Or.inl rfl))) (fun _ _ _ _ _ => pts_nil) (fun _ _ _ _ _ => popK K (pv 2) (pe_call G_draw (hr.mono (by decide)) rfl gD FD.kp b_draw .nil pass0 (pa_cons (pv 0) (pa_cons (pe_callB (lenK K) (by rfl) zlen (by decide +kernel) (pa_cons (pv 2) pa_nil)) pa_nil)))))))), ?_⟩
    have lp : ts.length = ps.length := Paired.length prs
    have len9 : ts.length ≤ sizeLine := Nat.le_trans (show ts.length ≤ 1000 by omega) (by decide)
    refine ⟨_, rfl, f, ts, rfl, .inl (SqL.of hf), fun q hq => ?_⟩
    obtain ⟨nqp, nql⟩ := hP.new hq
    have s1 := same_new (o := .lst ts) hq
    refine ⟨_, rfl, _, _, rfl, .inl ⟨_, SqL.of upd_same, rfl⟩, (ts.length : Int), rfl, by omega, by omega, fun D hD => lc_range (lo := 0) (n := ((ts.length : Int)).toNat) (fun i H' => PenL H' p l (c + i) ∧ But p H H' ∧ ∃ (rs as : List V) (rp ap : List (Int × Str)), H' q = some (.lst rs) ∧ Prs H' rs rp ∧ rp.length = ps.length - i ∧ (∀ x ∈ rp, x ∈ ps) ∧
      H' D = some (.lst as) ∧ Prs H' as ap ∧ ap.length = i ∧ ∀ x ∈ ap, x ∈ ps) ?_ ?_ ?_⟩
    · have P1 := hP.same s1
      have nD := P1.new hD
      have hDq : D ≠ q := (ne_of_none (show (upd H q (.lst ts)) q = some (.lst ts) from upd_same) hD).symm
      refine ⟨P1.same (same_new hD), (But.of s1).trans (But.of (same_new hD)), ts, [], ps, [], by rw [upd_ne hDq.symm]; exact upd_same, (prs.keep fun a xs e => s1 _ _ e).keep fun a xs e => (same_new hD) _ _ e, rfl, fun _ h => h, upd_same, .nil, rfl, fun _ h => nomatch h⟩
    · rintro i H2 hi ⟨P2, B2, rs, as, rp, ap, gq, pr, lr, sr, gD, pa, la, sa⟩
      have P1 := hP.same s1
      obtain ⟨nDp, nDl⟩ := P1.new hD
      have hDq : D ≠ q := (ne_of_none (show (upd H q (.lst ts)) q = some (.lst ts) from upd_same) hD).symm
      have lrs : rs.length = rp.length := Paired.length pr
      refine ⟨rfl, _, rfl, .inl ⟨rfl, _, SqL.of gq⟩, _, rfl, _, rfl, _, _, rfl, .inl ⟨_, SqL.of gq, rfl⟩, p, l, (rs.length : Int), c + i, rfl, by omega, by omega, P2, by omega, fun r H3 r0 r1 P3 B3 => ?_⟩
      have gq3 := B3 _ _ gq nqp
      have gD3 := B3 _ _ gD nDp
      have hlt : r.toNat < rs.length := by omega
      obtain ⟨t, x, ex, epx, ht⟩ := prs_at pr (List.getElem?_eq_getElem hlt)
      have tne : ∀ {a : Addr} {xs : List V}, H2 a = some (.tup xs) → a ≠ p ∧ a ≠ q ∧ a ≠ D := fun {a xs} e => by
        refine ⟨fun h => ?_, fun h => ?_, fun h => ?_⟩
        · obtain ⟨ns, i', g', h1, _⟩ := P2
          rw [h, h1] at e
          cases e
        · rw [h, gq] at e
          cases e
        · rw [h, gD] at e
          cases e
      have kp : ∀ {o u : HO} (a : Addr) (xs : List V), H2 a = some (.tup xs) → (upd (upd H3 q o) D u) a = some (.tup xs) := fun {o u} a xs e => by
        obtain ⟨e1, e2, e3⟩ := tne e
        rw [upd_ne e3, upd_ne e2]
        exact B3 _ _ e e1
      refine ⟨q, rs, r, r.toNat, _, rfl, rfl, gq3, by omega, by omega, ?_, List.getElem?_eq_getElem hlt, as, by rw [upd_ne hDq]; exact gD3, ?_, ?_, ?_, rs.eraseIdx r.toNat, _, rp.eraseIdx r.toNat, ap ++ [x], by rw [upd_ne hDq.symm]; exact upd_same, (prs_erase _ pr).keep kp, ?_, ?_, upd_same, ?_, ?_, ?_⟩
      · refine (ixN_seq (n := rs.length) (i := r) (j := r.toNat) ?_).1
        unfold ixN
        rw [if_pos r0, if_pos r1]
      · have h1 : as.length = ap.length := Paired.length pa
        exact Nat.lt_of_lt_of_le (show as.length < 1000 by omega) (by decide)
      · exact (((P3.upd nqp nql).upd nDp nDl).mono (by omega))
      · exact fun b o hb hbp => by
          have nb : b ≠ D := ne_of_none hb (s1.free hD)
          rw [upd_ne nb, upd_ne (ne_of_none hb hq)]
          exact B3 b o (B2 b o hb hbp) hbp
      · rw [List.length_eraseIdx, if_pos (by omega)]
        omega
      · exact fun y hy => sr y (List.mem_of_mem_eraseIdx hy)
      · have e2 := kp (o := .lst (rs.eraseIdx r.toNat)) (u := .lst (as ++ [rs[r.toNat]])) t _ ht
        rw [ex] at e2 ⊢
        exact Prs.snoc (pa.keep kp) e2
      · rw [List.length_append, la]
        rfl
      · intro y hy
        rcases List.mem_append.mp hy with h | h
        · exact sa y h
        · have e := List.mem_singleton.mp h
          subst e
          exact sr y (List.mem_of_getElem? epx)
    · rintro H2 ⟨P2, B2, rs, as, rp, ap, gq, pr, lr, sr, gD, pa, la, sa⟩
      have hDH : H D = none := s1.free hD
      have nDp := ((hP.same s1).new hD).1
      exact k D H2 as ap (P2.mono (by omega)) B2 hDH nDp gD pa (by omega) sa
end
end K03
/-! Tw: len of an object with its own __len__; a comprehension's rules with the written part named. -/
namespace Tw
open PySem PySem.Spec PyProof.Rows L2
section
variable {X : Cx} {CX : CXT} {k : Nat} {f C : Addr} {fd : FuncData} {ps : List Str} {sp : Sp} {E : XK}
/-- len(x) by x's own __len__ -/
def rLenOwn (C : Addr) (sp : Sp) (E : XK) : List V → Hp → VK → Prop := fun xs H Q => ∃ (a dx : Addr) (fs : List (Str × V)), xs = [.ref a] ∧ H a = some (.ins C dx fs) ∧ sp [.ref a] H (fun z H' => ∃ n : Nat, z = .int (n : Nat) ∧ n < 2 ^ 62 ∧ Q z H') E
theorem call_lenOwn (hs : PySem.W.findIn X.K (.ref C) "__len__" = some (some (.ref f))) (hf : PySem.W.isFn X.K (.ref f) = true) (F : FnOk X.prog X.w X.K X.mg X.base CX k f fd ps sp) (hr : Room (k + 1) X.A) (hb : Binds X.K fd ps []) (hx : Passes CX X E) : CallR X (.builtin "len") (rLenOwn C sp E) := by
  intro pins s σ H xs us Q I r h
  obtain ⟨a, dx, fs, rfl, ea, q⟩ := h
  obtain ⟨u1, rfl, r1⟩ := vals1 r
  cases (show u1 = Value.ref a from r1)
  obtain ⟨od, ox, J⟩ := inst_at I ea
  obtain ⟨m, hF⟩ := I.fr
  refine PySem.W.len_K hF I.ok.mod.kin J hs hf ?_
  refine wpAny_mono (run_in1 F hr hb hx I (.cons r1 .nil) q) (fun w s' z => ?_) fun _ _ x => x
  obtain ⟨z', H', I', rz, n, ez, hn, qz⟩ := z
  subst ez
  obtain ⟨t, rfl⟩ := rz
  exact ⟨⟨Int.natCast_nonneg n, by omega⟩, .int (n : Nat), H', I'.tok _, ⟨_, rfl⟩, qz⟩
end
end Tw
namespace K03
open PySem PySem.Spec PyProof.Rows L2 He Tw
/-- how rows are made: by position, by the name of the parameter -/
structure Rws (P : Program) (w : World) (K : Fg) (mg : Str → Option Value) (base : Heap) (fd : FuncData) : Prop where
  ok : FnOk P w K mg base (L2.CX P w) 6 (ma K (ga K "Row") "__init__") fd ["self", "items"] (spRow K)
  b : Binds K fd ["self", "items"] []
  kb : ∃ its : List Value, KBn K fd ["self", "items"] 1 ["items"] (fun us ws => us ++ ws) (fun vs zs => vs ++ zs)
/-- the row's methods -/
structure Mths (K : Fg) (fl fr fn fe : FuncData) : Prop where
  lst : FnP K "listed" "Row.listed" s_lst (ma K (ga K "Row") "listed") fl
  rks : FnP K "ranks" "Row.ranks" s_rks (ma K (ga K "Row") "ranks") fr
  len : FnP K "__len__" "Row.__len__" s_len (ma K (ga K "Row") "__len__") fn
  eq : FnP K "__eq__" "Row.__eq__" s_eqr (ma K (ga K "Row") "__eq__") fe
theorem some_inj {α : Type} : ∀ {xs ys : List α}, xs.map some = ys.map some → xs = ys
  | [], [], _ => rfl
  | [], _ :: _, h => nomatch h
  | _ :: _, [], h => nomatch h
  | x :: xs, y :: ys, h => by
    injection h with h1 h2
    rw [Option.some.inj h1, some_inj h2]
/-- a row is made of these -/
theorem row_to {K : Fg} {H : Hp} {q x dx : Addr} {xs : List V} {ps : List (Int × Str)} {R : VK} {E : XK} (hx : H x = none) (hd : H dx = none) (hne : dx ≠ x) (S : Src K H q xs (ps.map some)) (up : Up ps ps.length) (few : ps.length ≤ 200)
    (k : ∀ (H' : Hp) (ys : List V), Same H H' → RowAt K H' x ys → Its K H' ys ps → R .non H') : spRow K [.ref x, .ref q] (upd (upd H dx (.own x)) x (.ins (ga K "Row") dx [])) R E := by
  refine ⟨x, q, dx, xs, ps.map some, rfl, upd_same, S.same (same_made hd hx hne), fun ps' e up' few' H' ys b r i => ?_, fun n f v bad => ?_⟩
  · have ep : ps = ps' := some_inj e
    subst ep
    exact k H' ys (same_but (same_made hd hx hne) b hx) r i
  · cases bad with
    | @item n ps' h1 h2 h3 =>
      rw [List.getElem?_map] at h3
      cases e : ps[n]? with
      | none =>
        rw [e] at h3
        cases h3
      | some p =>
        rw [e] at h3
        cases h3
    | @order m ps' a b h0 h1 h2 h3 h4 =>
      have ep : ps = ps' := some_inj h0
      subst ep
      have lt : m < ps.length := (List.getElem?_eq_some_iff.mp h1).1
      have := up m a b lt h1 h2
      omega
    | @many ps' h0 h1 h2 =>
      have ep : ps = ps' := some_inj h0
      subst ep
      omega
/-- values that stand for pairs, as a row is made of them -/
theorem vals_src {K : Fg} {H : Hp} {q : Addr} {xs : List V} {ps : List (Int × Str)} (hs : Seq K H q xs) (v : Vals' K H xs ps) (few : ps.length ≤ 900) : Src K H q xs (ps.map some) := by
  have l : xs.length = ps.length := Paired.length v
  refine ⟨hs, by omega, by rw [List.length_map, l], ?_⟩
  have go : ∀ {xs : List V} {ps : List (Int × Str)}, Vals' K H xs ps → ∀ (i : Nat) (x : V), xs[i]? = some x → ∃ o : Option (Int × Str), (ps.map some)[i]? = some o ∧ Vv K H x o := by
    intro xs ps v
    induction v with
    | nil => exact fun i x h => nomatch h
    | cons h r ih =>
      intro i x e
      cases i with
      | zero =>
        cases e
        exact ⟨_, rfl, h⟩
      | succ n => exact ih n x e
  exact go v
theorem its_src {K : Fg} {H : Hp} {q : Addr} {ys : List V} {ps : List (Int × Str)} (hs : Seq K H q ys) (v : Its K H ys ps) (few : ps.length ≤ 900) : Src K H q ys (ps.map some) := by
  refine vals_src hs ?_ few
  clear hs few
  induction v with
  | nil => exact .nil
  | cons h r ih =>
    obtain ⟨a, e, i⟩ := h
    subst e
    exact .cons (.item i) ih
end K03
namespace K03
open PySem PySem.Spec PyProof.Rows L2 He Tw
def pd (q : Int × Str) : PyData := .tuple [.int q.1, .str q.2]
theorem dp_prs {K : Fg} {H : Hp} : ∀ {ts : List V} {ps : List (Int × Str)}, Prs H ts ps → DpAll K H ts (ps.map pd)
  | _, _, .nil => .nil
  | _, _, .cons ⟨t, h1, h2⟩ r => by
    subst h1
    exact .cons (.tup (SqT.of h2) (.cons (.int _) (.cons (.str _) .nil))) (dp_prs r)
theorem letters_lt : ∀ c ∈ letters.cps.toList, c < 128 := by decide +kernel
theorem text_strOk {z : Str} (h : textOk z = true) : PyData.strOk z = true := by
  unfold textOk at h
  unfold PyData.strOk
  rw [← Array.all_toList, List.all_eq_true]
  exact fun c hc => decide_eq_true (Nat.lt_trans (letters_lt c (of_decide_eq_true (List.all_eq_true.mp (ba h).2 c hc))) (by decide))
theorem lay_prs : ∀ {ps : List (Int × Str)}, (∀ q ∈ ps, Gd q) → PyData.canLayAll0 (ps.map pd) = true ∧ PyData.depthAll (ps.map pd) ≤ 1
  | [], _ => ⟨rfl, Nat.zero_le _⟩
  | q :: ps, h => by
    obtain ⟨h1, h2⟩ := lay_prs (ps := ps) fun x hx => h x (List.mem_cons_of_mem _ hx)
    have h3 := text_strOk (h q List.mem_cons_self).2.1
    constructor
    · simp only [List.map_cons, pd, PyData.canLayAll0, PyData.canLay0, h1, h3, Bool.and_self]
    · simp only [List.map_cons, pd, PyData.depthAll, PyData.depth]
      omega
theorem shaped_prs {ps : List (Int × Str)} (h : ∀ q ∈ ps, Gd q) : SeqAt.shaped (.list (ps.map pd)) = true := by
  obtain ⟨h1, h2⟩ := lay_prs h
  simp only [SeqAt.shaped, PyData.canLay0, PyData.depth, h1, Bool.true_and]
  exact decide_eq_true (by omega)
theorem eqv_prs {ps : List (Int × Str)} (h : ∀ q ∈ ps, Gd q) : PyData.eqv (.list (ps.map pd)) (.list (ps.map pd)) = true := SeqAt.eqv_refl _ (by
  have := (lay_prs h).1
  simpa [PyData.canLay0] using this)
def spMade (K : Fg) : Sp := fun vs H Q _ => ∃ (p l f : Addr) (ts : List V) (ps : List (Int × Str)) (c : Nat), vs = [.ref p, .ref f] ∧ PenL H p l c ∧ c ≤ 500000 ∧ H f = some (.lst ts) ∧ f ≠ p ∧ Prs H ts ps ∧ ps.length ≤ 100 ∧ Up ps ps.length ∧ (∀ q ∈ ps, Gd q) ∧ ∀ H', PenL H' p l (c + 100) → But p H H' → Q (.bl true) H'
abbrev s_made : Stmt := topS 39
abbrev N_made : List Str := ["_law_pen_here", "_law_pairs_here", "_law_values_here", "_law_row", "_law_rows", "_law_one", "_law_pair"]
theorem sc_made : FnScope N_made ["_law_pen_here", "_law_pairs_here"] (defScope s_made) := ⟨rfl, rfl, rfl, by decide +kernel, rfl, by decide +kernel, by decide +kernel⟩
theorem its_but {K : Fg} {H H' : Hp} {g : Addr} {us : List V} (hg : H g = some (.lst us)) (e : But g H H') : ∀ {ys : List V} {ps : List (Int × Str)}, Its K H ys ps → Its K H' ys ps
  | _, _, .nil => .nil
  | _, _, .cons ⟨a, h1, ⟨dx, h2⟩⟩ t => .cons ⟨a, h1, dx, e _ _ h2 (fun z => by
    rw [z, hg] at h2
    cases h2)⟩ (its_but hg e t)
theorem row_but {K : Fg} {H H' : Hp} {g a : Addr} {us ys : List V} (hg : H g = some (.lst us)) (e : But g H H') (h : RowAt K H a ys) : RowAt K H' a ys := by
  obtain ⟨dx, t, h1, h2⟩ := h
  refine ⟨dx, t, e _ _ h1 (fun z => ?_), e _ _ h2 (fun z => ?_)⟩
  · rw [z, hg] at h1
    cases h1
  · rw [z, hg] at h2
    cases h2
section
variable {P : Program} {w : World} {K : Fg} {mg : Str → Option Value} {base : Heap}
theorem ok_made {f fD fV fT : Addr} {fd fdD fdV fdT fdI fdR fl fr fn fe : FuncData} {d2 : List Value} (F : FnP K "_law_made_right" "_law_made_right" s_made f fd) (FD : FnP K "_law_draw" "_law_draw" s_draw fD fdD) (gD : mg "_law_draw" = some (.ref fD)) (FV : FnP K "_law_values" "_law_values" s_values fV fdV) (gV : mg "_law_values" = some (.ref fV))
    (FT : FnP K "_law_told" "_law_told" s_told fT fdT) (gT : mg "_law_told" = some (.ref fT)) (I : Itm P w K mg base fdI d2) (R : Rws P w K mg base fdR) (M : Mths K fl fr fn fe) (T : Txt K mg) : FnOk P w K mg base CX0 8 f fd ["_law_pen_here", "_law_pairs_here"] (spMade K) := by
  have gR : mg "Row" = some (.ref (ga K "Row")) := T.cl (by decide +kernel)
  have zlen : mg "len" = none := T.bl (by decide +kernel)
  have ztup : mg "tuple" = none := T.bl (by decide +kernel)
  have G_values : FnOk P w K mg base CX0 5 fV fdV ["_law_pen_here", "_law_pairs_here"] (spValues K) := ok_values FV FD gD I T
  have b_values : Binds K fdV ["_law_pen_here", "_law_pairs_here"] [] := FV.bindsN fun _ _ _ _ _ _ us hl => match us, hl with | [_, _], _ => rfl
  have G_told : FnOk P w K mg base CX0 1 fT fdT ["_law_listed"] (spTold K) := ok_told FT T
  have b_told : Binds K fdT ["_law_listed"] [] := FT.bindsN fun _ _ _ _ _ _ us hl => match us, hl with | [_], _ => rfl
  have G_lst : FnOk P w K mg base CX0 1 _ fl ["self"] (spListed K) := ok_lst M.lst T
  have G_rks : FnOk P w K mg base CX0 1 _ fr ["self"] (spRanks K) := ok_rks M.rks T
  have G_len : FnOk P w K mg base CX0 1 _ fn ["self"] (spLen K) := ok_len M.len T
  have G_eq : FnOk P w K mg base CX0 2 _ fe ["self", "other"] (spEqR K) := ok_eqr M.eq M.rks T
  have b_lst : Binds K fl ["self"] [] := M.lst.bindsN fun _ _ _ _ _ _ us hl => match us, hl with | [_], _ => rfl
  have b_rks : Binds K fr ["self"] [] := M.rks.bindsN fun _ _ _ _ _ _ us hl => match us, hl with | [_], _ => rfl
  have b_len : Binds K fn ["self"] [] := M.len.bindsN fun _ _ _ _ _ _ us hl => match us, hl with | [_], _ => rfl
  have b_eq : Binds K fe ["self", "other"] [] := M.eq.bindsN fun _ _ _ _ _ _ us hl => match us, hl with | [_, _], _ => rfl
  obtain ⟨_, kR⟩ := R.kb
  have mL := T.mtR (m := "listed") (by decide +kernel)
  have mK := T.mtR (m := "ranks") (by decide +kernel)
  have mN := T.mtR (m := "__len__") (by decide +kernel)
  have mE := T.mtR (m := "__eq__") (by decide +kernel)
  refine F.ok sc_made (fun vs H Q E h => ?_) (fun cdv A outer s H vs Q E hr h => ?_)
  · obtain ⟨p, l, f, ts, ps, c, rfl, _⟩ := h
    rfl
  · obtain ⟨p, l, f, ts, ps, c, rfl, hP, hc, hf, hfp, prs, hn, up, gd, k⟩ := h
    refine ⟨_, PSs.nox (pss_cons (ps_set (i := 2) sc_made.nd rfl (Or.inl rfl) (pe_call G_values (hr.mono (by decide)) rfl gV FV.kp b_values .nil pass0 (pa_cons (pv 0) (pa_cons (pv 1) pa_nil))))
    (pss_cons (ps_set (i := 3) sc_made.nd rfl (Or.inl rfl) (pe_make (E := E0) T.mkR R.ok (hr.mono (by decide)) rfl gR R.b .nil passL (pa_cons (pv 2) pa_nil)))
    (pss_cons (ps_set (i := 4) sc_made.nd rfl (Or.inl rfl) (pe_lstN (pa_cons (pv 3) (pa_cons (pe_make (E := E0) T.mkR R.ok (hr.mono (by decide)) rfl gR R.b .nil passL (pa_cons (pe_callTy call_tuple_of (by rfl) ztup (by decide +kernel) (pa_cons (pv 2) pa_nil)) pa_nil)) (pa_cons (pe_makeK0 (E := E0) T.mkR R.ok (hr.mono (by decide)) rfl gR kR passL (pk_cons (pv 3) pk_nil)) (pa_cons (pe_make (E := E0) T.mkR R.ok (hr.mono (by decide)) rfl gR R.b .nil passL (pa_cons (pe_meth0 (E := E0) (pv 3) T.clsR mL G_lst (hr.mono (by decide)) b_lst .nil pass0) pa_nil)) pa_nil))))))
    (pss_cons (ps_expr (pe_bm PySem.F.plainAttrs_list PySem.F.slot_list_append PySem.F.type_list_append mt_append (pv 2) (pa_cons pe_str pa_nil)))
    (pss_cons (ps_expr (pe_bm0 PySem.F.plainAttrs_list PySem.F.slot_list_reverse PySem.F.type_list_reverse mt_reverse (pv 2)))
    (pss_cons (ps_expr (pe_bm0 PySem.F.plainAttrs_list PySem.F.slot_list_clear PySem.F.type_list_clear mt_clear (pe_meth0 (E := E0) (pv 3) T.clsR mL G_lst (hr.mono (by decide)) b_lst .nil pass0)))
    (pss_cons (ps_expr (pe_bm PySem.F.plainAttrs_list PySem.F.slot_list_append PySem.F.type_list_append mt_append (pe_meth0 (E := E0) (pv 3) T.clsR mK G_rks (hr.mono (by decide)) b_rks .nil pass0) (pa_cons pe_int pa_nil)))
    (pss_cons (ps_for PassesOwn.never rfl (pi_list (pv 4)) (pg_name (i := 5) sc_made.nd rfl (Or.inl rfl))
    (pss_cons (ps_if (PW.pt (pw_or (pt_cmpR (op_neD hr.units) (pe_call G_told (hr.mono (by decide)) rfl gT FT.kp b_told .nil pass0 (pa_cons (pe_meth0 (E := E0) (pv 5) T.clsR mL G_lst (hr.mono (by decide)) b_lst .nil pass0) pa_nil)) (pv 1) (nomark _)) (pw_or (pt_cmpR op_ne (pe_callB (call_lenOwn (E := E0) mN.at_ mN.fn G_len (hr.mono (by decide)) b_len pass0) (by rfl) zlen (by decide +kernel) (pa_cons (pv 5) pa_nil)) (pe_callB call_len (by rfl) zlen (by decide +kernel) (pa_cons (pv 1) pa_nil)) (nomark _)) (pw_or1 (pt_not (pt_cmpR (op_eqOwn (E := E0) mE.at_ mE.fn G_eq (hr.mono (by decide)) b_eq pass0) (pv 5) (pv 3) (nomark _))))))) (pss_one (ps_ret pe_bl)) pss_nil)
    (pss_one (ps_if (pt_cmpR (op_neD hr.units) (pe_meth0 (E := E0) (pv 5) T.clsR mK G_rks (hr.mono (by decide)) b_rks .nil pass0) (pe_lc (own := [("_law_pair", 6)]) (g := gName 6) (tt := tYes) (by rfl) sc_made.nd (pi_list (pv 1)) (blkOk_by (own := [("_law_pair", 6)]) (N := N_made) (sc := defScope s_made) (by decide +kernel)) (fun _ _ _ _ _ => (pg_name (i := 6) sc_made.nd rfl (Or.inl rfl))) (fun _ _ _ _ _ => pts_nil) (fun _ _ _ _ _ => (pe_ix (ixt K) (pv 6) pe_int (fun _ _ => rfl)))) (nomark _)) (pss_one (ps_ret pe_bl)) pss_nil))))
    (pss_one (ps_ret pe_bl)))))))))), ?_⟩
    have few9 : ps.length ≤ 900 := by omega
    refine ⟨_, rfl, _, rfl, p, l, f, ts, ps, c, rfl, hP, by omega, hf, hfp, prs, by omega, gd, fun g H1 xs P1 B1 h1 ngp g1 vv => ?_⟩
    -- the four rows
    refine ⟨_, rfl, fun x1 d1 hx hd hne => row_to hx hd hne (vals_src (.inl (SqL.of g1)) vv few9) up (by omega) fun H2 ys1 s2 r2 i2 => ⟨rfl, ?_⟩⟩
    have vv2 : Vals' K H2 xs ps := vv.keep fun a dx i z e => s2 _ _ e
    refine ⟨_, rfl, _, rfl, g, xs, rfl, .inl ⟨SqL.of (s2 _ _ g1), fun t ht => ?_⟩⟩
    have s3 := same_new (o := .tup xs) ht
    refine fun x2 d3 hx2 hd2 hne2 => row_to hx2 hd2 hne2 (vals_src (.inr (.inl (SqT.of upd_same))) (vv2.keep fun a dx i z e => s3 _ _ e) few9) up (by omega) fun H4 ys2 s4 r4 i4 => ⟨rfl, ?_⟩
    have s24 := s3.trans s4
    refine ⟨_, rfl, rfl, rfl, fun x3 d4 hx3 hd3 hne3 => row_to hx3 hd3 hne3 (its_src (.inr (.inr (r2.same s24))) (i2.same s24) few9) up (by omega) fun H5 ys3 s5 r5 i5 => ⟨rfl, ?_⟩⟩
    have s25 := s24.trans s5
    have rA := r2.same s25
    have iA := i2.same s25
    obtain ⟨dA, tA, hA, htA⟩ := id rA
    refine ⟨_, rfl, x1, dA, _, rfl, hA, rfl, x1, ys1, rfl, rA, fun l6 H6 h6 s6 g6 => ?_⟩
    refine fun x4 d5 hx4 hd4 hne4 => row_to hx4 hd4 hne4 (its_src (.inl (SqL.of g6)) (iA.same s6) few9) up (by omega) fun H7 ys4 s7 r7 i7 => ⟨rfl, ?_⟩
    refine ⟨sz1000 (by show 4 ≤ 1000; decide), fun q8 H8 f8 m8 s8 g8 => ?_⟩
    have s78 := s7.trans s8
    have s58 := s6.trans s78
    have s48 := s5.trans s58
    have s28 := s25.trans s58
    have g18 := s28 _ _ (s2 _ _ g1)
    have lx : xs.length = ps.length := Paired.length vv
    -- the values are spoiled
    refine ⟨_, rfl, .inl ⟨rfl, _, SqL.of g18⟩, g, _, _, rfl, rfl, g18, Nat.lt_of_lt_of_le (show xs.length < 1000 by omega) (by decide), ?_⟩
    refine ⟨_, rfl, .inl ⟨rfl, _, SqL.of upd_same⟩, g, _, rfl, rfl, upd_same, ?_⟩
    rw [upd_upd]
    have nge := hP.new h1
    have P8 := P1.same (s2.trans s28)
    have P9 : PenL (upd H8 g (.lst (xs ++ [V.str "x"]).reverse)) p l (c + ps.length) := P8.upd nge.1 nge.2
    have hf8 : H8 f = some (.lst ts) := s28 _ _ (s2 _ _ (B1 _ _ hf hfp))
    have hfg : f ≠ g := ne_of_none hf h1
    have prs8 : Prs H8 ts ps := (prs.keep fun a xs e => B1 _ _ e (fun z => by
      obtain ⟨ns, i', g', q1, _⟩ := hP
      rw [z, q1] at e
      cases e)).keep fun a xs e => s28 _ _ (s2 _ _ e)
    have B8 : But g H8 (upd H8 g (.lst (xs ++ [V.str "x"]).reverse)) := But.upd
    generalize upd H8 g (.lst (xs ++ [V.str "x"]).reverse) = H9 at P9 B8 ⊢
    have hf9 := B8 _ _ hf8 hfg
    have prs9 : Prs H9 ts ps := prs8.keep fun a xs e => B8 _ _ e (fun z => by
      rw [z, g18] at e
      cases e)
    have R1 := row_but g18 B8 (rA.same s58)
    have I1 := its_but g18 B8 (iA.same s58)
    have R2 := row_but g18 B8 (r4.same s48)
    have I2 := its_but g18 B8 (i4.same s48)
    have R3 := row_but g18 B8 (r5.same s58)
    have I3 := its_but g18 B8 (i5.same s58)
    have R4 := row_but g18 B8 (r7.same s8)
    have I4 := its_but g18 B8 (i7.same s8)
    have g17 := (s25.trans (s6.trans s7)) _ _ (s2 _ _ g1)
    have g89 : H9 q8 = some (.lst [.ref x1, .ref x2, .ref x3, .ref x4]) := B8 _ _ g8 (fun z => ne_of_none g17 f8 z.symm)
    have hBut : But p H H9 := fun b u e hb => B8 _ _ (s28 _ _ (s2 _ _ (B1 _ _ e hb))) (ne_of_none e h1)
    clear B8 g18 g8
    -- listed() of the first, cleared
    obtain ⟨dB, tB, hB, htB⟩ := id R1
    refine ⟨_, rfl, x1, dB, _, rfl, hB, rfl, x1, ys1, rfl, R1, fun la Ha fa sa ga => ?_⟩
    refine ⟨.inl ⟨rfl, _, SqL.of ga⟩, la, _, rfl, rfl, ga, ?_⟩
    have sc := same_upd (o := .lst []) sa fa
    generalize upd Ha la (.lst []) = Hc at sc ⊢
    -- something put on the end of ranks()
    have ly1 := its_len I1
    refine ⟨_, rfl, x1, dB, _, rfl, sc _ _ hB, rfl, x1, ys1, ps, rfl, R1.same sc, I1.same sc, by omega, fun lb Hb fb sb gb => ?_⟩
    refine ⟨.inl ⟨rfl, _, SqL.of gb⟩, lb, _, _, rfl, rfl, gb, by rw [List.length_map]; unfold rk; rw [List.length_map]; exact Nat.lt_of_lt_of_le (show ps.length < 1000 by omega) (by decide), ?_⟩
    have sb9 := sc.trans (same_upd (o := .lst ((rk ps).map V.int ++ [.int 1])) sb fb)
    generalize upd Hb lb _ = Hl at sb9 ⊢
    clear sa ga sb gb fb fa
    have g8l := sb9 _ _ g89
    have hfl := sb9 _ _ hf9
    have prsl := prs9.keep fun a xs e => sb9 _ _ e
    have RA := R1.same sb9
    have IA := I1.same sb9
    refine ⟨_, rfl, q8, rfl, ⟨_, SqL.of g8l⟩, for_list (K := K) (a := q8) (xs := [.ref x1, .ref x2, .ref x3, .ref x4]) (fun i σ H' => ∃ v : Option V, σ = [some (.ref p), some (.ref f), some (.ref g), some (.ref x1), some (.ref q8), v, none] ∧ Same Hl H') ⟨none, rfl, fun _ _ e => e⟩ (fun i σ H' _ ⟨_, _, b⟩ => SqL.of (b _ _ g8l)) ?_ ?_⟩
    · rintro i x σ Hi hx ⟨v, rfl, s0⟩
      have ex : ∃ (a : Addr) (ys : List V), x = .ref a ∧ RowAt K Hl a ys ∧ Its K Hl ys ps := by
        match i, hx with
        | 0, h => cases h; exact ⟨x1, ys1, rfl, RA, IA⟩
        | 1, h => cases h; exact ⟨x2, ys2, rfl, R2.same sb9, I2.same sb9⟩
        | 2, h => cases h; exact ⟨x3, ys3, rfl, R3.same sb9, I3.same sb9⟩
        | 3, h => cases h; exact ⟨x4, ys4, rfl, R4.same sb9, I4.same sb9⟩
        | k + 4, h => cases h
      obtain ⟨a, ys, rfl, Ra0, Ia0⟩ := ex
      have Ra := Ra0.same s0
      have Ia := Ia0.same s0
      have ly := its_len Ia
      obtain ⟨da, ta, ha, hta⟩ := id Ra
      refine ⟨_, rfl, a, da, _, rfl, ha, rfl, a, ys, rfl, Ra, fun l1 Hx h1' s1 g1' => ?_⟩
      refine ⟨l1, ys, ps, rfl, g1', Ia.same s1, by omega, fun g2 Hy ts2 h2' s2' gg2 prs2 => ?_⟩
      have sy := s0.trans (s1.trans s2')
      refine ⟨_, rfl, .list (ps.map pd), .list (ps.map pd), .lst (SqL.of gg2) (dp_prs prs2), .lst (SqL.of (sy _ _ hfl)) (dp_prs (prsl.keep fun a xs e => sy _ _ e)), shaped_prs gd, shaped_prs gd, _, rfl, ?_⟩
      refine ifSame (eqv_prs gd) ?_
      have lts : ts.length = ps.length := Paired.length prsl
      have Ry := Ra0.same sy
      have Iy := Ia0.same sy
      obtain ⟨dy, ty, hy, hty⟩ := id Ry
      refine ⟨_, rfl, a, dy, _, rfl, hy, a, ys, rfl, Ry, by omega, ys.length, rfl, Nat.lt_of_lt_of_le (show ys.length < 1000 by omega) (by decide), _, rfl, _, ts.length, rfl, .inl ⟨_, SqL.of (sy _ _ hfl), rfl⟩, ?_⟩
      have en : (!decide ((V.int (ys.length : Nat)) = V.int (ts.length : Nat))) = false := by rw [ly, lts]; simp
      have RAy := RA.same sy
      have IAy := IA.same sy
      have lA := its_len IAy
      obtain ⟨dz, tz, hz, htz⟩ := id RAy
      have tyA : TyA K Hy (.ref x1) (.ref (ga K "Row")) := .inl (.base (.ins hz T.clsR (T.ob (by decide +kernel)).2 T.xo.hn T.xo.ht (T.ob (by decide +kernel)).1))
      refine ⟨rfl, false, congrArg V.bl en, _, rfl, _, rfl, a, dy, _, _, rfl, hy, tyA, T.nfR, a, x1, ys, ys1, ps, ps, rfl, Ry, Iy, by omega, RAy, IAy, by omega, rfl, fun Hz sz => ?_⟩
      have sZ := sy.trans sz
      have Rz := Ra0.same sZ
      have Iz := Ia0.same sZ
      obtain ⟨dw, tw, hw, htw⟩ := id Rz
      have hfz := sZ _ _ hfl
      have prsz := prsl.keep fun a xs e => sZ _ _ e
      refine ⟨true, rfl, ?_⟩
      refine ⟨_, rfl, a, dw, _, rfl, hw, rfl, a, ys, ps, rfl, Rz, Iz, by omega, fun l3 H5 h5' s5' g5' => ?_⟩
      refine ⟨_, rfl, f, rfl, ⟨_, SqL.of (s5' _ _ hfz)⟩, fun D hD => lc_list (K := K) (a := f) (xs := ts) (fun i H' => Same H5 H' ∧ H' D = some (.lst (((rk ps).take i).map V.int))) ⟨same_new hD, upd_same⟩ (fun _ _ _ q => SqL.of (q.1 _ _ (s5' _ _ hfz))) ?_ ?_⟩
      · rintro j y H' hj ⟨sD, gD⟩
        obtain ⟨t, q, rfl, eq, ht⟩ := prs_at prsz hj
        have ht' := sD _ _ (s5' _ _ ht)
        refine ⟨rfl, _, rfl, t, _, _, .int q.1, rfl, rfl, SqT.of ht', rfl, _, gD, ?_, same_upd sD hD, ?_⟩
        · rw [List.length_map]
          exact Nat.lt_of_le_of_lt (List.length_take_le' _ _) (by
            unfold rk
            rw [List.length_map]
            exact Nat.lt_of_lt_of_le (show ps.length < 1000 by omega) (by decide))
        · have e : (rk ps)[j]? = some q.1 := by
            unfold rk
            rw [List.getElem?_map, eq]
            rfl
          rw [upd_same, List.take_add_one, e, List.map_append]
          rfl
      · rintro H' ⟨sD, gD⟩
        rw [List.take_of_length_le (by unfold rk; rw [List.length_map]; omega)] at gD
        refine ⟨.list ((rk ps).map .int), .list ((rk ps).map .int), .lst (SqL.of (sD _ _ g5')) (dp_ints _), .lst (SqL.of gD) (dp_ints _), shaped_ints _, shaped_ints _, _, rfl, ?_⟩
        refine ifSame (SeqAt.eqv_refl _ (by simpa [PyData.canLay0] using (lay_ints (rk ps)).1)) ?_
        exact ⟨_, rfl, sZ.trans (s5'.trans sD)⟩
    · rintro σ H' ⟨v, rfl, s0⟩
      exact k H' ((P9.same (sb9.trans s0)).mono (by omega)) (hBut.trans (But.of (sb9.trans s0)))
end
end K03
namespace K03
open PySem PySem.Spec PyProof.Rows L2 He Tw
/-- the pairs of each rank in turn, a rank once -/
def grp (ps : List (Int × Str)) (found : List (Int × Str)) : List Int → List (Int × Str)
  | [] => found
  | r :: rs => grp ps (if r ∈ rk found then found else found ++ ps.filter fun q => decide (q.1 = r)) rs
theorem grp_snoc (ps : List (Int × Str)) (r : Int) : ∀ (rs : List Int) (found : List (Int × Str)), grp ps found (rs ++ [r]) = (if r ∈ rk (grp ps found rs) then grp ps found rs else grp ps found rs ++ ps.filter fun q => decide (q.1 = r))
  | [], _ => rfl
  | _ :: rs, _ => grp_snoc ps r rs _
theorem Prs.app {H : Hp} {us : List V} {qs : List (Int × Str)} (r : Prs H us qs) : ∀ {ts : List V} {ps : List (Int × Str)}, Prs H ts ps → Prs H (ts ++ us) (ps ++ qs)
  | _, _, .nil => r
  | _, _, .cons h t => .cons h (Prs.app r t)
theorem flat_ints : ∀ ns : List Int, (ns.map V.int).all flatV = true
  | [] => rfl
  | _ :: r => flat_ints r
theorem inV_ints (r : Int) : ∀ ns : List Int, inV (.int r) (ns.map V.int) = decide (r ∈ ns)
  | [] => rfl
  | n :: ns => by
    have e : inV (.int r) ((n :: ns).map V.int) = ((n == r) || inV (.int r) (ns.map V.int)) := rfl
    rw [e, inV_ints r ns]
    by_cases h : n = r
    · subst h
      simp
    · have h' : ¬ r = n := fun z => h z.symm
      simp [h, h']
theorem grp_take (ps : List (Int × Str)) {ys : List Int} {i : Nat} {r : Int} (h : ys[i]? = some r) : grp ps [] (ys.take (i + 1)) = (if r ∈ rk (grp ps [] (ys.take i)) then grp ps [] (ys.take i) else grp ps [] (ys.take i) ++ ps.filter fun q => decide (q.1 = r)) := by
  have e : ys.take (i + 1) = ys.take i ++ [r] := by rw [List.take_add_one, h]; rfl
  rw [e, grp_snoc]
def spSorted (K : Fg) : Sp := fun vs H Q _ => ∃ (f : Addr) (ts : List V) (ps : List (Int × Str)), vs = [.ref f] ∧ H f = some (.lst ts) ∧ Prs H ts ps ∧ ps.length < 64 ∧ ∀ (g : Addr) (H' : Hp) (us : List V) (ys : List Int), H g = none → Same H H' → ys.Perm (rk ps) → ys.Pairwise (· ≤ ·) → H' g = some (.lst us) → Prs H' us (grp ps [] ys) → Q (.ref g) H'
abbrev s_sorted : Stmt := topS 38
abbrev N_sorted : List Str := ["_law_pairs_here", "_law_found", "_law_rank", "_law_pair"]
theorem sc_sorted : FnScope N_sorted ["_law_pairs_here"] (defScope s_sorted) := ⟨rfl, rfl, rfl, by decide +kernel, rfl, by decide +kernel, by decide +kernel⟩
section
variable {P : Program} {w : World} {K : Fg} {mg : Str → Option Value} {base : Heap}
theorem ok_sorted {f : Addr} {fd : FuncData} (F : FnP K "_law_sorted" "_law_sorted" s_sorted f fd) (T : Txt K mg) : FnOk P w K mg base CX0 1 f fd ["_law_pairs_here"] (spSorted K) := by
  have zint : mg "int" = none := T.bl (by decide +kernel)
  have zsorted : mg "sorted" = none := T.bl (by decide +kernel)
  refine F.ok sc_sorted (fun vs H Q E h => ?_) (fun cdv A outer s H vs Q E hr h => ?_)
  · obtain ⟨f, ts, ps, rfl, _⟩ := h
    rfl
  · obtain ⟨f, ts, ps, rfl, hf, prs, hn, k⟩ := h
    refine ⟨_, PSs.nox (pss_cons (ps_set (i := 1) sc_sorted.nd rfl (Or.inl rfl) (pe_lstN pa_nil))
    (pss_cons (ps_for PassesOwn.never rfl (pi_list (pe_callB cr_sorted (by rfl) zsorted (by decide +kernel) (pa_cons (pe_lc (own := [("_law_pair", 3)]) (g := gName 3) (tt := tYes) (by rfl) sc_sorted.nd (pi_list (pv 0)) (blkOk_by (own := [("_law_pair", 3)]) (N := N_sorted) (sc := defScope s_sorted) (by decide +kernel)) (fun _ _ _ _ _ => (pg_name (i := 3) sc_sorted.nd rfl (Or.inl rfl))) (fun _ _ _ _ _ => pts_nil) (fun _ _ _ _ _ => (pe_callTy call_int1 (by rfl) zint (by decide +kernel) (pa_cons (pe_ix (ixt K) (pv 3) pe_int (fun _ _ => rfl)) pa_nil)))) pa_nil))) (pg_name (i := 2) sc_sorted.nd rfl (Or.inr rfl))
    (pss_one (ps_if (pt_cmpR op_notIn_seq (pv 2) (pe_lc (own := [("_law_pair", 3)]) (g := gName 3) (tt := tYes) (by rfl) sc_sorted.nd (pi_list (pv 1)) (blkOk_by (own := [("_law_pair", 3)]) (N := N_sorted) (sc := defScope s_sorted) (by decide +kernel)) (fun _ _ _ _ _ => (pg_name (i := 3) sc_sorted.nd rfl (Or.inl rfl))) (fun _ _ _ _ _ => pts_nil) (fun _ _ _ _ _ => (pe_ix (ixt K) (pv 3) pe_int (fun _ _ => rfl)))) (by rfl)) (pss_one (ps_set (i := 1) sc_sorted.nd rfl (Or.inl rfl) (pe_op op_catN (pv 1) (pe_lc (own := [("_law_pair", 3)]) (g := gName 3) (by rfl) sc_sorted.nd (pi_list (pv 0)) (blkOk_by (own := [("_law_pair", 3)]) (N := N_sorted) (sc := defScope s_sorted) (by decide +kernel)) (fun _ _ _ _ _ => (pg_name (i := 3) sc_sorted.nd rfl (Or.inl rfl))) (fun _ _ _ _ _ => pts_one (pt_cmpR op_eq (pe_ix (ixt K) (pv 3) pe_int (fun _ _ => rfl)) (pv 2) (nomark _))) (fun _ _ _ _ _ => (pv 3)))))) pss_nil)))
    (pss_one (ps_ret (pv 1))))), ?_⟩
    refine ⟨sz1000 (Nat.zero_le _), fun g H1 f1 m1 s1 g1 => ?_⟩
    dsimp only [gName]
    unfold tSeq
    have lts : ts.length = ps.length := Paired.length prs
    have hf1 := s1 _ _ hf
    have prs1 := prs.keep fun a xs e => s1 _ _ e
    refine ⟨_, rfl, f, rfl, ⟨_, SqL.of hf1⟩, fun D hD => lc_list (K := K) (a := f) (xs := ts) (fun i H' => Same H1 H' ∧ H' D = some (.lst (((rk ps).take i).map V.int))) ⟨same_new hD, upd_same⟩ (fun _ _ _ q => SqL.of (q.1 _ _ hf1)) ?_ ?_⟩
    · rintro j y H' hj ⟨sD, gD⟩
      obtain ⟨t, q, rfl, eq, ht⟩ := prs_at prs1 hj
      have ht' := sD _ _ ht
      refine ⟨rfl, _, rfl, t, _, _, .int q.1, rfl, rfl, SqT.of ht', rfl, .inl ⟨_, rfl, _, gD, ?_, same_upd sD hD, ?_⟩⟩
      · rw [List.length_map]
        exact Nat.lt_of_le_of_lt (List.length_take_le' _ _) (by
          unfold rk
          rw [List.length_map]
          exact Nat.lt_of_lt_of_le (show ps.length < 1000 by omega) (by decide))
      · have e : (rk ps)[j]? = some q.1 := by
          unfold rk
          rw [List.getElem?_map, eq]
          rfl
        rw [upd_same, List.take_add_one, e, List.map_append]
        rfl
    rintro H2 ⟨sD, gD⟩
    rw [List.take_of_length_le (by unfold rk; rw [List.length_map]; omega)] at gD
    have lrk : (rk ps).length = ps.length := by unfold rk; rw [List.length_map]
    refine ⟨D, rk ps, rfl, SqL.of gD, by omega, fun ys p2 hperm hpw hp2 => ?_⟩
    have lys : ys.length = ps.length := hperm.length_eq.trans lrk
    have s2 := (s1.trans sD).trans (same_new (o := .lst (ys.map V.int)) hp2)
    have gg : (upd H2 p2 (.lst (ys.map V.int))) g = some (.lst []) := (sD.trans (same_new hp2)) _ _ g1
    refine ⟨p2, rfl, ⟨_, SqL.of upd_same⟩, for_list (K := K) (a := p2) (xs := ys.map V.int) (fun i σ H' => ∃ (v : Option V) (gi : Addr) (us : List V), σ = [some (.ref f), some (.ref gi), v, none] ∧ H gi = none ∧ Same H H' ∧ H' p2 = some (.lst (ys.map V.int)) ∧ H' gi = some (.lst us) ∧ us.length ≤ 64 * i ∧ Prs H' us (grp ps [] (ys.take i))) ⟨none, g, [], rfl, f1, s2, upd_same, gg, Nat.zero_le _, .nil⟩ (fun i σ H' _ ⟨_, _, _, _, _, _, b, _⟩ => SqL.of b) ?_ ?_⟩
    · rintro i x σ H3 hx ⟨v, gi, us, rfl, fi, s3, gp, gu, lu, pu⟩
      rw [List.getElem?_map] at hx
      obtain ⟨r, hr', rfl⟩ := Option.map_eq_some_iff.mp hx
      have hi : i < ys.length := (List.getElem?_eq_some_iff.mp hr').1
      have gt := grp_take ps hr'
      have lfd : us.length = (grp ps [] (ys.take i)).length := Paired.length pu
      generalize grp ps [] (ys.take i) = fd' at pu gt lfd
      refine ⟨_, rfl, _, rfl, gi, rfl, ⟨_, SqL.of gu⟩, fun D3 hD3 => lc_list (K := K) (a := gi) (xs := us) (fun i H' => Same H3 H' ∧ H' D3 = some (.lst (((rk fd').take i).map V.int))) ⟨same_new hD3, upd_same⟩ (fun _ _ _ q => SqL.of (q.1 _ _ gu)) ?_ ?_⟩
      · rintro j y H' hj ⟨sE, gE⟩
        obtain ⟨t, q, rfl, eq, ht⟩ := prs_at pu hj
        have ht' := sE _ _ ht
        refine ⟨rfl, _, rfl, t, _, _, .int q.1, rfl, rfl, SqT.of ht', rfl, _, gE, ?_, same_upd sE hD3, ?_⟩
        · rw [List.length_map]
          exact Nat.lt_of_le_of_lt (List.length_take_le' _ _) (by
            unfold rk
            rw [List.length_map]
            exact Nat.lt_of_lt_of_le (show fd'.length < 5000 by omega) (by decide))
        · have e : (rk fd')[j]? = some q.1 := by
            unfold rk
            rw [List.getElem?_map, eq]
            rfl
          rw [upd_same, List.take_add_one, e, List.map_append]
          rfl
      rintro H4 ⟨sE, gE⟩
      rw [List.take_of_length_le (by unfold rk; rw [List.length_map]; omega)] at gE
      have en : (if true = true then !inV (.int r) ((rk fd').map V.int) else inV (.int r) ((rk fd').map V.int)) = !decide (r ∈ rk fd') := by rw [if_pos rfl, inV_ints]
      refine ⟨D3, _, rfl, .inl (SqL.of gE), rfl, flat_ints _, !decide (r ∈ rk fd'), congrArg V.bl en, ?_⟩
      have s34 := s3.trans sE
      by_cases hm : r ∈ rk fd'
      · rw [if_pos hm] at gt
        rw [decide_eq_true hm]
        exact ⟨_, gi, us, rfl, fi, s34, sE _ _ gp, sE _ _ gu, by omega, by rw [gt]; exact pu.keep fun a xs e => sE _ _ e⟩
      · rw [if_neg hm] at gt
        rw [decide_eq_false hm]
        have hf4 := s34 _ _ hf
        have prs4 := prs.keep fun a xs e => s34 _ _ e
        refine ⟨_, rfl, _, rfl, f, rfl, ⟨_, SqL.of hf4⟩, fun D4 hD4 => lc_list (K := K) (a := f) (xs := ts) (fun i H' => Same H4 H' ∧ ∃ as : List V, H' D4 = some (.lst as) ∧ as.length ≤ i ∧ Prs H' as ((ps.take i).filter fun q => decide (q.1 = r))) ⟨same_new hD4, [], upd_same, Nat.le_refl _, .nil⟩ (fun _ _ _ q => SqL.of (q.1 _ _ hf4)) ?_ ?_⟩
        · rintro j y H' hj ⟨sF, as, gF, lF, pF⟩
          obtain ⟨t, q, rfl, eq, ht⟩ := prs_at prs4 hj
          have ht' := sF _ _ ht
          have tk : ps.take (j + 1) = ps.take j ++ [q] := by rw [List.take_add_one, eq]; rfl
          have hj' : j < ts.length := (List.getElem?_eq_some_iff.mp hj).1
          have ed : decide (V.int q.1 = V.int r) = decide (q.1 = r) := by
            by_cases h : q.1 = r
            · rw [h]; simp
            · rw [decide_eq_false h, decide_eq_false fun z => h (V.int.inj z)]
          refine ⟨rfl, _, rfl, t, _, _, .int q.1, rfl, rfl, SqT.of ht', rfl, _, rfl, rfl, decide (q.1 = r), congrArg V.bl ed, ?_⟩
          by_cases hq : q.1 = r
          · rw [decide_eq_true hq]
            refine ⟨_, rfl, as, gF, Nat.lt_of_lt_of_le (show as.length < 1000 by omega) (by decide), same_upd sF hD4, as ++ [.ref t], upd_same, by rw [List.length_append, List.length_singleton]; omega, ?_⟩
            rw [tk, List.filter_append, show [q].filter (fun q => decide (q.1 = r)) = [q] by simp [hq]]
            exact ((pF.keep fun a xs e => by
              rw [upd_ne (fun z => by
                rw [z, gF] at e
                cases e)]
              exact e).snoc (by
              rw [upd_ne (fun z => by
                rw [z, gF] at ht'
                cases ht')]
              exact ht'))
          · rw [decide_eq_false hq]
            refine ⟨sF, as, gF, by omega, ?_⟩
            rw [tk, List.filter_append, show [q].filter (fun q => decide (q.1 = r)) = [] by simp [hq], List.append_nil]
            exact pF
        rintro H5 ⟨sF, as, gF, lF, pF⟩
        rw [List.take_of_length_le (by omega)] at pF
        have s35 := sE.trans sF
        refine ⟨gi, D4, us, as, rfl, rfl, s35 _ _ gu, gF, Nat.le_trans (show us.length + as.length ≤ 5000 by omega) (by decide), fun g' H6 f6 m6 s6 g6 => ?_⟩
        have s36 := s35.trans s6
        refine ⟨_, g', _, rfl, (s3.trans s35).free f6, s3.trans s36, s36 _ _ gp, g6, by rw [List.length_append]; omega, ?_⟩
        rw [gt]
        exact Prs.app (pF.keep fun a xs e => s6 _ _ e) (pu.keep fun a xs e => s36 _ _ e)
    · rintro σ H' ⟨v, gi, us, rfl, fi, s3, gp, gu, lu, pu⟩
      rw [List.take_of_length_le (by rw [List.length_map]; omega)] at pu
      exact ⟨_, rfl, k gi H' us ys fi s3 hperm hpw gu pu⟩
end
end K03
namespace K03
open PySem PySem.Spec PyProof.Rows L2 He Tw
abbrev at_ (r : Int) (ps : List (Int × Str)) : List (Int × Str) := ps.filter fun q => decide (q.1 = r)
abbrev Asc (ps : List (Int × Str)) : Prop := ps.Pairwise fun a b => a.1 ≤ b.1
theorem at_nil {r : Int} {ps : List (Int × Str)} (h : r ∉ rk ps) : at_ r ps = [] := by
  refine List.filter_eq_nil_iff.mpr fun q hq hd => h ?_
  rw [← of_decide_eq_true hd]
  exact List.mem_map.mpr ⟨q, hq, rfl⟩
theorem at_at {r s : Int} {ps : List (Int × Str)} : at_ r (at_ s ps) = if r = s then at_ s ps else [] := by
  by_cases h : r = s
  · subst h
    rw [if_pos rfl]
    exact List.filter_eq_self.mpr fun q hq => (List.mem_filter.mp hq).2
  · rw [if_neg h]
    refine List.filter_eq_nil_iff.mpr fun q hq hd => h ?_
    rw [← of_decide_eq_true hd, ← of_decide_eq_true (List.mem_filter.mp hq).2]
theorem at_pos {r : Int} {q : Int × Str} {L : List (Int × Str)} (h : q.1 = r) : at_ r (q :: L) = q :: at_ r L := List.filter_cons_of_pos (p := fun q : Int × Str => decide (q.1 = r)) (decide_eq_true h)
theorem at_neg {r : Int} {q : Int × Str} {L : List (Int × Str)} (h : ¬ q.1 = r) : at_ r (q :: L) = at_ r L := List.filter_cons_of_neg (p := fun q : Int × Str => decide (q.1 = r)) (fun z => h (of_decide_eq_true z))
/-- ascending lists that agree at each rank are one -/
theorem asc_eq : ∀ {L M : List (Int × Str)}, Asc L → Asc M → (∀ r, at_ r L = at_ r M) → L = M
  | [], [], _, _, _ => rfl
  | [], b :: M, _, _, h => by
    have e := h b.1
    simp [at_] at e
  | a :: L, [], _, _, h => by
    have e := h a.1
    simp [at_] at e
  | a :: L, b :: M, hL, hM, h => by
    have e1 := h a.1
    have e2 := h b.1
    have la : a ∈ at_ a.1 (b :: M) := by rw [← e1]; exact List.mem_filter.mpr ⟨List.mem_cons_self, decide_eq_true rfl⟩
    have lb : b ∈ at_ b.1 (a :: L) := by rw [e2]; exact List.mem_filter.mpr ⟨List.mem_cons_self, decide_eq_true rfl⟩
    have ha : b.1 ≤ a.1 := by
      rcases List.mem_cons.mp (List.mem_filter.mp la).1 with z | z
      · rw [z]
        exact Int.le_refl _
      · exact (List.pairwise_cons.mp hM).1 a z
    have hb : a.1 ≤ b.1 := by
      rcases List.mem_cons.mp (List.mem_filter.mp lb).1 with z | z
      · rw [z]
        exact Int.le_refl _
      · exact (List.pairwise_cons.mp hL).1 b z
    have k : b.1 = a.1 := by omega
    have e : a = b := by
      have e3 : a :: at_ a.1 L = b :: at_ a.1 M := by
        have := e1
        rwa [at_pos rfl, at_pos k] at this
      exact (List.cons.inj e3).1
    subst e
    refine congrArg (a :: ·) (asc_eq (List.pairwise_cons.mp hL).2 (List.pairwise_cons.mp hM).2 fun r => ?_)
    have er := h r
    by_cases hr : a.1 = r
    · rw [at_pos hr, at_pos hr] at er
      exact (List.cons.inj er).2
    · rw [at_neg hr, at_neg hr] at er
      exact er
theorem grp_is (ps : List (Int × Str)) : ∀ (ys : List Int) (fd : List (Int × Str)), Asc fd → (∀ q ∈ fd, ∀ y ∈ ys, q.1 ≤ y) → (∀ r ∈ rk fd, at_ r fd = at_ r ps) → ys.Pairwise (· ≤ ·) → Asc (grp ps fd ys) ∧ ∀ r, at_ r (grp ps fd ys) = if r ∈ rk fd ∨ r ∈ ys then at_ r ps else []
  | [], fd, h1, _, h3, _ => ⟨h1, fun r => by
    show at_ r fd = _
    by_cases h : r ∈ rk fd
    · rw [if_pos (.inl h), h3 r h]
    · rw [if_neg (fun z => z.elim h (fun z => nomatch z)), at_nil h]⟩
  | y :: ys, fd, h1, h2, h3, h4 => by
    obtain ⟨p1, p2⟩ := List.pairwise_cons.mp h4
    by_cases hm : y ∈ rk fd
    · have e : grp ps fd (y :: ys) = grp ps fd ys := by
        show grp ps (if y ∈ rk fd then fd else _) ys = _
        rw [if_pos hm]
      obtain ⟨q1, q2⟩ := grp_is ps ys fd h1 (fun q hq z hz => h2 q hq z (List.mem_cons_of_mem _ hz)) h3 p2
      rw [e]
      refine ⟨q1, fun r => ?_⟩
      rw [q2 r]
      by_cases hr : r ∈ rk fd ∨ r ∈ ys
      · rw [if_pos hr, if_pos (hr.imp_right (List.mem_cons_of_mem _))]
      · rw [if_neg hr, if_neg (fun z => z.elim (fun a => hr (.inl a)) fun a => (List.mem_cons.mp a).elim (fun b => hr (.inl (b ▸ hm))) fun b => hr (.inr b))]
    · have e : grp ps fd (y :: ys) = grp ps (fd ++ at_ y ps) ys := by
        show grp ps (if y ∈ rk fd then fd else _) ys = _
        rw [if_neg hm]
      have ky : ∀ q ∈ at_ y ps, q.1 = y := fun q hq => of_decide_eq_true (List.mem_filter.mp hq).2
      have fa : ∀ r, at_ r (fd ++ at_ y ps) = at_ r fd ++ (if r = y then at_ y ps else []) := fun r => by
        rw [← at_at]
        exact List.filter_append ..
      obtain ⟨q1, q2⟩ := grp_is ps ys (fd ++ at_ y ps)
        (List.pairwise_append.mpr ⟨h1, List.Pairwise.imp_of_mem (R := fun _ _ => True) (fun ha hb _ => by rw [ky _ ha, ky _ hb]; exact Int.le_refl _) (List.pairwise_of_forall (fun _ _ => trivial)), fun a ha b hb => by rw [ky b hb]; exact h2 a ha y List.mem_cons_self⟩)
        (fun q hq z hz => (List.mem_append.mp hq).elim (fun a => h2 q a z (List.mem_cons_of_mem _ hz)) fun a => by rw [ky q a]; exact p1 z hz)
        (fun r hr => by
          rw [fa]
          by_cases h : r = y
          · subst h
            rw [if_pos rfl, at_nil hm, List.nil_append]
          · rw [if_neg h, List.append_nil]
            refine h3 r ?_
            obtain ⟨q, hq, e⟩ := List.mem_map.mp hr
            rcases List.mem_append.mp hq with a | a
            · exact List.mem_map.mpr ⟨q, a, e⟩
            · exact absurd (e.symm.trans (ky q a)) h)
        p2
      rw [e]
      refine ⟨q1, fun r => ?_⟩
      rw [q2 r]
      by_cases hy : r = y
      · subst hy
        rw [show (if r ∈ rk fd ∨ r ∈ r :: ys then at_ r ps else []) = at_ r ps from if_pos (.inr List.mem_cons_self)]
        by_cases h : r ∈ rk (fd ++ at_ r ps) ∨ r ∈ ys
        · rw [if_pos h]
        · rw [if_neg h]
          refine (at_nil fun z => h (.inl ?_)).symm
          obtain ⟨q, hq, e⟩ := List.mem_map.mp z
          exact List.mem_map.mpr ⟨q, List.mem_append_right _ (List.mem_filter.mpr ⟨hq, decide_eq_true e⟩), e⟩
      · have e1 : r ∈ rk (fd ++ at_ y ps) ↔ r ∈ rk fd := by
          unfold rk
          rw [List.map_append, List.mem_append]
          refine ⟨fun z => z.elim id fun a => ?_, .inl⟩
          obtain ⟨q, hq, e⟩ := List.mem_map.mp a
          exact absurd (e.symm.trans (ky q hq)) hy
        have e2 : r ∈ y :: ys ↔ r ∈ ys := by simp [hy]
        simp only [e1, e2]
/-- what _law_sorted answers is the stable sort by rank -/
theorem grp_sort {ps : List (Int × Str)} {ys : List Int} (h1 : ys.Perm (rk ps)) (h2 : ys.Pairwise (· ≤ ·)) {M : List (Int × Str)} (hM : Asc M) (hs : ∀ r, at_ r M = at_ r ps) : grp ps [] ys = M := by
  obtain ⟨a1, a2⟩ := grp_is ps ys [] .nil (fun _ h => nomatch h) (fun _ h => nomatch h) h2
  refine asc_eq a1 hM fun r => ?_
  rw [a2 r, hs r]
  by_cases h : r ∈ rk ps
  · rw [if_pos (.inr (h1.mem_iff.mpr h))]
  · rw [if_neg (fun z => z.elim (fun a => nomatch a) fun a => h (h1.mem_iff.mp a)), at_nil h]
theorem sort_at (ps : List (Int × Str)) : Asc (ps.mergeSort fun a b => decide (a.1 ≤ b.1)) ∧ ∀ r, at_ r (ps.mergeSort fun a b => decide (a.1 ≤ b.1)) = at_ r ps := by
  have tr : ∀ a b c : Int × Str, decide (a.1 ≤ b.1) = true → decide (b.1 ≤ c.1) = true → decide (a.1 ≤ c.1) = true := fun a b c x y => decide_eq_true (Int.le_trans (of_decide_eq_true x) (of_decide_eq_true y))
  have to : ∀ a b : Int × Str, (decide (a.1 ≤ b.1) || decide (b.1 ≤ a.1)) = true := fun a b => by
    rcases Int.le_total a.1 b.1 with h | h <;> simp [h]
  refine ⟨(List.pairwise_mergeSort tr to ps).imp fun h => of_decide_eq_true h, fun r => ?_⟩
  have s1 : (at_ r ps).Sublist (ps.mergeSort fun a b => decide (a.1 ≤ b.1)) := List.sublist_mergeSort tr to (List.Pairwise.imp_of_mem (R := fun _ _ => True) (fun ha hb _ => by
    rw [of_decide_eq_true (List.mem_filter.mp ha).2, of_decide_eq_true (List.mem_filter.mp hb).2]
    exact decide_eq_true (Int.le_refl _)) (List.pairwise_of_forall (fun _ _ => trivial))) List.filter_sublist
  have s2 := s1.filter fun q => decide (q.1 = r)
  rw [show (at_ r ps).filter (fun q => decide (q.1 = r)) = at_ r ps from by rw [show (at_ r ps).filter (fun q => decide (q.1 = r)) = at_ r (at_ r ps) from rfl, at_at, if_pos rfl]] at s2
  exact (s2.eq_of_length (((List.mergeSort_perm ps _).filter _).length_eq.symm)).symm
theorem grp_merge {ps : List (Int × Str)} {ys : List Int} (h1 : ys.Perm (rk ps)) (h2 : ys.Pairwise (· ≤ ·)) : grp ps [] ys = ps.mergeSort fun a b => decide (a.1 ≤ b.1) := grp_sort h1 h2 (sort_at ps).1 (sort_at ps).2
end K03
namespace K03
open PySem PySem.Spec PyProof.Rows L2 He Tw
abbrev DefsK (K : Fg) (fd : Nat → FuncData) : Prop := DefsA fn K fd
section
variable {P : Program} {w : World} {K : Fg} {mg : Str → Option Value} {base : Heap} {fd : Nat → FuncData}
theorem itm (D : DefsK K fd) (T : Txt K mg) : ∃ d2, Itm P w K mg base (fd 4) d2 := by
  have F : FnI K (ma K (ga K "Item") "__init__") (fd 4) := D 4 _ rfl
  have G : FnOk P w K mg base (L2.CX P w) 3 (ma K (ga K "Item") "__init__") (fd 4) ["self", "rank", "name"] (spItem K) := ok_item (fB := 0) F (D 14 _ rfl) (T.fn (x := "is_rank") (by decide +kernel)) (D 13 _ rfl) (T.fn (x := "is_number") (by decide +kernel)) (D 12 _ rfl) (T.fn (x := "is_lettered") (by decide +kernel)) (D 0 _ rfl) T
  obtain ⟨d1, r1, b1⟩ := FunD.binds1 (ps := ["self", "rank", "name"]) F 3 1 (fun z => nomatch z) rfl fun _ _ _ _ _ _ _ us its h1 h2 => match us, h1, its, h2 with
    | [_, _, _], _, [_], _ => ⟨_, rfl, rfl⟩
  obtain ⟨d2, r2, b2⟩ := FunD.binds1 (ps := ["self", "rank", "name"]) F 2 0 (fun z => nomatch z) rfl fun _ _ _ _ _ _ _ us its h1 h2 => match us, h1, its, h2 with
    | [_, _], _, [_], _ => ⟨_, rfl, rfl⟩
  cases (show Vals [] d1 from r1)
  exact ⟨d2, G, b1, r2, b2⟩
abbrev FRow (K : Fg) (fd : Nat → FuncData) : Prop := FunD K "__init__" "Row.__init__" (defArgs s_row) (defBody s_row) (defScope s_row) [.ref (nilAt K)] [] (ma K (ga K "Row") "__init__") (fd 6)
theorem bRow (D : DefsK K fd) : Binds K (fd 6) ["self", "items"] [] := by
  obtain ⟨d1, r1, b1⟩ := FunD.binds1 (ps := ["self", "items"]) (show FRow K fd from D 6 _ rfl) 2 1 (fun z => nomatch z) rfl fun _ _ _ _ _ _ _ us its h1 h2 => match us, h1, its, h2 with
    | [_, _], _, [_], _ => ⟨_, rfl, rfl⟩
  cases (show Vals [] d1 from r1)
  exact b1
/-- Row() by its default -/
theorem bRow0 (D : DefsK K fd) : ∃ d2, Vals [.ref (nilAt K)] d2 ∧ Binds K (fd 6) ["self", "items"] d2 := by
  obtain ⟨d2, r2, b2⟩ := FunD.binds1 (ps := ["self", "items"]) (show FRow K fd from D 6 _ rfl) 1 0 (fun z => nomatch z) rfl fun _ _ _ _ _ _ _ us its h1 h2 => match us, h1, its, h2 with
    | [_], _, [_], _ => ⟨_, rfl, rfl⟩
  exact ⟨d2, r2, b2⟩
theorem b_as (D : DefsK K fd) : Binds K (fd 15) ["values"] [] := (show FnP K "as_items" "as_items" s_as (ga K "as_items") (fd 15) from D 15 _ rfl).bindsN fun _ _ _ _ _ _ us hl => match us, hl with | [_], _ => rfl
theorem G_as (D : DefsK K fd) (T : Txt K mg) : FnOk P w K mg base (L2.CX P w) 5 (ga K "as_items") (fd 15) ["values"] (spAs K) := by
  obtain ⟨d2, I⟩ := itm (P := P) (w := w) (base := base) D T
  have W : Wlk P w K mg base (fd 7) := ⟨ok_iter (D 7 _ rfl) T, (show FnP K "__iter__" "Row.__iter__" s_iter (ma K (ga K "Row") "__iter__") (fd 7) from D 7 _ rfl).bindsN fun _ _ _ _ _ _ us hl => match us, hl with | [_], _ => rfl⟩
  exact ok_as (D 15 _ rfl) (D 14 _ rfl) (T.fn (x := "is_rank") (by decide +kernel)) (D 13 _ rfl) (T.fn (x := "is_number") (by decide +kernel)) (D 0 _ rfl) I W T
theorem G_row (D : DefsK K fd) (T : Txt K mg) : FnOk P w K mg base (L2.CX P w) 6 (ma K (ga K "Row") "__init__") (fd 6) ["self", "items"] (spRow K) :=
  ok_row (D 6 _ rfl) (D 15 _ rfl) (T.fn (x := "as_items") (by decide +kernel)) (G_as D T)
    (D 16 _ rfl) (T.fn (x := "need_row") (by decide +kernel)) (ok_need (D 16 _ rfl) (D 5 _ rfl) (D 2 _ rfl) (D 3 _ rfl) T) T
theorem rws (D : DefsK K fd) (T : Txt K mg) : Rws P w K mg base (fd 6) := by
  refine ⟨G_row D T, bRow D, ?_⟩
  obtain ⟨its, h⟩ := FunD.kbindsD (ps := ["self", "items"]) (show FRow K fd from D 6 _ rfl) 1 ["items"] (fun vs ds zs => vs ++ zs) (fun z => nomatch z) (fun r1 r2 r3 => r1.append r3) fun T kV doc pm an cdv ct us its ws h1 h2 h3 => match us, h1, its, h2, ws, h3 with
    | [_], _, [_], _, [_], _ => ⟨_, rfl, rfl⟩
  exact ⟨its, h⟩
theorem mths (D : DefsK K fd) : Mths K (fd 9) (fd 10) (fd 8) (fd 11) := ⟨D 9 _ rfl, D 10 _ rfl, D 8 _ rfl, D 11 _ rfl⟩
end
end K03
namespace K03
open PySem PySem.Spec PyProof.Rows L2 He Tw
abbrev s_heard : Stmt := topS 35
abbrev N_heard : List Str := ["_law_ask", "_law_caught", "_law_found", "error"]
theorem sc_heard : FnScope N_heard ["_law_ask"] (defScope s_heard) := ⟨rfl, rfl, rfl, by decide +kernel, rfl, by decide +kernel, by decide +kernel⟩
/-- the word that _law_heard tells of an error -/
def wordOf (x : Str) : Str := if x = "BadItem" then "item" else if x = "BadPlace" then "place" else if x = "Disordered" then "order" else "many"
def Eh (K : Fg) (Q : VK) : XK := fun cls d H => ∃ (e : Str × Nat × Str) (v : Int) (dd : Addr), e ∈ errs ∧ cls = .ref (ga K e.1) ∧ d = some dd ∧ H dd = some (.xd [(e.2.2, .int v)]) ∧ ∀ (q : Addr) (H' : Hp), H q = none → Same H H' → H' q = some (.tup [.str (wordOf e.1), .int v]) → Q (.ref q) H'
def TTh (K : Fg) : (XK → Hp → VK → Prop) → Hp → VK → Prop := fun tl H Q => ∀ (E' : XK) (Q' : VK), (∀ cls d H', Eh K Q cls d H' → E' cls d H') → (∀ H1, (∀ (q : Addr) (H' : Hp), H1 q = none → Same H1 H' → H' q = some (.lst [.non]) → Q (.ref q) H') → Q' .non H1) → tl E' H Q'
theorem Txt.kitT {K : Fg} {mg : Str → Option Value} (T : Txt K mg) {e : Str × Nat × Str} (h : e ∈ errs) : PySem.W.kitOne K (.ref (ga K e.1)) (.ref (ga K e.1)) = some true := by
  rw [T.kit h h, decide_eq_true rfl]
theorem Txt.kitF {K : Fg} {mg : Str → Option Value} (T : Txt K mg) {e d : Str × Nat × Str} (h : e ∈ errs) (g : d ∈ errs) (ne : e.1 ≠ d.1) : PySem.W.kitOne K (.ref (ga K e.1)) (.ref (ga K d.1)) = some false := by
  rw [T.kit h g, decide_eq_false ne]
theorem four {α : Type} {l : List α} (h : l.length = 4) : ∃ a b c d, l = [a, b, c, d] := match l, h with
  | [a, b, c, d], _ => ⟨a, b, c, d, rfl⟩
theorem heard_gives {X : Cx} {g : Addr} {cdg : Value} {q : Str} (T : Txt X.K X.mg) (hu : True) : LamX.GivesTo X N_heard "_law_heard" (defScope s_heard) g cdg (defBody s_heard) "_law_ask" q (TTh X.K) := by
  have zisi : X.mg "isinstance" = none := T.bl (by decide +kernel)
  have gH : X.mg "HeadsError" = some (.ref (ga X.K "HeadsError")) := T.cl (by decide +kernel)
  have gI : X.mg "BadItem" = some (.ref (ga X.K "BadItem")) := T.cl (by decide +kernel)
  have gP : X.mg "BadPlace" = some (.ref (ga X.K "BadPlace")) := T.cl (by decide +kernel)
  have gD : X.mg "Disordered" = some (.ref (ga X.K "Disordered")) := T.cl (by decide +kernel)
  have gM : X.mg "TooMany" = some (.ref (ga X.K "TooMany")) := T.cl (by decide +kernel)
  intro f c' s H Q tl act hc h
  have nd : N_heard.Nodup := sc_heard.nd
  refine ⟨_, (pss_cons (ps_set (i := 1) nd rfl (Or.inl rfl) pe_non)
    (pss_cons (ps_set (i := 2) nd rfl (Or.inl rfl) pe_non)
    (pss_cons (ps_tryL (i := 3) (n := "error") (c := .ref (ga X.K "HeadsError")) (tb := fun W D σ H => ∃ Ech : XK, (∀ cls d σ' H', Ech cls d H' → W cls d σ' H') ∧ σ[0]? = some (some (.ref f)) ∧ H c' = some (LamX.CodeO c' q) ∧ tl Ech H fun v H' => D.nx (σ.set 2 (some v)) H') rfl rfl rfl nd rfl rfl ⟨rfl, by decide, .inl gH⟩ LamX.takes0 (fun W pn xe tk _ => ?suite) (fun a oe cls d pn hz hf => pss_one (ps_set (i := 1) nd rfl (Or.inl rfl) (pv 3))))
    (pss_cons (ps_if (pt_val (pe_callB call_isA (by rfl) zisi (by decide +kernel) (pa_cons (pv 1) (pa_cons (pe_glob (v := .ref (ga X.K "BadItem")) rfl gI rfl) pa_nil)))) (pss_one (ps_ret (pe_tupN (pa_cons pe_str (pa_cons (pe_xfld (pv 1)) pa_nil))))) pss_nil)
    (pss_cons (ps_if (pt_val (pe_callB call_isA (by rfl) zisi (by decide +kernel) (pa_cons (pv 1) (pa_cons (pe_glob (v := .ref (ga X.K "BadPlace")) rfl gP rfl) pa_nil)))) (pss_one (ps_ret (pe_tupN (pa_cons pe_str (pa_cons (pe_xfld (pv 1)) pa_nil))))) pss_nil)
    (pss_cons (ps_if (pt_val (pe_callB call_isA (by rfl) zisi (by decide +kernel) (pa_cons (pv 1) (pa_cons (pe_glob (v := .ref (ga X.K "Disordered")) rfl gD rfl) pa_nil)))) (pss_one (ps_ret (pe_tupN (pa_cons pe_str (pa_cons (pe_xfld (pv 1)) pa_nil))))) pss_nil)
    (pss_cons (ps_if (pt_val (pe_callB call_isA (by rfl) zisi (by decide +kernel) (pa_cons (pv 1) (pa_cons (pe_glob (v := .ref (ga X.K "TooMany")) rfl gM rfl) pa_nil)))) (pss_one (ps_ret (pe_tupN (pa_cons pe_str (pa_cons (pe_xfld (pv 1)) pa_nil))))) pss_nil)
    (pss_one (ps_ret (pe_ifExp (pt_cmpR op_isN (pv 1) pe_non (nomark _)) (pe_lstN (pa_cons (pv 2) pa_nil)) (pe_tupN (pa_cons pe_str (pa_cons pe_int pa_nil))))))))))))), ?_⟩
  case suite =>
    refine ⟨fun pins s' σ H' D I h' => ?_⟩
    obtain ⟨Ech, hW, h1, h2, h3⟩ := h'
    exact (pss_one (ps_set (i := 2) nd rfl (Or.inl rfl) (act W pn xe Ech _ _ tk hW))).run pins s' σ H' D I ⟨h1, h2, h3⟩
  · refine ⟨Eh X.K Q, ?_, rfl, hc, h _ _ (fun _ _ _ z => z) fun H1 hq => ?_⟩
    · rintro cls d σ' H' ⟨e, v, dd, he, rfl, rfl, hd, kq⟩ hl
      obtain ⟨w0, w1, w2, w3, rfl⟩ := four (show σ'.length = 4 from hl)
      refine ⟨ga X.K e.1, true, rfl, T.exm he, fun _ er her => ?_, fun z => nomatch z⟩
      have S1 := same_new (o := exT er (ga X.K e.1) (some dd)) her
      have hx : (upd H' er (exT er (ga X.K e.1) (some dd))) er = some (exT er (ga X.K e.1) (some dd)) := upd_same
      have hd2 := S1 _ _ hd
      have ty : TyA X.K (upd H' er (exT er (ga X.K e.1) (some dd))) (.ref er) (.ref (ga X.K e.1)) := .inr ⟨er, _, dd, _, rfl, rfl, .inr hx, .inr hd2, T.xc he, T.xo⟩
      have fin : ∀ (tp : Addr) (H3 : Hp), (upd H' er (exT er (ga X.K e.1) (some dd))) tp = none → Same (upd H' er (exT er (ga X.K e.1) (some dd))) H3 → H3 tp = some (.tup [.str (wordOf e.1), .int v]) → Q (.ref tp) H3 := fun tp H3 f3 s3 g3 => kq tp H3 (S1.free f3) (S1.trans s3) g3
      simp only [errs, List.mem_cons, List.not_mem_nil, or_false] at he
      have m0 : (("BadItem", 5, "part") : Str × Nat × Str) ∈ errs := by decide +kernel
      have m1 : (("BadPlace", 6, "at") : Str × Nat × Str) ∈ errs := by decide +kernel
      have m2 : (("Disordered", 7, "at") : Str × Nat × Str) ∈ errs := by decide +kernel
      have m3 : (("TooMany", 8, "most") : Str × Nat × Str) ∈ errs := by decide +kernel
      rcases he with rfl | rfl | rfl | rfl
      · refine ⟨_, rfl, _, rfl, .ref er, .ref (ga X.K "BadItem"), _, _, _, rfl, .own _, ty, T.kitT m0, _, rfl, ?_⟩
        exact iteT ⟨_, rfl, er, _, dd, _, _, rfl, .inr hx, T.xc m0, T.no m0, .inr hd2, rfl, sz1000 (by show 2 ≤ 1000; decide), fun tp H3 f3 s3 g3 => fin tp H3 f3 s3 g3⟩
      · refine ⟨_, rfl, _, rfl, .ref er, .ref (ga X.K "BadItem"), _, _, _, rfl, .own _, ty, T.kitF m1 m0 (by decide), _, rfl, ?_⟩
        refine iteF ⟨_, rfl, .ref er, .ref (ga X.K "BadPlace"), _, _, _, rfl, .own _, ty, T.kitT m1, _, rfl, ?_⟩
        exact iteT ⟨_, rfl, er, _, dd, _, _, rfl, .inr hx, T.xc m1, T.no m1, .inr hd2, rfl, sz1000 (by show 2 ≤ 1000; decide), fun tp H3 f3 s3 g3 => fin tp H3 f3 s3 g3⟩
      · refine ⟨_, rfl, _, rfl, .ref er, .ref (ga X.K "BadItem"), _, _, _, rfl, .own _, ty, T.kitF m2 m0 (by decide), _, rfl, ?_⟩
        refine iteF ⟨_, rfl, .ref er, .ref (ga X.K "BadPlace"), _, _, _, rfl, .own _, ty, T.kitF m2 m1 (by decide), _, rfl, ?_⟩
        refine iteF ⟨_, rfl, .ref er, .ref (ga X.K "Disordered"), _, _, _, rfl, .own _, ty, T.kitT m2, _, rfl, ?_⟩
        exact iteT ⟨_, rfl, er, _, dd, _, _, rfl, .inr hx, T.xc m2, T.no m2, .inr hd2, rfl, sz1000 (by show 2 ≤ 1000; decide), fun tp H3 f3 s3 g3 => fin tp H3 f3 s3 g3⟩
      · refine ⟨_, rfl, _, rfl, .ref er, .ref (ga X.K "BadItem"), _, _, _, rfl, .own _, ty, T.kitF m3 m0 (by decide), _, rfl, ?_⟩
        refine iteF ⟨_, rfl, .ref er, .ref (ga X.K "BadPlace"), _, _, _, rfl, .own _, ty, T.kitF m3 m1 (by decide), _, rfl, ?_⟩
        refine iteF ⟨_, rfl, .ref er, .ref (ga X.K "Disordered"), _, _, _, rfl, .own _, ty, T.kitF m3 m2 (by decide), _, rfl, ?_⟩
        refine iteF ⟨_, rfl, .ref er, .ref (ga X.K "TooMany"), _, _, _, rfl, .own _, ty, T.kitT m3, _, rfl, ?_⟩
        exact iteT ⟨_, rfl, er, _, dd, _, _, rfl, .inr hx, T.xc m3, T.no m3, .inr hd2, rfl, sz1000 (by show 2 ≤ 1000; decide), fun tp H3 f3 s3 g3 => fin tp H3 f3 s3 g3⟩
    · have kn := T.kind (t := "NoneType") (by decide)
      have k0 := kn.2 _ (show (("BadItem", 5, "part") : Str × Nat × Str) ∈ errs by decide +kernel)
      have k1 := kn.2 _ (show (("BadPlace", 6, "at") : Str × Nat × Str) ∈ errs by decide +kernel)
      have k2 := kn.2 _ (show (("Disordered", 7, "at") : Str × Nat × Str) ∈ errs by decide +kernel)
      have k3 := kn.2 _ (show (("TooMany", 8, "most") : Str × Nat × Str) ∈ errs by decide +kernel)
      refine ⟨_, rfl, .non, .ref (ga X.K "BadItem"), .type "NoneType", _, _, rfl, .own _, .inl (.base .non), k0, _, rfl, ?_⟩
      refine iteF ⟨_, rfl, .non, .ref (ga X.K "BadPlace"), .type "NoneType", _, _, rfl, .own _, .inl (.base .non), k1, _, rfl, ?_⟩
      refine iteF ⟨_, rfl, .non, .ref (ga X.K "Disordered"), .type "NoneType", _, _, rfl, .own _, .inl (.base .non), k2, _, rfl, ?_⟩
      refine iteF ⟨_, rfl, .non, .ref (ga X.K "TooMany"), .type "NoneType", _, _, rfl, .own _, .inl (.base .non), k3, _, rfl, ?_⟩
      refine iteF ⟨_, rfl, rfl, _, rfl, ?_⟩
      exact ⟨_, rfl, sz1000 (by show 1 ≤ 1000; decide), fun q H2 f2 m2 s2 g2 => hq q H2 f2 s2 g2⟩
end K03
namespace Tw
open PySem PySem.Spec PyProof.Rows L2 He
theorem codeIn_ref {K : Fg} {v : Value} {q : Str} (h : PySem.W.codeIn K v q = true) : ∃ c, v = .ref c := by
  unfold PySem.W.codeIn at h
  split at h
  · exact ⟨_, rfl⟩
  · cases h
def lamName (q : Str) (sc : Scope) : Str := (envOfC q sc 0 0 .none).qual ++ "<lambda>"
theorem nodup_fst {α β : Type} : ∀ {l : List (α × β)}, (l.map (·.1)).Nodup → ∀ {p q : α × β}, p ∈ l → q ∈ l → p.1 = q.1 → p = q
  | [], _, _, _, h, _, _ => nomatch h
  | c :: l, nd, p, q, hp, hq, e => by
    obtain ⟨n1, n2⟩ := List.nodup_cons.mp nd
    rcases List.mem_cons.mp hp with h1 | h1 <;> rcases List.mem_cons.mp hq with h2 | h2
    · rw [h1, h2]
    · exact absurd (List.mem_map.mpr ⟨q, h2, by rw [← e, h1]⟩) n1
    · exact absurd (List.mem_map.mpr ⟨p, h1, by rw [e, h2]⟩) n1
    · exact nodup_fst n2 h1 h2 e
theorem lst_app {α : Type} {xs ys : List α} {x : α} : xs ++ x :: ys = xs ++ [x] ++ ys := by simp
end Tw
namespace K03
open PySem PySem.Spec PyProof.Rows L2 He Tw LamX
abbrev s_of : Stmt := inClass (topS 25) 2
abbrev N_of : List Str := ["cls", "items"]
theorem sc_of : FnScope N_of ((["cls"] : List Str) ++ (["items"] : List Str)) (defScope s_of) := ⟨rfl, rfl, rfl, by decide +kernel, rfl, by decide +kernel, by decide +kernel⟩
abbrev s_ofr : Stmt := topS 40
abbrev s_ref : Stmt := topS 41
abbrev s_law : Stmt := topS 42
/-- the tables of code objects and the names of the lambdas -/
def Tb (K : Fg) : List (Addr × Str) := [(tabAt K (cmAt K "Row" "of"), lamName "Row.of" (defScope s_of)), (tabAt K (ga K "_law_of_right"), lamName "_law_of_right" (defScope s_ofr)), (tabAt K (ga K "_law_refused"), lamName "_law_refused" (defScope s_ref)), (tabAt K (ga K "law"), lamName "law" (defScope s_law))]
theorem tb_one {K : Fg} {mg : Str → Option Value} (T : Txt K mg) {p q : Addr × Str} (hp : p ∈ Tb K) (hq : q ∈ Tb K) (e : p.1 = q.1) : p.2 = q.2 := congrArg Prod.snd (nodup_fst (l := Tb K) T.tabne hp hq e)
abbrev sortP (ps : List (Int × Str)) : List (Int × Str) := ps.mergeSort fun a b => decide (a.1 ≤ b.1)
/-- Row.of(a, ..) -/
def spOf (K : Fg) : Sp := fun vs H Q E => ∃ (xs : List V) (os : List (Option (Int × Str))), vs = .ref (ga K "Row") :: xs ∧ xs.length ≤ 60 ∧ os.length = xs.length ∧ (∀ (i : Nat) (x : V), xs[i]? = some x → ∃ o : Option (Int × Str), os[i]? = some o ∧ Vv K H x o) ∧ Tabs (Tb K) H ∧
  (∀ (ps : List (Int × Str)), os = ps.map some → ∀ (a : Addr) (H' : Hp) (ys : List V), Tabs (Tb K) H' → ExtN H H' → RowAt K H' a ys → Its K H' ys (sortP ps) → Q (.ref a) H') ∧
  (∀ (n : Nat) (ps : List (Int × Str)), ps.length = n → (∀ (m : Nat) (p : Int × Str), ps[m]? = some p → os[m]? = some (some p)) → os[n]? = some none → ∀ (d : Addr) (H' : Hp), Tabs (Tb K) H' → ExtN H H' → H' d = some (.xd [("part", .int (n : Nat))]) → E (.ref (ga K "BadItem")) (some d) H')
theorem its_keyed {K : Fg} {mg : Str → Option Value} (T : Txt K mg) {H : Hp} : ∀ {ys : List V} {ps : List (Int × Str)}, Its K H ys ps → Paired (KeyedAt K H "rank") ys (rk ps)
  | _, _, .nil => .nil
  | _, _, .cons ⟨a, h1, dx, h2⟩ t => .cons ⟨a, _, dx, _, h1, h2, T.cls, T.na (by decide +kernel), rfl⟩ (its_keyed T t)
theorem its_zip {K : Fg} {H : Hp} : ∀ {ys : List V} {ps : List (Int × Str)}, Its K H ys ps → ∀ b ∈ ys.zip ps, ∃ a, b.1 = V.ref a ∧ It K H a b.2.1 b.2.2
  | _, _, .nil, b, h => nomatch h
  | _, _, .cons h t, b, hb => by
    rcases List.mem_cons.mp hb with e | e
    · rw [e]
      exact h
    · exact its_zip t b e
theorem its_of_all {K : Fg} {H : Hp} : ∀ {bs : List (V × (Int × Str))}, (∀ b ∈ bs, ∃ a, b.1 = V.ref a ∧ It K H a b.2.1 b.2.2) → Its K H (bs.map (·.1)) (bs.map (·.2))
  | [], _ => .nil
  | b :: bs, h => .cons (h b List.mem_cons_self) (its_of_all fun c hc => h c (List.mem_cons_of_mem _ hc))
/-- sorted by rank: items and pairs alike -/
theorem its_sorted {K : Fg} {H : Hp} {ys : List V} {ps : List (Int × Str)} (h : Its K H ys ps) : Its K H (((ys.zip (rk ps)).mergeSort fun a b => decide (a.2 ≤ b.2)).map (·.1)) (sortP ps) := by
  have hl := its_len h
  have e1 : ys.zip (rk ps) = (ys.zip ps).map fun b => (b.1, b.2.1) := by
    unfold rk
    rw [List.zip_map_right]
    rfl
  have e2 : (((ys.zip (rk ps)).mergeSort fun a b => decide (a.2 ≤ b.2)).map (·.1)) = ((ys.zip ps).mergeSort fun a b => decide (a.2.1 ≤ b.2.1)).map (·.1) := by
    rw [e1, ← List.map_mergeSort (r := fun a b : V × (Int × Str) => decide (a.2.1 ≤ b.2.1)) (fun a _ b _ => rfl), List.map_map]
    rfl
  have e3 : sortP ps = ((ys.zip ps).mergeSort fun a b => decide (a.2.1 ≤ b.2.1)).map (·.2) := by
    have e4 : ps = (ys.zip ps).map (·.2) := by
      rw [List.map_snd_zip (by omega)]
    rw [List.map_mergeSort (s := fun a b : Int × Str => decide (a.1 ≤ b.1)) (fun a _ b _ => rfl), ← e4]
  rw [e2, e3]
  exact its_of_all fun b hb => its_zip h b ((List.mergeSort_perm _ _).mem_iff.mp hb)
theorem sortP_up (ps : List (Int × Str)) : Up (sortP ps) (sortP ps).length := fun m a b hm ha hb => by
  have h := (sort_at ps).1
  obtain ⟨h1, e1⟩ := List.getElem?_eq_some_iff.mp ha
  obtain ⟨h2, e2⟩ := List.getElem?_eq_some_iff.mp hb
  rw [← e1, ← e2]
  exact List.pairwise_iff_getElem.mp h m (m + 1) h1 h2 (by omega)
end K03
namespace K03
open PySem PySem.Spec PyProof.Rows L2 He Tw LamX
section
variable {P : Program} {w : World} {K : Fg} {mg : Str → Option Value} {base : Heap} {fd : Nat → FuncData}
/-- the body's own promise: the items are a tuple -/
def spOfB (K : Fg) : Sp := fun vs H Q E => ∃ (q : Addr) (xs : List V) (os : List (Option (Int × Str))), vs = [.ref (ga K "Row"), .ref q] ∧ H q = some (.tup xs) ∧ xs.length ≤ 60 ∧ os.length = xs.length ∧ (∀ (i : Nat) (x : V), xs[i]? = some x → ∃ o : Option (Int × Str), os[i]? = some o ∧ Vv K H x o) ∧ Tabs (Tb K) H ∧
  (∀ (ps : List (Int × Str)), os = ps.map some → ∀ (a : Addr) (H' : Hp) (ys : List V), Tabs (Tb K) H' → ExtN H H' → RowAt K H' a ys → Its K H' ys (sortP ps) → Q (.ref a) H') ∧
  (∀ (n : Nat) (ps : List (Int × Str)), ps.length = n → (∀ (m : Nat) (p : Int × Str), ps[m]? = some p → os[m]? = some (some p)) → os[n]? = some none → ∀ (d : Addr) (H' : Hp), Tabs (Tb K) H' → ExtN H H' → H' d = some (.xd [("part", .int (n : Nat))]) → E (.ref (ga K "BadItem")) (some d) H')
theorem itsN {K : Fg} {H H' : Hp} (e : ExtN H H') : ∀ {ys : List V} {ps : List (Int × Str)}, Its K H ys ps → Its K H' ys ps
  | _, _, .nil => .nil
  | _, _, .cons ⟨a, h1, dx, h2⟩ t => .cons ⟨a, h1, dx, e _ _ h2 (fun _ z => nomatch z)⟩ (itsN e t)
/-- the parts of the key's lambda -/
def lam1 (st : Stmt) : Arguments × Scope × Pos × Pos := match defBody st with
  | [.Return (some (.Call _ [.Call _ _ [⟨_, .Lambda ps (.Attribute (.Name _ p1) _ p2) sc _, _⟩] _] _ _)) _] => (ps, sc, p1, p2)
  | _ => (defArgs st, defScope st, ⟨0, 0, 0, 0⟩, ⟨0, 0, 0, 0⟩)
theorem G_of (D : DefsK K fd) (T : Txt K mg) (TB : TabB base mg (Tw.codeAt K (cmAt K "Row" "of")) (tabAt K (cmAt K "Row" "of"))) : FnR P w K mg base (L2.CX P w) 8 (cmAt K "Row" "of") (spOf K) := by
  have zsorted : mg "sorted" = none := T.bl (by decide +kernel)
  have gA : mg "as_items" = some (.ref (ga K "as_items")) := T.fn (by decide +kernel)
  have kA : PySem.W.keepIn K (.ref (ga K "as_items")) = true := (show FnP K "as_items" "as_items" s_as (ga K "as_items") (fd 15) from D 15 _ rfl).kp
  have GA : FnOk P w K mg base (L2.CX P w) 5 (ga K "as_items") (fd 15) ["values"] (spAs K) := G_as D T
  have bA := b_as D
  have GR : FnR P w K mg base (L2.CX P w) 6 (ma K (ga K "Row") "__init__") (fun vs H Q E => spRow K (vs ++ []) H Q E) := (G_row (P := P) (w := w) (base := base) D T).raw (bRow D) .nil
  have F : FunD K "of" "Row.of" (defArgs s_of) (defBody s_of) (defScope s_of) [] [] (cmAt K "Row" "of") (fd 31) := D 31 _ rfl
  obtain ⟨oc, od, dV, kV, doc, pm, an, cdv, ct, osl, e0, lk, hcd, hD, hK⟩ := F.ex
  obtain rfl : dV = .none := hD.elim (fun z => z.2) fun z => absurd rfl z.1
  rw [e0] at lk
  obtain ⟨cc, rfl⟩ := codeIn_ref hcd
  have ec : Tw.codeAt K (cmAt K "Row" "of") = cc := by
    unfold Tw.codeAt
    rw [lk]
  rw [ec] at TB
  have body : FnR P w K mg base (L2.CX P w) 8 (cmAt K "Row" "of") _ := StX.fn_star (sp := spOfB K) (k := 7) (ps := ["cls"]) (pv := "items") lk hcd sc_of StX.cxUp (StX.bind_star1 (B := fun vs => bindArgs (PySem.W.fnOf "of" "Row.of" (defArgs s_of) (defBody s_of) (defScope s_of) (Value.none) kV doc pm an (.ref cc) ct) ⟨vs, []⟩) (p1 := "cls") (pv := "items") (fun _ => rfl) (fun _ _ _ => rfl)) (fun A outer s H vs Q E hr h => ?_)
  · intro A outer s H us vs Q E hr e0 r hsp
    obtain ⟨xs, os, rfl, few, len, vv, tb, kg, kb⟩ := hsp
    refine body A outer s H us _ Q E hr e0 r ⟨[.ref (ga K "Row")], xs, rfl, rfl, sz1000 (by omega), fun p hp => ?_⟩
    have s1 := same_new (o := .tup xs) hp
    refine ⟨p, xs, os, rfl, upd_same, few, len, fun i x hx => ?_, tb.ext s1, fun ps e a H' ys t' e' r' i' => kg ps e a H' ys t' ((ExtN.of s1).trans e') r' i', fun n ps h1 h2 h3 d H' t' e' g' => kb n ps h1 h2 h3 d H' t' ((ExtN.of s1).trans e') g'⟩
    obtain ⟨o, h1, h2⟩ := vv i x hx
    exact ⟨o, h1, h2.same s1⟩
  · obtain ⟨q, xs, os, rfl, hq, few, len, vv, tb, kg, kb⟩ := h
    refine ⟨_, pss_one (ps_ret (pe_makeV (C := ga K "Row") (E := E) (i := 0) T.mkR GR (hr.mono (by decide)) (passes_call (takes_of rfl rfl rfl rfl) (fun _ _ _ _ h => h)) rfl (.inl rfl) (pa_cons (pe_callBK (cr_sortedFld (q := lamName "Row.of" (defScope s_of)) (ps := (lam1 s_of).1) (sc := (lam1 s_of).2.1) (p1 := (lam1 s_of).2.2.1) (p2 := (lam1 s_of).2.2.2) (x := "item") (fld := "rank") (hr.mono (by decide)) (by exact ⟨rfl, rfl, rfl, by decide +kernel, rfl, rfl⟩) (by intro _ _ _ _; rfl) (by intro _; rfl) (by decide)) (by rfl) zsorted (by decide +kernel)
        (pa_cons (pe_call (E := E) GA (hr.mono (by decide)) rfl gA kA bA .nil (passes_call (takes_of rfl rfl rfl rfl) (fun _ _ _ _ h => h)) (pa_cons (pv 1) pa_nil)) pa_nil)
        (pk_cons (pe_lambda (T := Tb K) TB rfl (List.mem_cons.mpr (.inl rfl)) (fun p hp e => tb_one T hp (List.mem_cons.mpr (.inl rfl)) e) rfl (hfree_by (sc' := defScope s_of) (by decide +kernel))) pk_nil)) pa_nil))), ?_⟩
    refine ⟨rfl, _, rfl, q, xs, os, rfl, .inr (.inl (SqT.of hq)), by omega, len, vv, fun ps l H1 ys e0 h0 s1 g1 i1 => ?_, fun n ps d H1 h1 h2 h3 s1 e1 => kb n ps h1 h2 h3 d H1 (tb.ext s1) (ExtN.of s1) e1⟩
    refine ⟨tb.ext s1, fun f c' H2 e2 t2 n2 g2 c2 => ?_⟩
    have i2 : Its K H2 ys ps := itsN e2 i1
    refine ⟨l, f, c', ys, rk ps, rfl, rfl, SqL.of (e2 _ _ g1 (fun _ z => nomatch z)), g2, c2, its_keyed T i2, fun p hp => ?_⟩
    have s3 := same_new (o := .lst (((ys.zip (rk ps)).mergeSort fun a b => decide (a.2 ≤ b.2)).map (·.1))) hp
    have i3 := (its_sorted i2).same s3
    have lp : ps.length = xs.length := by rw [← len, e0, List.length_map]
    have ls : (sortP ps).length = ps.length := List.length_mergeSort _
    refine fun x dx hx hd hne => row_to hx hd hne (its_src (.inl (SqL.of upd_same)) i3 (by omega)) (sortP_up ps) (by omega) fun H4 ys4 s4 r4 i4 => ⟨rfl, ?_⟩
    have eN : ExtN H H4 := ((ExtN.of s1).trans e2).trans (ExtN.of (s3.trans s4))
    exact kg ps e0 x H4 ys4 (t2.ext (s3.trans s4)) eN r4 i4
end
end K03
/-! Tw: what stands while lambdas are made beside a pen; slices as take and drop. -/
namespace Tw
open PySem PySem.Spec PyProof.Rows L2 He LamX
/-- all but the tables and what stands at p stay -/
def ButN (p : Addr) (H H' : Hp) : Prop := ∀ b o, H b = some o → b ≠ p → (∀ ps, o ≠ .tbl ps) → H' b = some o
theorem ButN.refl (p : Addr) (H : Hp) : ButN p H H := fun _ _ e _ _ => e
theorem ButN.of {p : Addr} {H H' : Hp} (e : ExtN H H') : ButN p H H' := fun b o h _ n => e b o h n
theorem ButN.but {p : Addr} {H H' : Hp} (e : But p H H') : ButN p H H' := fun b o h n _ => e b o h n
theorem ButN.trans {p : Addr} {H H1 H2 : Hp} (a : ButN p H H1) (b : ButN p H1 H2) : ButN p H H2 := fun c o e h n => b c o (a c o e h n) h n
theorem tabs_but {T : List (Addr × Str)} {p : Addr} {H H' : Hp} (h : Tabs T H) (e : But p H H') (hp : ∀ ps, H p ≠ some (.tbl ps)) (hc : ∀ c q, H p ≠ some (CodeO c q)) : Tabs T H' := fun q hq => by
  obtain ⟨ps, h1, h2, h3⟩ := h q hq
  have n1 : q.1 ≠ p := fun z => hp ps (z ▸ h1)
  refine ⟨ps, e _ _ h1 n1, h2, fun pos cv hcv => ?_⟩
  obtain ⟨c, e1, e2⟩ := h3 pos cv hcv
  have n2 : c ≠ p := fun z => hc c q.2 (by rw [z] at e2 ⊢; exact e2)
  exact ⟨c, e1, e _ _ e2 n2⟩
theorem penN {H H' : Hp} {p l : Addr} {c : Nat} (P : PenL H p l c) (e : ExtN H H') : PenL H' p l c := by
  obtain ⟨ns, i, g, e1, e2, r⟩ := P
  exact ⟨ns, i, g, e _ _ e1 (fun _ z => nomatch z), e _ _ e2 (fun _ z => nomatch z), r⟩
theorem tabs_pen {T : List (Addr × Str)} {p l : Addr} {c : Nat} {H H' : Hp} (h : Tabs T H) (e : But p H H') (P : PenL H p l c) : Tabs T H' := by
  obtain ⟨ns, i, g, e1, _⟩ := P
  exact tabs_but h e (fun ps z => by rw [e1] at z; cases z) (fun c q z => by rw [e1] at z; exact nomatch z)
/-- the tables T, the pen at p; all else as it was at H0 -/
structure Lx (T : List (Addr × Str)) (H0 H : Hp) (p l : Addr) (c : Nat) : Prop where
  t : Tabs T H
  P : PenL H p l c
  b : ButN p H0 H
theorem Lx.same {T : List (Addr × Str)} {H0 H H' : Hp} {p l : Addr} {c : Nat} (S : Lx T H0 H p l c) (e : Same H H') : Lx T H0 H' p l c := ⟨S.t.ext e, S.P.same e, S.b.trans (ButN.but (But.of e))⟩
theorem Lx.ext {T : List (Addr × Str)} {H0 H H' : Hp} {p l : Addr} {c : Nat} (S : Lx T H0 H p l c) (e : ExtN H H') (t : Tabs T H') : Lx T H0 H' p l c := ⟨t, penN S.P e, S.b.trans (ButN.of e)⟩
theorem Lx.pen {T : List (Addr × Str)} {H0 H H' : Hp} {p l : Addr} {c c' : Nat} (S : Lx T H0 H p l c) (e : But p H H') (P : PenL H' p l c') : Lx T H0 H' p l c' := ⟨tabs_pen S.t e S.P, P, S.b.trans (ButN.but e)⟩
theorem Lx.mono {T : List (Addr × Str)} {H0 H : Hp} {p l : Addr} {c c' : Nat} (S : Lx T H0 H p l c) (h : c ≤ c') : Lx T H0 H p l c' := ⟨S.t, S.P.mono h, S.b⟩
theorem Lx.from {T : List (Addr × Str)} {H0 H1 H : Hp} {p l : Addr} {c : Nat} (b : ButN p H0 H1) (S : Lx T H1 H p l c) : Lx T H0 H p l c := ⟨S.t, S.P, b.trans S.b⟩
/-- a heap with one object changed that is no table and not the pen -/
theorem Lx.upd {T : List (Addr × Str)} {H0 H : Hp} {p l q : Addr} {c : Nat} {o : HO} {xs : List V} (S : Lx T H0 H p l c) (h0 : H0 q = none) (hq : H q = some (.lst xs)) (n1 : q ≠ p) (n2 : q ≠ l) : Lx T H0 (L2.upd H q o) p l c := by
  refine ⟨tabs_but (p := q) S.t But.upd (fun ps z => by rw [hq] at z; cases z) (fun c q' z => by rw [hq] at z; exact nomatch z), S.P.upd n1 n2, fun b u e hb ht => ?_⟩
  rw [upd_ne (ne_of_none e h0)]
  exact S.b b u e hb ht
theorem cutTake (xs : List V) (n : Nat) : cutV xs none (some ((n : Nat) : Int)) = xs.take n := by
  unfold cutV
  rw [HT.sIx_none, HT.sIx_nat, List.drop_zero, Nat.sub_zero]
  rcases Nat.le_total n xs.length with h | h
  · rw [Nat.min_eq_left h]
  · rw [Nat.min_eq_right h, List.take_of_length_le h, List.take_of_length_le (Nat.le_refl _)]
theorem cutDrop (xs : List V) (n : Nat) : cutV xs (some ((n : Nat) : Int)) none = xs.drop n := by
  unfold cutV
  rw [HT.sIx_none, HT.sIx_nat, List.take_of_length_le (by rw [List.length_drop]; exact Nat.le_refl _)]
  rcases Nat.le_total n xs.length with h | h
  · rw [Nat.min_eq_left h]
  · rw [Nat.min_eq_right h, List.drop_of_length_le h, List.drop_of_length_le (Nat.le_refl _)]
end Tw
namespace K03
open PySem PySem.Spec PyProof.Rows L2 He Tw LamX
open ClX (pe_cmeth)
abbrev N_ofr : List Str := ["_law_pen_here", "_law_pairs_here", "_law_some", "_law_values_here", "_law_row", "_law_odd_here", "_law_heard_here"]
theorem sc_ofr : FnScope N_ofr ["_law_pen_here", "_law_pairs_here"] (defScope s_ofr) := ⟨rfl, rfl, rfl, by decide +kernel, rfl, by decide +kernel, by decide +kernel⟩
abbrev LxK (K : Fg) (H0 H : Hp) (p l : Addr) (c : Nat) : Prop := Lx (Tb K) H0 H p l c
theorem prs_take {H : Hp} : ∀ {ts : List V} {ps : List (Int × Str)} (n : Nat), Prs H ts ps → Prs H (ts.take n) (ps.take n)
  | _, _, 0, _ => by rw [List.take_zero, List.take_zero]; exact .nil
  | _, _, _ + 1, .nil => .nil
  | _, _, n + 1, .cons h t => .cons h (prs_take n t)
theorem prsB {H H' : Hp} {p : Addr} {l : Addr} {c : Nat} (e : ButN p H H') (P : PenL H p l c) {ts : List V} {ps : List (Int × Str)} (h : Prs H ts ps) : Prs H' ts ps := h.keep fun t xs z => e _ _ z (fun y => by
  obtain ⟨ns, i, g, q1, _⟩ := P
  rw [y, q1] at z
  cases z) (fun _ y => nomatch y)
theorem valsB {K : Fg} {H H' : Hp} {p l : Addr} {c : Nat} (e : ButN p H H') (P : PenL H p l c) {xs : List V} {ps : List (Int × Str)} (h : Vals' K H xs ps) : Vals' K H' xs ps := h.keep fun a dx i z q => e _ _ q (fun y => by
  obtain ⟨ns, i, g, q1, _⟩ := P
  rw [y, q1] at q
  cases q) (fun _ y => nomatch y)
theorem rowBN {K : Fg} {H H' : Hp} {p l a : Addr} {c : Nat} {ys : List V} (e : ButN p H H') (P : PenL H p l c) (h : RowAt K H a ys) : RowAt K H' a ys := by
  obtain ⟨dx, t, h1, h2⟩ := h
  obtain ⟨ns, i, g, q1, _⟩ := P
  exact ⟨dx, t, e _ _ h1 (fun y => by rw [y, q1] at h1; cases h1) (fun _ y => nomatch y), e _ _ h2 (fun y => by rw [y, q1] at h2; cases h2) (fun _ y => nomatch y)⟩
theorem itsBN {K : Fg} {H H' : Hp} {p l : Addr} {c : Nat} (e : ButN p H H') (P : PenL H p l c) : ∀ {ys : List V} {ps : List (Int × Str)}, Its K H ys ps → Its K H' ys ps
  | _, _, .nil => .nil
  | _, _, .cons ⟨a, h1, dx, h2⟩ t => .cons ⟨a, h1, dx, e _ _ h2 (fun y => by
    obtain ⟨ns, i, g, q1, _⟩ := P
    rw [y, q1] at h2
    cases h2) (fun _ y => nomatch y)⟩ (itsBN e P t)
theorem oddB {H H' : Hp} {p : Addr} {v : V} (e : ButN p H H') (h : Odd H p v) : Odd H' p v := by
  obtain ⟨⟨t, bv⟩, h2, h3⟩ := h
  refine ⟨⟨t, ?_⟩, h2, h3⟩
  cases bv with
  | non => exact .non
  | bl b => exact .bl b
  | int i => exact .int i
  | str z => exact .str z
  | lst h => exact .lst (e _ _ h (h3 _ rfl) (fun _ z => nomatch z))
  | tup h => exact .tup (e _ _ h (h3 _ rfl) (fun _ z => nomatch z))
  | dK h => exact .dK (e _ _ h (h3 _ rfl) (fun _ z => nomatch z))
/-- what as_items takes of these -/
def Vall (K : Fg) (H : Hp) (xs : List V) (os : List (Option (Int × Str))) : Prop := os.length = xs.length ∧ ∀ (i : Nat) (x : V), xs[i]? = some x → ∃ o : Option (Int × Str), os[i]? = some o ∧ Vv K H x o
theorem vall_nil {K : Fg} {H : Hp} : Vall K H [] [] := ⟨rfl, fun _ _ h => nomatch h⟩
theorem vall_cons {K : Fg} {H : Hp} {x : V} {o : Option (Int × Str)} {xs : List V} {os : List (Option (Int × Str))} (h : Vv K H x o) (t : Vall K H xs os) : Vall K H (x :: xs) (o :: os) := ⟨by rw [List.length_cons, List.length_cons, t.1], fun i y e => by
  cases i with
  | zero =>
    cases e
    exact ⟨_, rfl, h⟩
  | succ n => exact t.2 n y e⟩
theorem vall_vals {K : Fg} {H : Hp} : ∀ {xs : List V} {ps : List (Int × Str)}, Vals' K H xs ps → Vall K H xs (ps.map some)
  | _, _, .nil => vall_nil
  | _, _, .cons h t => vall_cons h (vall_vals t)
/-- a row of what is told, asked where nothing can go wrong -/
theorem of_good {K : Fg} {H H0 : Hp} {p l : Addr} {c : Nat} {xs : List V} {ps : List (Int × Str)} {R : VK} {E : XK} (S : LxK K H0 H p l c) (vv : Vals' K H xs ps) (few : ps.length ≤ 60)
    (k : ∀ (a : Addr) (H' : Hp) (ys : List V), LxK K H0 H' p l c → ExtN H H' → RowAt K H' a ys → Its K H' ys (sortP ps) → R (.ref a) H') : spOf K (.ref (ga K "Row") :: xs) H R E := by
  have ll : xs.length = ps.length := Paired.length vv
  obtain ⟨v1, v2⟩ := vall_vals vv
  refine ⟨xs, ps.map some, rfl, by omega, v1, v2, S.t, fun ps' e a H' ys t' e' r i => ?_, fun n ps' h1 h2 h3 d H' t' e' g' => ?_⟩
  · rw [← some_inj e] at i
    exact k a H' ys (S.ext e' t') e' r i
  · rw [List.getElem?_map] at h3
    cases q : ps[n]? with
    | none =>
      rw [q] at h3
      cases h3
    | some z =>
      rw [q] at h3
      cases h3
/-- a row of what cannot be one, made by a lambda that is heard -/
theorem lam_of {K : Fg} {H0 H : Hp} {p l : Addr} {c : Nat} {xs : List V} {ps : List (Int × Str)} {os : List (Option (Int × Str))} {t : XK → TE} {σ : L2.St} {R : VK} (S : LxK K H0 H p l c) (few : xs.length ≤ 60) (vv : ∀ H', ExtN H H' → Vall K H' xs (ps.map some ++ none :: os))
    (rd : ∀ E H' Q', spOf K (.ref (ga K "Row") :: xs) H' Q' E → t E σ H' Q') (k : ∀ q H', LxK K H0 H' p l c → ExtN H H' → H' q = some (.tup [.str "item", .int (ps.length : Nat)]) → R (.ref q) H') : LamX.tLam (Tb K) (TTh K) t σ H R := by
  have w1 : wordOf "BadItem" = "item" := by decide +kernel
  have at_ : (ps.map some ++ none :: os)[ps.length]? = some none := by simp
  have bel : ∀ m, m < ps.length → ∃ q, (ps.map some ++ none :: os)[m]? = some (some q) := fun m hm => ⟨ps[m], by
    rw [List.getElem?_append_left (by rw [List.length_map]; exact hm), List.getElem?_map, List.getElem?_eq_getElem hm]
    rfl⟩
  refine ⟨S.t, fun H7 e7 T7 E' Q' hE hQ => rd _ _ _ ⟨xs, _, rfl, few, (vv H7 e7).1, (vv H7 e7).2, T7, fun ps' e => ?_, fun n ps' h1 h2 h3 d H8 t8 e8 g8 => ?_⟩⟩
  · rw [e, List.getElem?_map] at at_
    cases q : ps'[ps.length]? with
    | none =>
      rw [q] at at_
      cases at_
    | some z =>
      rw [q] at at_
      cases at_
  · have en : n = ps.length := by
      rcases Nat.lt_trichotomy n ps.length with z | z | z
      · obtain ⟨q, hq⟩ := bel n z
        rw [hq] at h3
        cases h3
      · exact z
      · obtain ⟨q, hq⟩ : ∃ q, ps'[ps.length]? = some q := ⟨_, List.getElem?_eq_getElem (by omega)⟩
        rw [h2 _ _ hq] at at_
        cases at_
    subst en
    refine hE _ _ _ ⟨("BadItem", 5, "part"), (ps.length : Nat), d, by decide +kernel, rfl, rfl, g8, fun q H9 f9 s9 g9 => ?_⟩
    have g9' : H9 q = some (.tup [.str (wordOf "BadItem"), .int (ps.length : Nat)]) := g9
    rw [w1] at g9'
    exact k q H9 (((S.ext e7 T7).ext e8 t8).same s9) ((e7.trans e8).trans (ExtN.of s9)) g9'
theorem Odd.vv {K : Fg} {H : Hp} {p : Addr} {v : V} (h : Odd H p v) : Vv K H v none := by
  obtain ⟨⟨t, bv⟩, h2, _⟩ := h
  exact .bad bv h2
def spOfR (K : Fg) : Sp := fun vs H Q _ => ∃ (p l f : Addr) (ts : List V) (ps : List (Int × Str)) (c : Nat), vs = [.ref p, .ref f] ∧ PenL H p l c ∧ c ≤ 500000 ∧ H f = some (.lst ts) ∧ f ≠ p ∧ Prs H ts ps ∧ ps.length ≤ 100 ∧ (∀ q ∈ ps, Gd q) ∧ Tabs (Tb K) H ∧
  ∀ H', LxK K H H' p l (c + 200) → Q (.bl true) H'
section
variable {P : Program} {w : World} {K : Fg} {mg : Str → Option Value} {base : Heap} {fd : Nat → FuncData}
theorem G_ofr (D : DefsK K fd) (T : Txt K mg) (TO : TabB base mg (Tw.codeAt K (cmAt K "Row" "of")) (tabAt K (cmAt K "Row" "of"))) (TB : TabB base mg (Tw.codeAt K (ga K "_law_of_right")) (tabAt K (ga K "_law_of_right"))) :
    FnOk P w K mg base CX0 11 (ga K "_law_of_right") (fd 28) ["_law_pen_here", "_law_pairs_here"] (spOfR K) := by
  have zlen : mg "len" = none := T.bl (by decide +kernel)
  have gR : mg "Row" = some (.ref (ga K "Row")) := T.cl (by decide +kernel)
  have gH := T.fn (x := "_law_heard") (by decide +kernel)
  have gMx := T.fn (x := "_law_mixed") (by decide +kernel)
  have gV := T.fn (x := "_law_values") (by decide +kernel)
  have gOd := T.fn (x := "_law_odd") (by decide +kernel)
  have gT := T.fn (x := "_law_told") (by decide +kernel)
  have gS := T.fn (x := "_law_sorted") (by decide +kernel)
  have gD := T.fn (x := "_law_draw") (by decide +kernel)
  have gPk := T.fn (x := "_law_pick") (by decide +kernel)
  obtain ⟨d2, I⟩ := itm (P := P) (w := w) (base := base) D T
  have FD : FnP K "_law_draw" "_law_draw" s_draw (ga K "_law_draw") (fd 18) := D 18 _ rfl
  have FPk : FnP K "_law_pick" "_law_pick" s_pick (ga K "_law_pick") (fd 19) := D 19 _ rfl
  have FV : FnP K "_law_values" "_law_values" s_values (ga K "_law_values") (fd 21) := D 21 _ rfl
  have FT : FnP K "_law_told" "_law_told" s_told (ga K "_law_told") (fd 22) := D 22 _ rfl
  have FH : FnP K "_law_heard" "_law_heard" s_heard (ga K "_law_heard") (fd 23) := D 23 _ rfl
  have FOd : FnP K "_law_odd" "_law_odd" s_odd (ga K "_law_odd") (fd 24) := D 24 _ rfl
  have FM : FnP K "_law_mixed" "_law_mixed" s_mixed (ga K "_law_mixed") (fd 25) := D 25 _ rfl
  have FS : FnP K "_law_sorted" "_law_sorted" s_sorted (ga K "_law_sorted") (fd 26) := D 26 _ rfl
  have FL : FnP K "listed" "Row.listed" s_lst (ma K (ga K "Row") "listed") (fd 9) := D 9 _ rfl
  have GM : FnOk P w K mg base CX0 2 _ (fd 25) ["_law_pen_here", "_law_some"] spMixed := ok_mixed FM FD gD T
  have GV : FnOk P w K mg base CX0 5 _ (fd 21) ["_law_pen_here", "_law_pairs_here"] (spValues K) := ok_values FV FD gD I T
  have GT : FnOk P w K mg base CX0 1 _ (fd 22) ["_law_listed"] (spTold K) := ok_told FT T
  have GOd : FnOk P w K mg base CX0 3 _ (fd 24) ["_law_pen_here"] spOdd := ok_odd FOd FD gD FPk gPk T
  have GS : FnOk P w K mg base CX0 1 _ (fd 26) ["_law_pairs_here"] (spSorted K) := ok_sorted FS T
  have GL : FnOk P w K mg base CX0 1 _ (fd 9) ["self"] (spListed K) := ok_lst FL T
  have GO : FnR P w K mg base (L2.CX P w) 8 (cmAt K "Row" "of") (spOf K) := G_of D T TO
  have mL := T.mtR (m := "listed") (by decide +kernel)
  have bM : Binds K (fd 25) ["_law_pen_here", "_law_some"] [] := FM.bindsN fun _ _ _ _ _ _ us hl => match us, hl with | [_, _], _ => rfl
  have bV : Binds K (fd 21) ["_law_pen_here", "_law_pairs_here"] [] := FV.bindsN fun _ _ _ _ _ _ us hl => match us, hl with | [_, _], _ => rfl
  have bT : Binds K (fd 22) ["_law_listed"] [] := FT.bindsN fun _ _ _ _ _ _ us hl => match us, hl with | [_], _ => rfl
  have bh : Binds K (fd 23) ["_law_ask"] [] := FH.bindsN fun _ _ _ _ _ _ us hl => match us, hl with | [_], _ => rfl
  have bOd : Binds K (fd 24) ["_law_pen_here"] [] := FOd.bindsN fun _ _ _ _ _ _ us hl => match us, hl with | [_], _ => rfl
  have bS : Binds K (fd 26) ["_law_pairs_here"] [] := FS.bindsN fun _ _ _ _ _ _ us hl => match us, hl with | [_], _ => rfl
  have bL : Binds K (fd 9) ["self"] [] := FL.bindsN fun _ _ _ _ _ _ us hl => match us, hl with | [_], _ => rfl
  have F : FnP K "_law_of_right" "_law_of_right" s_ofr (ga K "_law_of_right") (fd 28) := D 28 _ rfl
  obtain ⟨och, odh, dVh, kVh, doch, pmh, anh, cdh, cth, oslh, eh, lkh, hch, _, _⟩ := FH.ex
  obtain ⟨oc, od, dV, kV, doc, pm, an, cdv, ct, osl, e0, lk, hcd, _, _⟩ := F.ex
  rw [e0] at lk ⊢
  obtain ⟨cc, rfl⟩ := codeIn_ref hcd
  have ec : Tw.codeAt K (ga K "_law_of_right") = cc := by
    unfold Tw.codeAt
    rw [lk]
  rw [ec] at TB
  rw [eh] at bh lkh
  refine fn_of lk hcd sc_ofr (fun vs H Q E h => ?_) (fun A outer s H vs Q E hr h => ?_)
  · obtain ⟨p, l, f, ts, ps, c, rfl, _⟩ := h
    rfl
  · obtain ⟨p, l, f, ts, ps, c, rfl, hP, hc, hf, hfp, prs, hn, gd, hT, k⟩ := h
    refine ⟨_, PSs.nox (pss_cons (ps_set (i := 2) sc_ofr.nd rfl (Or.inl rfl) (pe_slice sl_listN (pe_call GM (hr.mono (by decide)) rfl gMx FM.kp bM .nil pass0 (pa_cons (pv 0) (pa_cons (pv 1) pa_nil))) po_none (po_some pe_int)))
    (pss_cons (ps_set (i := 3) sc_ofr.nd rfl (Or.inl rfl) (pe_call GV (hr.mono (by decide)) rfl gV FV.kp bV .nil pass0 (pa_cons (pv 0) (pa_cons (pv 2) pa_nil))))
    (pss_cons (ps_set (i := 4) sc_ofr.nd rfl (Or.inl rfl) (pe_cmeth0 (E := E0) (pe_glob (v := .ref (ga K "Row")) rfl gR rfl) T.cread T.cmet GO (hr.mono (by decide)) passL))
    (pss_mid (ps_if (pt_cmpR op_eq (pe_callB call_len (by rfl) zlen (by decide +kernel) (pa_cons (pv 3) pa_nil)) pe_int (nomark _)) (pss_one (ps_set (i := 4) sc_ofr.nd rfl (Or.inl rfl) (pe_cmeth (E := E0) (pe_glob (v := .ref (ga K "Row")) rfl gR rfl) T.cread T.cmet GO (hr.mono (by decide)) passL (pa_cons (pe_ix ix_list (pv 3) pe_int (fun _ _ => rfl)) pa_nil)))) pss_nil)
    (pss_mid (ps_if (pt_cmpR op_eq (pe_callB call_len (by rfl) zlen (by decide +kernel) (pa_cons (pv 3) pa_nil)) pe_int (nomark _)) (pss_one (ps_set (i := 4) sc_ofr.nd rfl (Or.inl rfl) (pe_cmeth (E := E0) (pe_glob (v := .ref (ga K "Row")) rfl gR rfl) T.cread T.cmet GO (hr.mono (by decide)) passL (pa_cons (pe_ix ix_list (pv 3) pe_int (fun _ _ => rfl)) (pa_cons (pe_ix ix_list (pv 3) pe_int (fun _ _ => rfl)) pa_nil))))) pss_nil)
    (pss_mid (ps_if (pt_cmpR op_eq (pe_callB call_len (by rfl) zlen (by decide +kernel) (pa_cons (pv 3) pa_nil)) pe_int (nomark _)) (pss_one (ps_set (i := 4) sc_ofr.nd rfl (Or.inl rfl) (pe_cmeth (E := E0) (pe_glob (v := .ref (ga K "Row")) rfl gR rfl) T.cread T.cmet GO (hr.mono (by decide)) passL (pa_cons (pe_ix ix_list (pv 3) pe_int (fun _ _ => rfl)) (pa_cons (pe_ix ix_list (pv 3) pe_int (fun _ _ => rfl)) (pa_cons (pe_ix ix_list (pv 3) pe_int (fun _ _ => rfl)) pa_nil)))))) pss_nil)
    (pss_mid (ps_if (pt_cmpR op_eq (pe_callB call_len (by rfl) zlen (by decide +kernel) (pa_cons (pv 3) pa_nil)) pe_int (nomark _)) (pss_one (ps_set (i := 4) sc_ofr.nd rfl (Or.inl rfl) (pe_cmeth (E := E0) (pe_glob (v := .ref (ga K "Row")) rfl gR rfl) T.cread T.cmet GO (hr.mono (by decide)) passL (pa_cons (pe_ix ix_list (pv 3) pe_int (fun _ _ => rfl)) (pa_cons (pe_ix ix_list (pv 3) pe_int (fun _ _ => rfl)) (pa_cons (pe_ix ix_list (pv 3) pe_int (fun _ _ => rfl)) (pa_cons (pe_ix ix_list (pv 3) pe_int (fun _ _ => rfl)) pa_nil))))))) pss_nil)
    (pss_mid (ps_if (pt_cmpR op_eq (pe_callB call_len (by rfl) zlen (by decide +kernel) (pa_cons (pv 3) pa_nil)) pe_int (nomark _)) (pss_one (ps_set (i := 4) sc_ofr.nd rfl (Or.inl rfl) (pe_cmeth (E := E0) (pe_glob (v := .ref (ga K "Row")) rfl gR rfl) T.cread T.cmet GO (hr.mono (by decide)) passL (pa_cons (pe_ix ix_list (pv 3) pe_int (fun _ _ => rfl)) (pa_cons (pe_ix ix_list (pv 3) pe_int (fun _ _ => rfl)) (pa_cons (pe_ix ix_list (pv 3) pe_int (fun _ _ => rfl)) (pa_cons (pe_ix ix_list (pv 3) pe_int (fun _ _ => rfl)) (pa_cons (pe_ix ix_list (pv 3) pe_int (fun _ _ => rfl)) pa_nil)))))))) pss_nil)
    (pss_cons (ps_set (i := 5) sc_ofr.nd rfl (Or.inr rfl) (pe_call GOd (hr.mono (by decide)) rfl gOd FOd.kp bOd .nil pass0 (pa_cons (pv 0) pa_nil)))
    (pss_cons (ps_set (i := 6) sc_ofr.nd rfl (Or.inl rfl) (pe_lstN (pa_cons (LamX.pe_lamcall (T := Tb K) (TT := TTh K) (k := 8) rfl gH FH.kp lkh hch bh sc_heard rfl (.inl rfl) (heard_gives T trivial) TB rfl (List.mem_cons_of_mem _ (List.mem_cons.mpr (.inl rfl))) (fun q hq e => tb_one T hq (List.mem_cons_of_mem _ (List.mem_cons.mpr (.inl rfl))) e) (hr.mono (by decide)) (LamX.lamS_by (sc := defScope s_ofr) (by decide +kernel)) rfl (fun _ _ _ _ _ => rfl)
        (fun A outer s H E f c' hr2 => pe_cmeth (E := E) (pe_glob (v := .ref (ga K "Row")) rfl gR rfl) T.cread T.cmet GO (hr2.mono (by decide)) (passes_call (takes_of rfl rfl rfl rfl) (fun _ _ _ _ h => h)) (pa_cons pe_int (pa_cons (pv 5) (pa_cons pe_int (pa_cons (pv 5) pa_nil)))))) pa_nil)))
    (pss_cons (ps_expr (pe_bm PySem.F.plainAttrs_list PySem.F.slot_list_append PySem.F.type_list_append mt_append (pv 6) (pa_cons (LamX.pe_lamcall (T := Tb K) (TT := TTh K) (k := 8) rfl gH FH.kp lkh hch bh sc_heard rfl (.inl rfl) (heard_gives T trivial) TB rfl (List.mem_cons_of_mem _ (List.mem_cons.mpr (.inl rfl))) (fun q hq e => tb_one T hq (List.mem_cons_of_mem _ (List.mem_cons.mpr (.inl rfl))) e) (hr.mono (by decide)) (LamX.lamS_by (sc := defScope s_ofr) (by decide +kernel)) rfl (fun _ _ _ _ _ => rfl)
        (fun A outer s H E f c' hr2 => pe_cmeth (E := E) (pe_glob (v := .ref (ga K "Row")) rfl gR rfl) T.cread T.cmet GO (hr2.mono (by decide)) (passes_call (takes_of rfl rfl rfl rfl) (fun _ _ _ _ h => h)) (pa_cons (pv 5) pa_nil))) pa_nil)))
    (pss_one (ps_ret (pe_and (pe_cmpR (op_eqD hr.units) (pe_call GT (hr.mono (by decide)) rfl gT FT.kp bT .nil pass0 (pa_cons (pe_meth0 (E := E0) (pv 4) T.clsR mL GL (hr.mono (by decide)) bL .nil pass0) pa_nil)) (pe_call GS (hr.mono (by decide)) rfl gS FS.kp bS .nil pass0 (pa_cons (pv 2) pa_nil)) (nomark _)) (pe_one (pe_cmpR (op_eqD hr.units) (pv 6) (pe_lstN (pa_cons (pe_tupN (pa_cons pe_str (pa_cons pe_int pa_nil))) (pa_cons (pe_tupN (pa_cons pe_str (pa_cons pe_int pa_nil))) pa_nil))) (nomark _))))))))))))))))), ?_⟩
    refine ⟨_, rfl, _, rfl, p, l, f, ts, ps, c, rfl, hP, by omega, hf, hfp, prs, by omega, fun g1 H1 ts1 ps1 P1 B1 n1 ng1 gg1 prs1 len1 mem1 => ?_⟩
    refine ⟨_, rfl, g1, ts1, rfl, SqL.of gg1, fun q H2 n2 s2 g2 => ?_⟩
    rw [show cutV ts1 none (some 5) = ts1.take 5 from cutTake ts1 5] at g2
    have nqp : q ≠ p := (P1.new n2).1
    have prs5 : Prs H2 (ts1.take 5) (ps1.take 5) := prs_take 5 (prs1.keep fun t xs e => s2 _ _ e)
    refine ⟨_, rfl, _, rfl, p, l, q, _, ps1.take 5, _, rfl, P1.same s2, by omega, g2, nqp, prs5, by rw [List.length_take]; omega, fun q hq => gd q (mem1 q (List.mem_of_mem_take hq)), fun v H3 xs P3 B3 nv nvp gv vv => ?_⟩
    refine ⟨rfl, ?_⟩
    have ll1 : ts1.length = ps1.length := Paired.length prs1
    have lx : xs.length = (ps1.take 5).length := Paired.length vv
    have l5 : (ps1.take 5).length ≤ 5 := by rw [List.length_take]; omega
    have gd5 : ∀ q ∈ ps1.take 5, Gd q := fun q hq => gd q (mem1 q (List.mem_of_mem_take hq))
    have S3 : LxK K H H3 p l (c + ps.length + 5) := ((Lx.mk hT hP (ButN.refl p H)).pen B1 P1 |>.same s2 |>.pen B3 P3).mono (by omega)
    have gq3 : H3 q = some (.lst (ts1.take 5)) := B3 _ _ g2 nqp
    have prs3 : Prs H3 (ts1.take 5) (ps1.take 5) := prsB (ButN.but B3) (P1.same s2) prs5
    refine of_good (ps := []) S3 .nil (by decide) fun a0 H4 ys0 S4 e4 r4 i4 => ?_
    have X4 : ∀ {H'}, LxK K H3 H' p l (c + ps.length + 5) → H' v = some (.lst xs) ∧ Vals' K H' xs (ps1.take 5) := fun S => ⟨S.b _ _ gv nvp (fun _ z => nomatch z), valsB S.b S3.P vv⟩
    have S34 : LxK K H3 H4 p l (c + ps.length + 5) := ⟨S4.t, S4.P, ButN.of e4⟩
    clear S4
    have W0 : (ps1.take 5).length ≤ 0 → ∃ ys, RowAt K H4 a0 ys ∧ Its K H4 ys (sortP (ps1.take 5)) := fun z => by
      have e : ps1.take 5 = [] := List.length_eq_zero_iff.mp (by omega)
      rw [e]
      exact ⟨ys0, r4, i4⟩
    clear r4 i4
    refine ⟨fun σ' H' => ∃ a : Addr, σ' = [some (.ref p), some (.ref f), some (.ref q), some (.ref v), some (.ref a), none, none] ∧ LxK K H3 H' p l (c + ps.length + 5) ∧ ((ps1.take 5).length ≤ 1 → ∃ ys, RowAt K H' a ys ∧ Its K H' ys (sortP (ps1.take 5))), ?_, ?_⟩
    · obtain ⟨hv1, vv1⟩ := X4 S34
      refine ⟨_, rfl, _, _, rfl, .inl ⟨_, SqL.of hv1, rfl⟩, rfl, _, rfl, ?_⟩
      refine ite2 (fun hz => ?_) (fun hz => ?_)
      · have e : xs.length = 1 := by
          have := of_decide_eq_true hz
          injection this with this
          omega
        obtain ⟨x0, rfl⟩ : ∃ x0, xs = [x0] := match xs, e with
          | [x0], _ => ⟨x0, rfl⟩
        refine ⟨rfl, _, rfl, v, _, 0, _, rfl, rfl, SqL.of hv1, rfl, ?_⟩
        dsimp only [tNil]
        refine of_good S34 vv1 (by omega) fun a H5 ys S5 e5 r5 i5 => ?_
        exact ⟨a, rfl, ⟨S5.t, S5.P, S5.b⟩, fun _ => ⟨ys, r5, i5⟩⟩
      · refine ⟨a0, rfl, S34, fun z => W0 ?_⟩
        have ne : xs.length ≠ 1 := fun y => hz (by rw [y]; rfl)
        omega
    rintro σ1 H5 ⟨a1, rfl, S5x, W1⟩
    refine ⟨fun σ' H' => ∃ a : Addr, σ' = [some (.ref p), some (.ref f), some (.ref q), some (.ref v), some (.ref a), none, none] ∧ LxK K H3 H' p l (c + ps.length + 5) ∧ ((ps1.take 5).length ≤ 2 → ∃ ys, RowAt K H' a ys ∧ Its K H' ys (sortP (ps1.take 5))), ?_, ?_⟩
    · obtain ⟨hv2, vv2⟩ := X4 S5x
      refine ⟨_, rfl, _, _, rfl, .inl ⟨_, SqL.of hv2, rfl⟩, rfl, _, rfl, ?_⟩
      refine ite2 (fun hz => ?_) (fun hz => ?_)
      · have e : xs.length = 2 := by
          have := of_decide_eq_true hz
          injection this with this
          omega
        obtain ⟨x0, x1, rfl⟩ : ∃ x0 x1, xs = [x0, x1] := match xs, e with
          | [x0, x1], _ => ⟨x0, x1, rfl⟩
        refine ⟨rfl, _, rfl, v, _, 0, _, rfl, rfl, SqL.of hv2, rfl, _, rfl, v, _, 1, _, rfl, rfl, SqL.of hv2, rfl, ?_⟩
        dsimp only [tNil]
        refine of_good S5x vv2 (by omega) fun a H5 ys S5 e5 r5 i5 => ?_
        exact ⟨a, rfl, ⟨S5.t, S5.P, S5.b⟩, fun _ => ⟨ys, r5, i5⟩⟩
      · refine ⟨a1, rfl, S5x, fun z => W1 ?_⟩
        have ne : xs.length ≠ 2 := fun y => hz (by rw [y]; rfl)
        omega
    rintro σ2 H6 ⟨a2, rfl, S6x, W2⟩
    refine ⟨fun σ' H' => ∃ a : Addr, σ' = [some (.ref p), some (.ref f), some (.ref q), some (.ref v), some (.ref a), none, none] ∧ LxK K H3 H' p l (c + ps.length + 5) ∧ ((ps1.take 5).length ≤ 3 → ∃ ys, RowAt K H' a ys ∧ Its K H' ys (sortP (ps1.take 5))), ?_, ?_⟩
    · obtain ⟨hv3, vv3⟩ := X4 S6x
      refine ⟨_, rfl, _, _, rfl, .inl ⟨_, SqL.of hv3, rfl⟩, rfl, _, rfl, ?_⟩
      refine ite2 (fun hz => ?_) (fun hz => ?_)
      · have e : xs.length = 3 := by
          have := of_decide_eq_true hz
          injection this with this
          omega
        obtain ⟨x0, x1, x2, rfl⟩ : ∃ x0 x1 x2, xs = [x0, x1, x2] := match xs, e with
          | [x0, x1, x2], _ => ⟨x0, x1, x2, rfl⟩
        refine ⟨rfl, _, rfl, v, _, 0, _, rfl, rfl, SqL.of hv3, rfl, _, rfl, v, _, 1, _, rfl, rfl, SqL.of hv3, rfl, _, rfl, v, _, 2, _, rfl, rfl, SqL.of hv3, rfl, ?_⟩
        dsimp only [tNil]
        refine of_good S6x vv3 (by omega) fun a H5 ys S5 e5 r5 i5 => ?_
        exact ⟨a, rfl, ⟨S5.t, S5.P, S5.b⟩, fun _ => ⟨ys, r5, i5⟩⟩
      · refine ⟨a2, rfl, S6x, fun z => W2 ?_⟩
        have ne : xs.length ≠ 3 := fun y => hz (by rw [y]; rfl)
        omega
    rintro σ3 H7 ⟨a3, rfl, S7x, W3⟩
    refine ⟨fun σ' H' => ∃ a : Addr, σ' = [some (.ref p), some (.ref f), some (.ref q), some (.ref v), some (.ref a), none, none] ∧ LxK K H3 H' p l (c + ps.length + 5) ∧ ((ps1.take 5).length ≤ 4 → ∃ ys, RowAt K H' a ys ∧ Its K H' ys (sortP (ps1.take 5))), ?_, ?_⟩
    · obtain ⟨hv4, vv4⟩ := X4 S7x
      refine ⟨_, rfl, _, _, rfl, .inl ⟨_, SqL.of hv4, rfl⟩, rfl, _, rfl, ?_⟩
      refine ite2 (fun hz => ?_) (fun hz => ?_)
      · have e : xs.length = 4 := by
          have := of_decide_eq_true hz
          injection this with this
          omega
        obtain ⟨x0, x1, x2, x3, rfl⟩ : ∃ x0 x1 x2 x3, xs = [x0, x1, x2, x3] := match xs, e with
          | [x0, x1, x2, x3], _ => ⟨x0, x1, x2, x3, rfl⟩
        refine ⟨rfl, _, rfl, v, _, 0, _, rfl, rfl, SqL.of hv4, rfl, _, rfl, v, _, 1, _, rfl, rfl, SqL.of hv4, rfl, _, rfl, v, _, 2, _, rfl, rfl, SqL.of hv4, rfl, _, rfl, v, _, 3, _, rfl, rfl, SqL.of hv4, rfl, ?_⟩
        dsimp only [tNil]
        refine of_good S7x vv4 (by omega) fun a H5 ys S5 e5 r5 i5 => ?_
        exact ⟨a, rfl, ⟨S5.t, S5.P, S5.b⟩, fun _ => ⟨ys, r5, i5⟩⟩
      · refine ⟨a3, rfl, S7x, fun z => W3 ?_⟩
        have ne : xs.length ≠ 4 := fun y => hz (by rw [y]; rfl)
        omega
    rintro σ4 H8 ⟨a4, rfl, S8x, W4⟩
    refine ⟨fun σ' H' => ∃ a : Addr, σ' = [some (.ref p), some (.ref f), some (.ref q), some (.ref v), some (.ref a), none, none] ∧ LxK K H3 H' p l (c + ps.length + 5) ∧ ((ps1.take 5).length ≤ 5 → ∃ ys, RowAt K H' a ys ∧ Its K H' ys (sortP (ps1.take 5))), ?_, ?_⟩
    · obtain ⟨hv5, vv5⟩ := X4 S8x
      refine ⟨_, rfl, _, _, rfl, .inl ⟨_, SqL.of hv5, rfl⟩, rfl, _, rfl, ?_⟩
      refine ite2 (fun hz => ?_) (fun hz => ?_)
      · have e : xs.length = 5 := by
          have := of_decide_eq_true hz
          injection this with this
          omega
        obtain ⟨x0, x1, x2, x3, x4, rfl⟩ : ∃ x0 x1 x2 x3 x4, xs = [x0, x1, x2, x3, x4] := match xs, e with
          | [x0, x1, x2, x3, x4], _ => ⟨x0, x1, x2, x3, x4, rfl⟩
        refine ⟨rfl, _, rfl, v, _, 0, _, rfl, rfl, SqL.of hv5, rfl, _, rfl, v, _, 1, _, rfl, rfl, SqL.of hv5, rfl, _, rfl, v, _, 2, _, rfl, rfl, SqL.of hv5, rfl, _, rfl, v, _, 3, _, rfl, rfl, SqL.of hv5, rfl, _, rfl, v, _, 4, _, rfl, rfl, SqL.of hv5, rfl, ?_⟩
        dsimp only [tNil]
        refine of_good S8x vv5 (by omega) fun a H5 ys S5 e5 r5 i5 => ?_
        exact ⟨a, rfl, ⟨S5.t, S5.P, S5.b⟩, fun _ => ⟨ys, r5, i5⟩⟩
      · refine ⟨a4, rfl, S8x, fun z => W4 ?_⟩
        have ne : xs.length ≠ 5 := fun y => hz (by rw [y]; rfl)
        omega
    rintro σ5 H9 ⟨a5, rfl, S9x, W5⟩
    obtain ⟨ys, rA, iA⟩ := W5 l5
    have SS : LxK K H H9 p l (c + ps.length + 5) := Lx.from S3.b S9x
    refine ⟨_, rfl, p, l, _, rfl, SS.P, by omega, fun w H10 P10 B10 O10 => ?_⟩
    have S10 : LxK K H9 H10 p l (c + ps.length + 6) := Lx.mk (tabs_pen SS.t B10 SS.P) P10 (ButN.but B10)
    refine lam_of (ps := [(5, "")]) (os := [some (1, ""), none]) S10 (by show 4 ≤ 60; decide) (fun H' e => ?_) (fun E H' Q' h => ⟨rfl, _, rfl, _, rfl, h⟩) fun q11 H11 S11 e11 g11 => ?_
    · have O := oddB (ButN.of e) O10
      exact vall_cons (.int (by decide +kernel)) (vall_cons O.vv (vall_cons (.int (by decide +kernel)) (vall_cons O.vv vall_nil)))
    refine ⟨sz1000 (by show 1 ≤ 1000; decide), fun q12 H12 f12 m12 s12 g12 => ?_⟩
    have S12 : LxK K H11 H12 p l (c + ps.length + 6) := ⟨S11.t.ext s12, S11.P.same s12, ButN.but (But.of s12)⟩
    have O12 : Odd H12 p w := oddB ((ButN.of e11).trans (ButN.but (But.of s12))) O10
    refine ⟨_, rfl, .inl ⟨rfl, _, SqL.of g12⟩, ?_⟩
    refine lam_of (ps := []) (os := []) S12 (by show 1 ≤ 60; decide) (fun H' e => vall_cons (oddB (ButN.of e) O12).vv vall_nil) (fun E H' Q' h => ⟨rfl, _, rfl, h⟩) fun q13 H13 S13 e13 g13 => ?_
    have g12' : H13 q12 = some (.lst [.ref q11]) := e13 _ _ g12 (fun _ z => nomatch z)
    refine ⟨q12, _, _, rfl, rfl, g12', by show 1 < sizeLine; decide, ?_⟩
    have n12 : q12 ≠ p ∧ q12 ≠ l := S11.P.new f12
    have S14 : LxK K H11 (upd H13 q12 (.lst ([.ref q11] ++ [.ref q13]))) p l (c + ps.length + 6) := S13.upd f12 g12' n12.1 n12.2
    have g14 : (upd H13 q12 (.lst ([.ref q11] ++ [.ref q13]))) q12 = some (.lst [.ref q11, .ref q13]) := upd_same
    have g13' : (upd H13 q12 (.lst ([.ref q11] ++ [.ref q13]))) q13 = some (.tup [.str "item", .int (([] : List (Int × Str)).length : Nat)]) := by
      rw [upd_ne (fun z => by rw [z, g12'] at g13; cases g13)]
      exact g13
    generalize upd H13 q12 (.lst ([.ref q11] ++ [.ref q13])) = H14 at S14 g14 g13' ⊢
    have g11' : H14 q11 = some (.tup [.str "item", .int (([(5, "")] : List (Int × Str)).length : Nat)]) := S14.b _ _ g11 (fun z => by
      obtain ⟨ns, i, g, q1, _⟩ := S11.P
      rw [z, q1] at g11
      cases g11) (fun _ z => nomatch z)
    have b9 : ButN p H9 H14 := S11.b.trans S14.b
    have rB : RowAt K H14 a5 ys := rowBN b9 SS.P rA
    have iB : Its K H14 ys (sortP (ps1.take 5)) := itsBN b9 SS.P iA
    have gqB : H14 q = some (.lst (ts1.take 5)) := b9 _ _ (S9x.b _ _ gq3 nqp (fun _ z => nomatch z)) nqp (fun _ z => nomatch z)
    have prsB14 : Prs H14 (ts1.take 5) (ps1.take 5) := prsB b9 SS.P (prsB S9x.b S3.P prs3)
    have SF : LxK K H H14 p l (c + ps.length + 6) := S14.from (SS.b.trans S11.b)
    have lsp : (sortP (ps1.take 5)).length = (ps1.take 5).length := List.length_mergeSort _
    have gdS : ∀ q ∈ sortP (ps1.take 5), Gd q := fun q hq => gd5 q ((List.mergeSort_perm _ _).mem_iff.mp hq)
    have ly := its_len iB
    obtain ⟨dx, tx, ha, hta⟩ := id rB
    refine ⟨_, rfl, a5, dx, _, rfl, ha, rfl, a5, ys, rfl, rB, fun l15 H15 n15 s15 g15 => ?_⟩
    refine ⟨l15, ys, _, rfl, g15, iB.same s15, by omega, fun g16 H16 ts16 n16 s16 gg16 prs16 => ?_⟩
    have s1416 := s15.trans s16
    refine ⟨_, rfl, q, _, ps1.take 5, rfl, s1416 _ _ gqB, prsB14.keep fun t xs z => s1416 _ _ z, by omega, fun g17 H17 us ys' n17 s17 perm asc gg17 prs17 => ?_⟩
    rw [grp_merge perm asc] at prs17
    refine ⟨.list ((sortP (ps1.take 5)).map pd), .list ((sortP (ps1.take 5)).map pd), .lst (SqL.of (s17 _ _ gg16)) (dp_prs (prs16.keep fun t xs z => s17 _ _ z)), .lst (SqL.of gg17) (dp_prs prs17), shaped_prs gdS, shaped_prs gdS, ?_⟩
    rw [eqv_prs gdS]
    have s1417 := s1416.trans s17
    refine ⟨_, rfl, _, rfl, sz1000 (by show 2 ≤ 1000; decide), fun t1 H18 f18 s18 g18 => ⟨sz1000 (by show 2 ≤ 1000; decide), fun t2 H19 f19 s19 g19 => ⟨sz1000 (by show 2 ≤ 1000; decide), fun lq H20 f20 m20 s20 g20 => ?_⟩⟩⟩
    have s1420 := s1417.trans (s18.trans (s19.trans s20))
    refine ⟨.list [.tuple [.str "item", .int 1], .tuple [.str "item", .int 0]], .list [.tuple [.str "item", .int 1], .tuple [.str "item", .int 0]],
      .lst (SqL.of (s1420 _ _ g14)) (.cons (.tup (SqT.of (s1420 _ _ g11')) (.cons (.str _) (.cons (.int _) .nil))) (.cons (.tup (SqT.of (s1420 _ _ g13')) (.cons (.str _) (.cons (.int _) .nil))) .nil)),
      .lst (SqL.of g20) (.cons (.tup (SqT.of ((s19.trans s20) _ _ g18)) (.cons (.str _) (.cons (.int _) .nil))) (.cons (.tup (SqT.of (s20 _ _ g19)) (.cons (.str _) (.cons (.int _) .nil))) .nil)), by decide +kernel, by decide +kernel, ?_⟩
    rw [show PyData.eqv (.list [.tuple [.str "item", .int 1], .tuple [.str "item", .int 0]]) (.list [.tuple [.str "item", .int 1], .tuple [.str "item", .int 0]]) = true from by decide +kernel]
    exact k H20 ((SF.same s1420).mono (by omega))
end
end K03
namespace K03
open PySem PySem.Spec PyProof.Rows L2 He Tw LamX
abbrev N_ref : List Str := ["_law_pen_here", "_law_pairs_here", "_law_values_here", "_law_at", "_law_more", "_law_bent", "_law_low"]
theorem sc_ref : FnScope N_ref ["_law_pen_here", "_law_pairs_here"] (defScope s_ref) := ⟨rfl, rfl, rfl, by decide +kernel, rfl, by decide +kernel, by decide +kernel⟩
theorem paired_take {α β : Type} {F : α → β → Prop} : ∀ {xs : List α} {ys : List β} (n : Nat), Paired F xs ys → Paired F (xs.take n) (ys.take n)
  | _, _, 0, _ => by rw [List.take_zero, List.take_zero]; exact .nil
  | _, _, _ + 1, .nil => .nil
  | _, _, n + 1, .cons h t => .cons h (paired_take n t)
theorem paired_drop {α β : Type} {F : α → β → Prop} : ∀ {xs : List α} {ys : List β} (n : Nat), Paired F xs ys → Paired F (xs.drop n) (ys.drop n)
  | _, _, 0, h => h
  | _, _, _ + 1, .nil => .nil
  | _, _, n + 1, .cons _ t => paired_drop n t
theorem vall_app {K : Fg} {H : Hp} {ys : List V} {us : List (Option (Int × Str))} (h2 : Vall K H ys us) : ∀ {xs : List V} {os : List (Option (Int × Str))}, Vall K H xs os → Vall K H (xs ++ ys) (os ++ us)
  | [], [], _ => h2
  | [], _ :: _, h => nomatch h.1
  | _ :: _, [], h => nomatch h.1
  | x :: xs, o :: os, h => by
    obtain ⟨o', e, hv⟩ := h.2 0 x rfl
    cases e
    refine vall_cons hv (vall_app h2 ⟨Nat.succ.inj h.1, fun i y hy => h.2 (i + 1) y hy⟩)
theorem tupK {X : Cx} (K : Fg) (h : X.K = K := by rfl) : CallR X (.type "tuple") (fun xs H Q => ∃ p ys, xs = [.ref p] ∧ ((SqL K H p ys ∧ ∀ l, H l = none → Q (.ref l) (upd H l (.tup ys))) ∨ (SqT K H p ys ∧ Q (.ref p) H))) := by
  subst h
  exact call_tuple_of
/-- what goes wrong is settled -/
theorem bad_item {ps : List (Int × Str)} {r : List (Option (Int × Str))} : Bad (ps.map some ++ none :: r) "BadItem" "part" (ps.length : Nat) := by
  refine .item (ps := ps) rfl (fun m q h => ?_) (by simp)
  have hm := (List.getElem?_eq_some_iff.mp h).1
  rw [List.getElem?_append_left (by rw [List.length_map]; exact hm), List.getElem?_map, h]
  rfl
theorem none_map {ps : List (Int × Str)} {n : Nat} (h : (ps.map some)[n]? = some none) : False := by
  rw [List.getElem?_map] at h
  cases q : ps[n]? with
  | none =>
    rw [q] at h
    cases h
  | some z =>
    rw [q] at h
    cases h
theorem item_only {ps : List (Int × Str)} {r : List (Option (Int × Str))} {x f : Str} {v : Int} (h : Bad (ps.map some ++ none :: r) x f v) : x = "BadItem" ∧ f = "part" ∧ v = (ps.length : Nat) := by
  have at_ : (ps.map some ++ none :: r)[ps.length]? = some none := by simp
  cases h with
  | @item n ps' h1 h2 h3 =>
    refine ⟨rfl, rfl, ?_⟩
    rcases Nat.lt_trichotomy n ps.length with z | z | z
    · rw [List.getElem?_append_left (by rw [List.length_map]; exact z)] at h3
      exact (none_map h3).elim
    · rw [z]
    · have hq : ps'[ps.length]? = some ps'[ps.length] := List.getElem?_eq_getElem (by omega)
      rw [h2 _ _ hq] at at_
      cases at_
  | order h0 h1 h2 h3 h4 =>
    rw [h0] at at_
    exact (none_map at_).elim
  | many h0 h1 h2 =>
    rw [h0] at at_
    exact (none_map at_).elim
theorem item_no {ps : List (Int × Str)} {r : List (Option (Int × Str))} (qs : List (Int × Str)) (h : ps.map some ++ none :: r = qs.map some) : False := by
  have at_ : (ps.map some ++ none :: r)[ps.length]? = some none := by simp
  rw [h] at at_
  exact none_map at_
theorem order_only {ps : List (Int × Str)} {k : Nat} {a b : Int × Str} (ha : ps[k]? = some a) (hb : ps[k + 1]? = some b) (hlt : b.1 < a.1) (up : Up ps k) {x f : Str} {v : Int} (h : Bad (ps.map some) x f v) : x = "Disordered" ∧ f = "at" ∧ v = 1 + (k : Int) := by
  cases h with
  | item h1 h2 h3 => exact (none_map h3).elim
  | @order k' ps' a' b' h0 h1 h2 h3 h4 =>
    have e := some_inj h0
    subst e
    refine ⟨rfl, rfl, ?_⟩
    rcases Nat.lt_trichotomy k k' with z | z | z
    · have := h4 k a b z ha hb
      omega
    · rw [z]
    · have := up k' a' b' z h1 h2
      omega
  | @many ps' h0 h1 h2 =>
    have e := some_inj h0
    subst e
    have := h1 k a b (by have := (List.getElem?_eq_some_iff.mp ha).1; omega) ha hb
    omega
/-- a row that cannot be, made by a lambda that is heard -/
theorem lam_row {K : Fg} {H0 H : Hp} {p l : Addr} {c i : Nat} {xs : List V} {os : List (Option (Int × Str))} {x f : Str} {v : Int} {t : XK → TE} {σ : L2.St} {R : VK} (S : LxK K H0 H p l c) (m : (x, i, f) ∈ errs)
    (uniq : ∀ x' f' v', Bad os x' f' v' → x' = x ∧ f' = f ∧ v' = v) (no : ∀ ps, os = ps.map some → Up ps ps.length → ps.length ≤ 200 → False) (few : xs.length ≤ 900) (vv : ∀ H', ExtN H H' → Vall K H' xs os)
    (rd : ∀ E H' Q', ExtN H H' → (∀ H'' q z dx, Same H' H'' → Seq K H'' q xs → H'' z = none → H'' dx = none → dx ≠ z → spRow K [.ref z, .ref q] (upd (upd H'' dx (.own z)) z (.ins (ga K "Row") dx [])) (fun v H2 => v = .non ∧ Q' (.ref z) H2) E) → t E σ H' Q')
    (k : ∀ q H', LxK K H0 H' p l c → ExtN H H' → H' q = some (.tup [.str (wordOf x), .int v]) → R (.ref q) H') : LamX.tLam (Tb K) (TTh K) t σ H R := by
  refine ⟨S.t, fun H7 e7 T7 E' Q' hE hQ => rd _ _ _ e7 fun H8 q z dx s8 sq hz hd hne => ?_⟩
  have s9 := same_made (o := .own z) (u := .ins (ga K "Row") dx []) hd hz hne
  have V8 := vv H8 (e7.trans (ExtN.of s8))
  refine ⟨z, q, dx, xs, os, rfl, upd_same, Src.same s9 ⟨sq, few, V8.1, V8.2⟩, fun ps e up few' H' ys b r i => absurd (no ps e up few') id, fun x' f' v' bad d H9 s10 g9 => ?_⟩
  obtain ⟨rfl, rfl, rfl⟩ := uniq _ _ _ bad
  refine hE _ _ _ ⟨(x', i, f'), v', d, m, rfl, rfl, g9, fun q10 H10 f10 s11 g10 => ?_⟩
  have s := s8.trans (s9.trans (s10.trans s11))
  exact k q10 H10 ((S.ext e7 T7).same s) (e7.trans (ExtN.of s)) g10
theorem pairD {z : Str} (hz : PyData.canLay0 (.str z) = true) (i : Int) : SeqAt.shaped (.tuple [.str z, .int i]) = true ∧ PyData.eqv (.tuple [.str z, .int i]) (.tuple [.str z, .int i]) = true := by
  constructor
  · simp [SeqAt.shaped, PyData.canLay0, PyData.canLayAll0, PyData.depth, PyData.depthAll] at hz ⊢
    try exact hz
  · simp [PyData.eqv, PyData.eqvAll]
theorem low_rank {q : Int × Str} (h : Gd q) : rankOk (.int (q.1 - 1)) = true := by
  have h1 := h.1
  unfold rankOk K03.beyond
  simp only [Bool.and_eq_true, decide_eq_true_eq]
  omega
theorem low_up {ps : List (Int × Str)} (up : Up ps ps.length) {j : Nat} {q : Int × Str} (hq : ps[j]? = some q) (a : Int × Str) : (ps.take (1 + j) ++ a :: ps.drop (1 + j))[j]? = some q ∧ (ps.take (1 + j) ++ a :: ps.drop (1 + j))[j + 1]? = some a ∧ Up (ps.take (1 + j) ++ a :: ps.drop (1 + j)) j := by
  have hj := (List.getElem?_eq_some_iff.mp hq).1
  have lt : (ps.take (1 + j)).length = 1 + j := by rw [List.length_take]; omega
  have old : ∀ m, m ≤ j → (ps.take (1 + j) ++ a :: ps.drop (1 + j))[m]? = ps[m]? := fun m hm => by
    rw [List.getElem?_append_left (by omega), List.getElem?_take_of_lt (by omega)]
  refine ⟨by rw [old j (Nat.le_refl _), hq], ?_, fun m x y hm hx hy => ?_⟩
  · rw [List.getElem?_append_right (by omega), show j + 1 - (ps.take (1 + j)).length = 0 by omega]
    rfl
  · rw [old m (by omega)] at hx
    rw [old (m + 1) (by omega)] at hy
    exact up m x y (by omega) hx hy
def spRefused (K : Fg) : Sp := fun vs H Q _ => ∃ (p l f : Addr) (ts : List V) (ps : List (Int × Str)) (c : Nat), vs = [.ref p, .ref f] ∧ PenL H p l c ∧ c ≤ 500000 ∧ H f = some (.lst ts) ∧ f ≠ p ∧ Prs H ts ps ∧ ps.length ≤ 100 ∧ Up ps ps.length ∧ (∀ q ∈ ps, Gd q) ∧ Tabs (Tb K) H ∧
  ∀ H', LxK K H H' p l (c + 200) → Q (.bl true) H'
section
variable {P : Program} {w : World} {K : Fg} {mg : Str → Option Value} {base : Heap} {fd : Nat → FuncData}
theorem G_ref (D : DefsK K fd) (T : Txt K mg) (TB : TabB base mg (Tw.codeAt K (ga K "_law_refused")) (tabAt K (ga K "_law_refused"))) :
    FnOk P w K mg base CX0 10 (ga K "_law_refused") (fd 29) ["_law_pen_here", "_law_pairs_here"] (spRefused K) := by
  have zlen : mg "len" = none := T.bl (by decide +kernel)
  have ztup : mg "tuple" = none := T.bl (by decide +kernel)
  have gR : mg "Row" = some (.ref (ga K "Row")) := T.cl (by decide +kernel)
  have gI : mg "Item" = some (.ref (ga K "Item")) := T.cl (by decide +kernel)
  have gH := T.fn (x := "_law_heard") (by decide +kernel)
  have gV := T.fn (x := "_law_values") (by decide +kernel)
  have gOd := T.fn (x := "_law_odd") (by decide +kernel)
  have gD := T.fn (x := "_law_draw") (by decide +kernel)
  have gPk := T.fn (x := "_law_pick") (by decide +kernel)
  obtain ⟨d2, I⟩ := itm (P := P) (w := w) (base := base) D T
  have FD : FnP K "_law_draw" "_law_draw" s_draw (ga K "_law_draw") (fd 18) := D 18 _ rfl
  have FPk : FnP K "_law_pick" "_law_pick" s_pick (ga K "_law_pick") (fd 19) := D 19 _ rfl
  have FV : FnP K "_law_values" "_law_values" s_values (ga K "_law_values") (fd 21) := D 21 _ rfl
  have FH : FnP K "_law_heard" "_law_heard" s_heard (ga K "_law_heard") (fd 23) := D 23 _ rfl
  have FOd : FnP K "_law_odd" "_law_odd" s_odd (ga K "_law_odd") (fd 24) := D 24 _ rfl
  have GD : FnOk P w K mg base CX0 1 _ (fd 18) ["_law_pen_here", "_law_many"] spDrawL := ok_draw FD T
  have GV : FnOk P w K mg base CX0 5 _ (fd 21) ["_law_pen_here", "_law_pairs_here"] (spValues K) := ok_values FV FD gD I T
  have GOd : FnOk P w K mg base CX0 3 _ (fd 24) ["_law_pen_here"] spOdd := ok_odd FOd FD gD FPk gPk T
  have GR : FnOk P w K mg base (L2.CX P w) 6 (ma K (ga K "Row") "__init__") (fd 6) ["self", "items"] (spRow K) := G_row D T
  have bD : Binds K (fd 18) ["_law_pen_here", "_law_many"] [] := FD.bindsN fun _ _ _ _ _ _ us hl => match us, hl with | [_, _], _ => rfl
  have bV : Binds K (fd 21) ["_law_pen_here", "_law_pairs_here"] [] := FV.bindsN fun _ _ _ _ _ _ us hl => match us, hl with | [_, _], _ => rfl
  have bh : Binds K (fd 23) ["_law_ask"] [] := FH.bindsN fun _ _ _ _ _ _ us hl => match us, hl with | [_], _ => rfl
  have bOd : Binds K (fd 24) ["_law_pen_here"] [] := FOd.bindsN fun _ _ _ _ _ _ us hl => match us, hl with | [_], _ => rfl
  have F : FnP K "_law_refused" "_law_refused" s_ref (ga K "_law_refused") (fd 29) := D 29 _ rfl
  obtain ⟨och, odh, dVh, kVh, doch, pmh, anh, cdh, cth, oslh, eh, lkh, hch, _, _⟩ := FH.ex
  obtain ⟨oc, od, dV, kV, doc, pm, an, cdv, ct, osl, e0, lk, hcd, _, _⟩ := F.ex
  rw [e0] at lk ⊢
  obtain ⟨cc, rfl⟩ := codeIn_ref hcd
  have ec : Tw.codeAt K (ga K "_law_refused") = cc := by
    unfold Tw.codeAt
    rw [lk]
  rw [ec] at TB
  rw [eh] at bh lkh
  have hmT : (tabAt K (ga K "_law_refused"), lamName "_law_refused" (defScope s_ref)) ∈ Tb K := List.mem_cons_of_mem _ (List.mem_cons_of_mem _ (List.mem_cons.mpr (.inl rfl)))
  refine fn_of lk hcd sc_ref (fun vs H Q E h => ?_) (fun A outer s H vs Q E hr h => ?_)
  · obtain ⟨p, l, f, ts, ps, c, rfl, _⟩ := h
    rfl
  · obtain ⟨p, l, f, ts, ps, c, rfl, hP, hc, hf, hfp, prs, hn, up, gd, hT, k⟩ := h
    refine ⟨_, PSs.nox (pss_cons (ps_set (i := 2) sc_ref.nd rfl (Or.inl rfl) (pe_call GV (hr.mono (by decide)) rfl gV FV.kp bV .nil pass0 (pa_cons (pv 0) (pa_cons (pv 1) pa_nil))))
    (pss_cons (ps_set (i := 3) sc_ref.nd rfl (Or.inl rfl) (pe_call GD (hr.mono (by decide)) rfl gD FD.kp bD .nil pass0 (pa_cons (pv 0) (pa_cons (pe_op op_add (pe_callB call_len (by rfl) zlen (by decide +kernel) (pa_cons (pv 2) pa_nil)) pe_int) pa_nil))))
    (pss_cons (ps_set (i := 4) sc_ref.nd rfl (Or.inl rfl) (pe_ix ix_list (pe_lstN (pa_cons (pe_lstN pa_nil) (pa_cons (pe_lstN (pa_cons (pe_call GOd (hr.mono (by decide)) rfl gOd FOd.kp bOd .nil pass0 (pa_cons (pv 0) pa_nil)) pa_nil)) (pa_cons (pe_lstN (pa_cons (pe_op op_add (pe_un un_neg (pe_op op_pow pe_int pe_int)) pe_int) pa_nil)) (pa_cons (pe_lstN (pa_cons pe_int (pa_cons pe_int pa_nil))) pa_nil))))) (pe_call GD (hr.mono (by decide)) rfl gD FD.kp bD .nil pass0 (pa_cons (pv 0) (pa_cons pe_int pa_nil))) (fun _ _ => rfl)))
    (pss_cons (ps_set (i := 5) sc_ref.nd rfl (Or.inr rfl) (pe_op op_catN (pe_op op_catN (pe_op op_catN (pe_slice sl_listN (pv 2) po_none (po_some (pv 3))) (pe_lstN (pa_cons (pe_call GOd (hr.mono (by decide)) rfl gOd FOd.kp bOd .nil pass0 (pa_cons (pv 0) pa_nil)) pa_nil))) (pe_slice sl_listN (pv 2) (po_some (pv 3)) po_none)) (pv 4)))
    (pss_cons (ps_if (pt_cmpR (op_neD hr.units) (LamX.pe_lamcall (T := Tb K) (TT := TTh K) (k := 7) rfl gH FH.kp lkh hch bh sc_heard rfl (.inl rfl) (heard_gives T trivial) TB rfl hmT (fun q hq e => tb_one T hq hmT e) (hr.mono (by decide)) (LamX.lamS_by (sc := defScope s_ref) (by decide +kernel)) rfl (fun _ _ _ _ _ => rfl)
        (fun A outer s H E f c' hr2 => pe_make (E := E) T.mkR GR (hr2.mono (by decide)) rfl gR (bRow D) .nil (passes_call (takes_of rfl rfl rfl rfl) (fun _ _ _ _ h => h)) (pa_cons (pv 5) pa_nil))) (pe_tupN (pa_cons pe_str (pa_cons (pv 3) pa_nil))) (nomark _)) (pss_one (ps_ret pe_bl)) pss_nil)
    (pss_cons (ps_if (pt_cmpR (op_neD hr.units) (LamX.pe_lamcall (T := Tb K) (TT := TTh K) (k := 7) rfl gH FH.kp lkh hch bh sc_heard rfl (.inl rfl) (heard_gives T trivial) TB rfl hmT (fun q hq e => tb_one T hq hmT e) (hr.mono (by decide)) (LamX.lamS_by (sc := defScope s_ref) (by decide +kernel)) rfl (fun _ _ _ _ _ => rfl)
        (fun A outer s H E f c' hr2 => pe_make (E := E) T.mkR GR (hr2.mono (by decide)) rfl gR (bRow D) .nil (passes_call (takes_of rfl rfl rfl rfl) (fun _ _ _ _ h => h)) (pa_cons (pe_callTy (tupK K) (by rfl) ztup (by decide +kernel) (pa_cons (pv 5) pa_nil)) pa_nil))) (pe_tupN (pa_cons pe_str (pa_cons (pv 3) pa_nil))) (nomark _)) (pss_one (ps_ret pe_bl)) pss_nil)
    (pss_cons (ps_if (pt_cmpR (op_eqD hr.units) (pv 1) (pe_lstN pa_nil) (nomark _)) (pss_one (ps_ret pe_bl)) pss_nil)
    (pss_cons (ps_set (i := 3) sc_ref.nd rfl (Or.inl rfl) (pe_op op_add pe_int (pe_call GD (hr.mono (by decide)) rfl gD FD.kp bD .nil pass0 (pa_cons (pv 0) (pa_cons (pe_callB call_len (by rfl) zlen (by decide +kernel) (pa_cons (pv 2) pa_nil)) pa_nil)))))
    (pss_cons (ps_set (i := 6) sc_ref.nd rfl (Or.inl rfl) (pe_ifExp (pt_cmpR op_gt (pe_ix ix_tup (pe_ix ix_list (pv 1) (pe_op op_sub (pv 3) pe_int) (fun _ _ => rfl)) pe_int (fun _ _ => rfl)) (pe_op op_sub pe_int (pe_op op_pow pe_int pe_int)) (nomark _)) (pe_make (E := E0) T.mkI I.ok (hr.mono (by decide)) rfl gI I.b .nil passL (pa_cons (pe_op op_sub (pe_ix ix_tup (pe_ix ix_list (pv 1) (pe_op op_sub (pv 3) pe_int) (fun _ _ => rfl)) pe_int (fun _ _ => rfl)) pe_int) (pa_cons pe_str pa_nil))) pe_non))
    (pss_cons (ps_set (i := 5) sc_ref.nd rfl (Or.inr rfl) (pe_op op_catN (pe_op op_catN (pe_slice sl_listN (pv 2) po_none (po_some (pv 3))) (pe_lstN (pa_cons (pv 6) pa_nil))) (pe_slice sl_listN (pv 2) (po_some (pv 3)) po_none)))
    (pss_one (ps_ret (pe_or (pe_cmpR op_isN (pv 6) pe_non (nomark _)) (pe_one (pe_cmpR (op_eqD hr.units) (LamX.pe_lamcall (T := Tb K) (TT := TTh K) (k := 7) rfl gH FH.kp lkh hch bh sc_heard rfl (.inl rfl) (heard_gives T trivial) TB rfl hmT (fun q hq e => tb_one T hq hmT e) (hr.mono (by decide)) (LamX.lamS_by (sc := defScope s_ref) (by decide +kernel)) rfl (fun _ _ _ _ _ => rfl)
        (fun A outer s H E f c' hr2 => pe_make (E := E) T.mkR GR (hr2.mono (by decide)) rfl gR (bRow D) .nil (passes_call (takes_of rfl rfl rfl rfl) (fun _ _ _ _ h => h)) (pa_cons (pv 5) pa_nil))) (pe_tupN (pa_cons pe_str (pa_cons (pv 3) pa_nil))) (nomark _)))))))))))))))), ?_⟩
    refine ⟨_, rfl, _, rfl, p, l, f, ts, ps, c, rfl, hP, by omega, hf, hfp, prs, by omega, gd, fun v H1 xs P1 B1 nv nvp gv vv => ?_⟩
    have lx : xs.length = ps.length := Paired.length vv
    refine ⟨_, rfl, _, rfl, _, _, rfl, .inl ⟨_, SqL.of gv, rfl⟩, _, _, rfl, rfl, p, l, ((xs.length : Nat) : Int) + 1, _, rfl, by omega, by omega, P1, by omega, fun at0 H2 a0 a1 P2 B2 => ?_⟩
    obtain ⟨n, rfl⟩ : ∃ n : Nat, at0 = (n : Int) := ⟨at0.toNat, by omega⟩
    have nl : n ≤ ps.length := by omega
    have S2 : LxK K H H2 p l (c + ps.length + 1) := ((Lx.mk hT hP (ButN.refl p H)).pen B1 P1).pen B2 P2
    have gv2 : H2 v = some (.lst xs) := B2 _ _ gv nvp
    -- more
    refine ⟨sz1000 (by show 0 ≤ 1000; decide), fun e1 H3 f3 m3 s3 g3 => ?_⟩
    have S3 := S2.same s3
    refine ⟨_, rfl, p, l, _, rfl, S3.P, by omega, fun w1 H4 P4 B4 O4 => ⟨sz1000 (by show 1 ≤ 1000; decide), fun e2 H5 f5 m5 s5 g5 => ?_⟩⟩
    have S5 := (S3.pen B4 P4).same s5
    refine ⟨_, _, rfl, rfl, ⟨by decide, by decide, by decide⟩, _, rfl, _, _, rfl, rfl, sz1000 (by show 1 ≤ 1000; decide), fun e3 H6 f6 m6 s6 g6 => ?_⟩
    refine ⟨sz1000 (by show 2 ≤ 1000; decide), fun e4 H7 f7 m7 s7 g7 => ⟨sz1000 (by show 4 ≤ 1000; decide), fun e5 H8 f8 m8 s8 g8 => ?_⟩⟩
    have S8 := ((S5.same s6).same s7).same s8
    refine ⟨_, rfl, p, l, 4, _, rfl, by decide, by decide, S8.P, by omega, fun r4 H9 r0 r1 P9 B9 => ?_⟩
    have S9 := S8.pen B9 P9
    have ne1 : e1 ≠ p := (S2.P.new f3).1
    have ne2 : e2 ≠ p := (P4.new f5).1
    have ne3 : e3 ≠ p := (S5.P.new f6).1
    have ne4 : e4 ≠ p := ((S5.same s6).P.new f7).1
    have ne5 : e5 ≠ p := (((S5.same s6).same s7).P.new f8).1
    have s58 := s6.trans (s7.trans s8)
    have k1 : H9 e1 = some (.lst []) := B9 _ _ ((s5.trans s58) _ _ (B4 _ _ g3 ne1)) ne1
    have k2 := B9 _ _ (s58 _ _ g5) ne2
    have k3 := B9 _ _ ((s7.trans s8) _ _ g6) ne3
    have k4 := B9 _ _ (s8 _ _ g7) ne4
    have k5 := B9 _ _ g8 ne5
    have o9 : Odd H9 p w1 := oddB (ButN.but ((But.of (s5.trans s58)).trans B9)) O4
    obtain ⟨e, zs, os4, hix, ge, nep, lz, va⟩ : ∃ (e : Addr) (zs : List V) (os4 : List (Option (Int × Str))), ([V.ref e1, .ref e2, .ref e3, .ref e4] : List V)[r4.toNat]? = some (V.ref e) ∧ H9 e = some (.lst zs) ∧ e ≠ p ∧ zs.length ≤ 2 ∧ ∀ H', ButN p H9 H' → Vall K H' zs os4 := by
      have h4 : r4.toNat < 4 := by omega
      match r4.toNat, h4 with
      | 0, _ => exact ⟨e1, [], [], rfl, k1, ne1, by decide, fun _ _ => vall_nil⟩
      | 1, _ => exact ⟨e2, _, [none], rfl, k2, ne2, by show 1 ≤ 2; decide, fun H' b => vall_cons (oddB b o9).vv vall_nil⟩
      | 2, _ => exact ⟨e3, _, [some (_, "")], rfl, k3, ne3, by show 1 ≤ 2; decide, fun H' b => vall_cons (.int (by decide +kernel)) vall_nil⟩
      | 3, _ => exact ⟨e4, _, [some (_, ""), some (_, "")], rfl, k4, ne4, by show 2 ≤ 2; decide, fun H' b => vall_cons (.int (by decide +kernel)) (vall_cons (.int (by decide +kernel)) vall_nil)⟩
    refine ⟨e5, _, r4, _, rfl, rfl, SqL.of k5, atI_of r0 hix, ?_⟩
    have b29 : ButN p H2 H9 := ButN.but ((((But.of s3).trans B4).trans (But.of (s5.trans s58))).trans B9)
    have gv9 : H9 v = some (.lst xs) := b29 _ _ gv2 nvp (fun _ z => nomatch z)
    have vv9 : Vals' K H9 xs ps := valsB b29 P2 (valsB (ButN.but B2) P1 vv)
    -- bent
    have ltk : (xs.take n).length ≤ 100 := by rw [List.length_take]; omega
    have ldr : (xs.drop n).length ≤ 100 := by rw [List.length_drop]; omega
    refine ⟨_, rfl, _, rfl, _, rfl, v, xs, rfl, SqL.of gv9, fun b1 H10 f10 s10 g10 => ?_⟩
    rw [cutTake] at g10
    have S10 := S9.same s10
    refine ⟨_, rfl, p, l, _, rfl, S10.P, by omega, fun w2 H11 P11 B11 O11 => ⟨sz1000 (by show 1 ≤ 1000; decide), fun b2 H12 f12 m12 s12 g12 => ?_⟩⟩
    have S12 := (S10.pen B11 P11).same s12
    have nb1 : b1 ≠ p := (S9.P.new f10).1
    refine ⟨b1, b2, _, _, rfl, rfl, s12 _ _ (B11 _ _ g10 nb1), g12, sz1000 (by show (xs.take n).length + 1 ≤ 1000; omega), fun b3 H13 f13 m13 s13 g13 => ?_⟩
    have gv13 : H13 v = some (.lst xs) := (s12.trans s13) _ _ (B11 _ _ (s10 _ _ gv9) nvp)
    refine ⟨_, rfl, _, rfl, _, rfl, v, xs, rfl, SqL.of gv13, fun b4 H14 f14 s14 g14 => ?_⟩
    rw [cutDrop] at g14
    refine ⟨b3, b4, _, _, rfl, rfl, s14 _ _ g13, g14, sz1000 (by rw [List.length_append]; show (xs.take n).length + 1 + _ ≤ 1000; omega), fun b5 H15 f15 m15 s15 g15 => ?_⟩
    have s1215 := s13.trans (s14.trans s15)
    refine ⟨_, rfl, b5, e, _, _, rfl, rfl, g15, (s12.trans s1215) _ _ (B11 _ _ (s10 _ _ ge) nep), sz1000 (by rw [List.length_append, List.length_append]; show (xs.take n).length + 1 + _ + _ ≤ 1000; omega), fun b6 H16 f16 m16 s16 g16 => ?_⟩
    have s1216 := s1215.trans s16
    have S16 := S12.same s1216
    have b1116 : ButN p H11 H16 := ButN.but (But.of (s12.trans s1216))
    have b916 : ButN p H9 H16 := (ButN.but ((But.of s10).trans B11)).trans b1116
    have o16 : Odd H16 p w2 := oddB b1116 O11
    have vv16 : Vals' K H16 xs ps := valsB b916 S9.P vv9
    have eB : xs.take n ++ [w2] ++ xs.drop n ++ zs = xs.take n ++ w2 :: (xs.drop n ++ zs) := by simp
    rw [eB] at g16
    have lB : (xs.take n ++ w2 :: (xs.drop n ++ zs)).length ≤ 900 := by
      rw [List.length_append, List.length_cons, List.length_append]
      omega
    have lps : (ps.take n).length = n := by rw [List.length_take]; omega
    have vB : ∀ H', ExtN H16 H' → Vall K H' (xs.take n ++ w2 :: (xs.drop n ++ zs)) ((ps.take n).map some ++ none :: ((ps.drop n).map some ++ os4)) := fun H' x => by
      have vv' : Vals' K H' xs ps := valsB (ButN.of x) S16.P vv16
      exact vall_app (vall_cons (oddB (ButN.of x) o16).vv (vall_app (va H' (b916.trans (ButN.of x))) (vall_vals (paired_drop n vv')))) (vall_vals (paired_take n vv'))
    have w1' : wordOf "BadItem" = "item" := by decide +kernel
    have w2' : wordOf "Disordered" = "order" := by decide +kernel
    have cl1 : PyData.canLay0 (.str "item") = true := by decide +kernel
    have cl2 : PyData.canLay0 (.str "order") = true := by decide +kernel
    refine lam_row (i := 5) (x := "BadItem") (f := "part") (v := ((ps.take n).length : Nat)) S16 (by decide +kernel) (fun _ _ _ h => item_only h) (fun q e _ _ => item_no q e) lB vB (fun E H' Q' x h => ⟨_, rfl, fun z dx hz hd hne => h H' b6 z dx (fun _ _ q => q) (.inl (SqL.of (x _ _ g16 (fun _ z => nomatch z)))) hz hd hne⟩) fun q17 H17 S17 e17 g17 => ?_
    rw [w1', lps] at g17
    refine ⟨_, rfl, sz1000 (by show 2 ≤ 1000; decide), fun r18 H18 f18 s18 g18 => ⟨_, _, .tup (SqT.of (s18 _ _ g17)) (.cons (.str _) (.cons (.int _) .nil)), .tup (SqT.of g18) (.cons (.str _) (.cons (.int _) .nil)), (pairD cl1 n).1, (pairD cl1 n).1, ?_⟩⟩
    rw [(pairD cl1 n).2]
    refine ⟨_, rfl, iteF ?_⟩
    have S18 := S17.same s18
    have x18 : ExtN H16 H18 := e17.trans (ExtN.of s18)
    refine lam_row (i := 5) (x := "BadItem") (f := "part") (v := ((ps.take n).length : Nat)) S18 (by decide +kernel) (fun _ _ _ h => item_only h) (fun q e _ _ => item_no q e) lB (fun H' x => vB H' (x18.trans x)) (fun E H' Q' x h => ⟨_, rfl, b6, _, rfl, .inl ⟨SqL.of ((x18.trans x) _ _ g16 (fun _ z => nomatch z)), fun l hl z dx hz hd hne => h _ l z dx (same_new hl) (.inr (.inl (SqT.of upd_same))) hz hd hne⟩⟩) fun q19 H19 S19 e19 g19 => ?_
    rw [w1', lps] at g19
    refine ⟨_, rfl, sz1000 (by show 2 ≤ 1000; decide), fun r20 H20 f20 s20 g20 => ⟨_, _, .tup (SqT.of (s20 _ _ g19)) (.cons (.str _) (.cons (.int _) .nil)), .tup (SqT.of g20) (.cons (.str _) (.cons (.int _) .nil)), (pairD cl1 n).1, (pairD cl1 n).1, ?_⟩⟩
    rw [(pairD cl1 n).2]
    refine ⟨_, rfl, iteF ?_⟩
    have S20 := S19.same s20
    have x20 : ExtN H16 H20 := x18.trans (e19.trans (ExtN.of s20))
    have hf20 : H20 f = some (.lst ts) := S20.b _ _ hf hfp (fun _ z => nomatch z)
    have prs20 : Prs H20 ts ps := prsB S20.b hP prs
    have vv20 : Vals' K H20 xs ps := valsB (ButN.of x20) S16.P vv16
    have gv20 : H20 v = some (.lst xs) := x20 _ _ (s1216 _ _ (s12 _ _ (B11 _ _ (s10 _ _ gv9) nvp))) (fun _ z => nomatch z)
    clear x18 e17 e19 g17 g19 g18 g20 S17 S18 S19 vB
    refine ⟨_, rfl, sz1000 (by show 0 ≤ 1000; decide), fun n21 H21 f21 m21 s21 g21 => ⟨.list (ps.map pd), .list [], .lst (SqL.of (s21 _ _ hf20)) (dp_prs (prs20.keep fun t xs z => s21 _ _ z)), .lst (SqL.of g21) .nil, shaped_prs gd, by decide +kernel, _, rfl, ?_⟩⟩
    have S21 := S20.same s21
    refine ite2 (fun hz => ?_) (fun hz => ?_)
    · exact k H21 (S21.mono (by omega))
    have hpos : 0 < ps.length := by
      cases ps with
      | nil => exact absurd (by decide +kernel) hz
      | cons _ _ => exact Nat.succ_pos _
    refine ⟨_, rfl, _, rfl, _, _, rfl, .inl ⟨_, SqL.of (s21 _ _ gv20), rfl⟩, p, l, ((xs.length : Nat) : Int), _, rfl, by omega, by omega, S21.P, by omega, fun r22 H22 r0' r1' P22 B22 => ⟨_, _, rfl, rfl, ?_⟩⟩
    have S22 := S21.pen B22 P22
    obtain ⟨j, rfl⟩ : ∃ j : Nat, r22 = (j : Int) := ⟨r22.toNat, by omega⟩
    have hj : j < ps.length := by omega
    have b2022 : ButN p H20 H22 := ButN.but ((But.of s21).trans B22)
    have hf22 : H22 f = some (.lst ts) := b2022 _ _ hf20 hfp (fun _ z => nomatch z)
    have gv22 : H22 v = some (.lst xs) := b2022 _ _ gv20 nvp (fun _ z => nomatch z)
    have prs22 : Prs H22 ts ps := prsB b2022 S20.P prs20
    have vv22 : Vals' K H22 xs ps := valsB b2022 S20.P vv20
    have lts : ts.length = ps.length := Paired.length prs22
    obtain ⟨t, q, ett, eqq, ht⟩ := prs_at prs22 (List.getElem?_eq_getElem (show j < ts.length by omega))
    have hix : ts[j]? = some (V.ref t) := by rw [List.getElem?_eq_getElem (show j < ts.length by omega), ett]
    have gq := gd q (List.mem_of_getElem? eqq)
    have e1 : (1 : Int) + (j : Int) = ((1 + j : Nat) : Int) := by omega
    have at_ : atI ts ((1 : Int) + (j : Int) - 1) = some (V.ref t) := by
      rw [show (1 : Int) + (j : Int) - 1 = (j : Int) by omega]
      exact atI_of (by omega) hix
    refine ⟨_, rfl, _, rfl, _, _, rfl, rfl, f, ts, _, _, rfl, rfl, SqL.of hf22, at_, t, _, 0, _, rfl, rfl, SqT.of ht, rfl, _, _, rfl, rfl, ⟨by decide, by decide, by decide⟩, _, _, rfl, rfl, _, _, rfl, rfl, _, rfl, ?_⟩
    refine ite2 (fun _ => ?_) (fun hz => absurd (decide_eq_true ?_) hz)
    · refine ⟨_, rfl, _, rfl, _, _, rfl, rfl, f, ts, _, _, rfl, rfl, SqL.of hf22, at_, t, _, 0, _, rfl, rfl, SqT.of ht, rfl, _, _, rfl, rfl, ?_⟩
      refine fun x dx hx hd hne => item_mk hx hd hne (low_rank gq) (by decide +kernel) (by decide) fun H23 I23 s23 => ⟨rfl, ?_⟩
      have S23 := S22.same s23
      have gv23 := s23 _ _ gv22
      refine ⟨_, rfl, _, rfl, _, rfl, v, xs, rfl, SqL.of gv23, fun b1' H24 f24 s24 g24 => ?_⟩
      rw [e1, cutTake] at g24
      refine ⟨_, rfl, sz1000 (by show 1 ≤ 1000; decide), fun b2' H25 f25 m25 s25 g25 => ?_⟩
      have lt2 : (xs.take (1 + j)).length ≤ 100 := by rw [List.length_take]; omega
      have ld2 : (xs.drop (1 + j)).length ≤ 100 := by rw [List.length_drop]; omega
      refine ⟨b1', b2', _, _, rfl, rfl, s25 _ _ g24, g25, sz1000 (by show (xs.take (1 + j)).length + 1 ≤ 1000; omega), fun b3' H26 f26 m26 s26 g26 => ?_⟩
      refine ⟨_, rfl, _, rfl, _, rfl, v, xs, rfl, SqL.of ((s24.trans (s25.trans s26)) _ _ gv23), fun b4' H27 f27 s27 g27 => ?_⟩
      rw [e1, cutDrop] at g27
      refine ⟨b3', b4', _, _, rfl, rfl, s27 _ _ g26, g27, sz1000 (by rw [List.length_append]; show (xs.take (1 + j)).length + 1 + _ ≤ 1000; omega), fun b5' H28 f28 m28 s28 g28 => ?_⟩
      have s2328 := s24.trans (s25.trans (s26.trans (s27.trans s28)))
      have S28 := S23.same s2328
      have eB2 : xs.take (1 + j) ++ [V.ref x] ++ xs.drop (1 + j) = xs.take (1 + j) ++ V.ref x :: xs.drop (1 + j) := by simp
      rw [eB2] at g28
      obtain ⟨o1, o2, o3⟩ := low_up up eqq (q.1 - 1, "low")
      have lB2 : (xs.take (1 + j) ++ V.ref x :: xs.drop (1 + j)).length ≤ 900 := by
        rw [List.length_append, List.length_cons]
        omega
      have vv28 : Vals' K H28 xs ps := vv22.keep fun a dx i z e => s2328 _ _ (s23 _ _ e)
      have I28 : It K H28 x (q.1 - 1) "low" := I23.same s2328
      have vB2 : ∀ H', ExtN H28 H' → Vall K H' (xs.take (1 + j) ++ V.ref x :: xs.drop (1 + j)) ((ps.take (1 + j) ++ ((q.1 - 1, "low") : Int × Str) :: ps.drop (1 + j)).map some) := fun H' y => by
        have vv' : Vals' K H' xs ps := valsB (ButN.of y) S28.P vv28
        obtain ⟨dI, hI⟩ := I28
        rw [List.map_append, List.map_cons]
        exact vall_app (vall_cons (.item ⟨dI, y _ _ hI (fun _ z => nomatch z)⟩) (vall_vals (paired_drop (1 + j) vv'))) (vall_vals (paired_take (1 + j) vv'))
      refine ⟨_, rfl, rfl, _, rfl, ?_⟩
      refine ite2 (fun hz => absurd (of_decide_eq_true hz) (fun z => nomatch z)) (fun _ => ?_)
      refine lam_row (i := 7) (x := "Disordered") (f := "at") (v := 1 + (j : Int)) S28 (by decide +kernel) (fun _ _ _ h => order_only o1 o2 (by show q.1 - 1 < q.1; omega) o3 h) (fun qs e u _ => ?_) lB2 vB2 (fun E H' Q' y h => ⟨_, rfl, fun z dx hz hd hne => h H' b5' z dx (fun _ _ q => q) (.inl (SqL.of (y _ _ g28 (fun _ z => nomatch z)))) hz hd hne⟩) fun q29 H29 S29 e29 g29 => ?_
      · have e' := some_inj e
        rw [← e'] at u
        have hl := (List.getElem?_eq_some_iff.mp o2).1
        have z := u j _ _ (by omega) o1 o2
        have z' : q.1 ≤ q.1 - 1 := z
        omega
      rw [w2'] at g29
      refine ⟨_, rfl, sz1000 (by show 2 ≤ 1000; decide), fun r30 H30 f30 s30 g30 => ⟨_, _, .tup (SqT.of (s30 _ _ g29)) (.cons (.str _) (.cons (.int _) .nil)), .tup (SqT.of g30) (.cons (.str _) (.cons (.int _) .nil)), (pairD cl2 _).1, (pairD cl2 _).1, ?_⟩⟩
      rw [(pairD cl2 _).2]
      exact k H30 ((S29.same s30).mono (by omega))
    · have h1 := gq.1
      show (1 : Int) - 10 ^ (30 : Int).toNat < q.1
      have h2 : (10 : Int) ^ (30 : Int).toNat = 10 ^ 30 := rfl
      rw [h2]
      omega
end
end K03
namespace Tw
open PySem PySem.Spec PyProof.Rows L2 He
/-- xs * k, the new list in an abstract heap -/
def rRepN : R2 := fun x y H Q => ∃ l k xs, x = .ref l ∧ y = .int k ∧ H l = some (.lst xs) ∧ (-(2 ^ 63) ≤ k ∧ k < 2 ^ 63) ∧ xs.length * k.toNat ≤ sizeLine ∧ ∀ (p : Addr) (H' : Hp), H p = none → Same H H' → H' p = some (.lst (List.replicate k.toNat xs).flatten) → Q (.ref p) H'
theorem op_repN {X : Cx} : OpR X (binaryOp .Mult) rRepN := by
  intro pins s σ H x y v u Q I rx ry h
  obtain ⟨l, k, xs, e1, e2, h1, ⟨h2, h3⟩, h4, q⟩ := h
  exact op_rep pins s σ H x y v u Q I rx ry ⟨l, k, xs, e1, e2, h1, h2, h3, h4, fun p hp => q p _ hp (same_new hp) upd_same⟩
theorem rep_one {α : Type} (x : α) : ∀ n : Nat, (List.replicate n [x]).flatten = List.replicate n x
  | 0 => rfl
  | n + 1 => by rw [List.replicate_succ, List.flatten_cons, rep_one x n, List.replicate_succ]; rfl
end Tw
namespace K03
open PySem PySem.Spec PyProof.Rows L2 He Tw LamX
open ClX (pe_cval)
abbrev N_law : List Str := ["_law_script", "_law_pen_here", "_law_turn", "_law_pairs_here", "_law_rank", "_law_heard_here"]
theorem sc_law : FnScope N_law ["_law_script"] (defScope s_law) := ⟨rfl, rfl, rfl, by decide +kernel, rfl, by decide +kernel, by decide +kernel⟩
def spLaw (K : Fg) : Sp := fun vs H Q _ => ∃ (a : Addr) (ns : List Int), vs = [.ref a] ∧ SqL K H a (ns.map V.int) ∧ ns.length ≤ 63 ∧ Tabs (Tb K) H ∧ ∀ H', Q (.bl true) H'
theorem many_only {ps : List (Int × Str)} (up : Up ps ps.length) (big : 200 < ps.length) {x f : Str} {v : Int} (h : Bad (ps.map some) x f v) : x = "TooMany" ∧ f = "most" ∧ v = 200 := by
  cases h with
  | item h1 h2 h3 => exact (none_map h3).elim
  | @order k' ps' a' b' h0 h1 h2 h3 h4 =>
    have e := some_inj h0
    subst e
    have := up k' a' b' (by have := (List.getElem?_eq_some_iff.mp h1).1; omega) h1 h2
    omega
  | many h0 h1 h2 => exact ⟨rfl, rfl, rfl⟩
theorem vals_rep {K : Fg} {H : Hp} {r : Int} (h : rankOk (.int r) = true) : ∀ n : Nat, Vals' K H (List.replicate n (V.int r)) (List.replicate n (r, ""))
  | 0 => .nil
  | n + 1 => .cons (.int h) (vals_rep h n)
theorem up_rep {r : Int} {z : Str} {n m : Nat} : Up (List.replicate n (r, z)) m := fun k a b _ ha hb => by
  rw [List.getElem?_replicate] at ha hb
  split at ha
  · split at hb
    · cases ha
      cases hb
      exact Int.le_refl _
    · cases hb
  · cases ha
theorem up_app {r : Int} {z : Str} {n m : Nat} {us : List (Int × Str)} (h : m < n) : Up (List.replicate n (r, z) ++ us) m := fun k a b hk ha hb => by
  rw [List.getElem?_append_left (by rw [List.length_replicate]; omega)] at ha hb
  exact up_rep (n := n) (m := m) k a b hk ha hb
theorem rank_of {r : Int} (h0 : -1 ≤ r) (h1 : r < 10 ^ 6) : rankOk (.int r) = true := by
  unfold rankOk K03.beyond
  simp only [Bool.and_eq_true, decide_eq_true_eq]
  omega
section
variable {P : Program} {w : World} {K : Fg} {mg : Str → Option Value} {base : Heap} {fd : Nat → FuncData}
theorem G_law (D : DefsK K fd) (T : Txt K mg) (TO : TabB base mg (Tw.codeAt K (cmAt K "Row" "of")) (tabAt K (cmAt K "Row" "of"))) (TR : TabB base mg (Tw.codeAt K (ga K "_law_of_right")) (tabAt K (ga K "_law_of_right")))
    (TF : TabB base mg (Tw.codeAt K (ga K "_law_refused")) (tabAt K (ga K "_law_refused"))) (TB : TabB base mg (Tw.codeAt K (ga K "law")) (tabAt K (ga K "law"))) : FnOk P w K mg base CX0 12 (ga K "law") (fd 30) ["_law_script"] (spLaw K) := by
  have zlen : mg "len" = none := T.bl (by decide +kernel)
  have zrange : mg "range" = none := T.bl (by decide +kernel)
  have gR : mg "Row" = some (.ref (ga K "Row")) := T.cl (by decide +kernel)
  have gH := T.fn (x := "_law_heard") (by decide +kernel)
  have gD := T.fn (x := "_law_draw") (by decide +kernel)
  have gPk := T.fn (x := "_law_pick") (by decide +kernel)
  have gPn := T.fn (x := "_law_pen") (by decide +kernel)
  have gPr := T.fn (x := "_law_pairs") (by decide +kernel)
  have gMd := T.fn (x := "_law_made_right") (by decide +kernel)
  have gOf := T.fn (x := "_law_of_right") (by decide +kernel)
  have gRf := T.fn (x := "_law_refused") (by decide +kernel)
  obtain ⟨d2, I⟩ := itm (P := P) (w := w) (base := base) D T
  obtain ⟨d0, r0, b0⟩ := bRow0 (K := K) D
  have FPn : FnP K "_law_pen" "_law_pen" s_pen (ga K "_law_pen") (fd 17) := D 17 _ rfl
  have FD : FnP K "_law_draw" "_law_draw" s_draw (ga K "_law_draw") (fd 18) := D 18 _ rfl
  have FPk : FnP K "_law_pick" "_law_pick" s_pick (ga K "_law_pick") (fd 19) := D 19 _ rfl
  have FPr : FnP K "_law_pairs" "_law_pairs" s_pairs (ga K "_law_pairs") (fd 20) := D 20 _ rfl
  have FV : FnP K "_law_values" "_law_values" s_values (ga K "_law_values") (fd 21) := D 21 _ rfl
  have FT : FnP K "_law_told" "_law_told" s_told (ga K "_law_told") (fd 22) := D 22 _ rfl
  have FH : FnP K "_law_heard" "_law_heard" s_heard (ga K "_law_heard") (fd 23) := D 23 _ rfl
  have FMd : FnP K "_law_made_right" "_law_made_right" s_made (ga K "_law_made_right") (fd 27) := D 27 _ rfl
  have FOf : FnP K "_law_of_right" "_law_of_right" s_ofr (ga K "_law_of_right") (fd 28) := D 28 _ rfl
  have FRf : FnP K "_law_refused" "_law_refused" s_ref (ga K "_law_refused") (fd 29) := D 29 _ rfl
  have M := mths (K := K) D
  have G_pen : FnOk P w K mg base CX0 1 _ (fd 17) ["_law_script"] (spPenL K) := ok_pen FPn T
  have GD : FnOk P w K mg base CX0 1 _ (fd 18) ["_law_pen_here", "_law_many"] spDrawL := ok_draw FD T
  have GPr : FnOk P w K mg base CX0 3 _ (fd 20) ["_law_pen_here", "_law_most"] spPairs := ok_pairs FPr FD gD FPk gPk T
  have GR : FnOk P w K mg base (L2.CX P w) 6 (ma K (ga K "Row") "__init__") (fd 6) ["self", "items"] (spRow K) := G_row D T
  have GMd : FnOk P w K mg base CX0 8 _ (fd 27) ["_law_pen_here", "_law_pairs_here"] (spMade K) := ok_made FMd FD gD FV (T.fn (x := "_law_values") (by decide +kernel)) FT (T.fn (x := "_law_told") (by decide +kernel)) I (rws D T) M T
  have GOf : FnOk P w K mg base CX0 11 _ (fd 28) ["_law_pen_here", "_law_pairs_here"] (spOfR K) := G_ofr D T TO TR
  have GRf : FnOk P w K mg base CX0 10 _ (fd 29) ["_law_pen_here", "_law_pairs_here"] (spRefused K) := G_ref D T TF
  have G_lst : FnOk P w K mg base CX0 1 _ (fd 9) ["self"] (spListed K) := ok_lst M.lst T
  have G_len : FnOk P w K mg base CX0 1 _ (fd 8) ["self"] (spLen K) := ok_len M.len T
  have G_eq : FnOk P w K mg base CX0 2 _ (fd 11) ["self", "other"] (spEqR K) := ok_eqr M.eq M.rks T
  have bPn : Binds K (fd 17) ["_law_script"] [] := FPn.bindsN fun _ _ _ _ _ _ us hl => match us, hl with | [_], _ => rfl
  have bD : Binds K (fd 18) ["_law_pen_here", "_law_many"] [] := FD.bindsN fun _ _ _ _ _ _ us hl => match us, hl with | [_, _], _ => rfl
  have bPr : Binds K (fd 20) ["_law_pen_here", "_law_most"] [] := FPr.bindsN fun _ _ _ _ _ _ us hl => match us, hl with | [_, _], _ => rfl
  have bh : Binds K (fd 23) ["_law_ask"] [] := FH.bindsN fun _ _ _ _ _ _ us hl => match us, hl with | [_], _ => rfl
  have bMd : Binds K (fd 27) ["_law_pen_here", "_law_pairs_here"] [] := FMd.bindsN fun _ _ _ _ _ _ us hl => match us, hl with | [_, _], _ => rfl
  have bOf : Binds K (fd 28) ["_law_pen_here", "_law_pairs_here"] [] := FOf.bindsN fun _ _ _ _ _ _ us hl => match us, hl with | [_, _], _ => rfl
  have bRf : Binds K (fd 29) ["_law_pen_here", "_law_pairs_here"] [] := FRf.bindsN fun _ _ _ _ _ _ us hl => match us, hl with | [_, _], _ => rfl
  have b_lst : Binds K (fd 9) ["self"] [] := M.lst.bindsN fun _ _ _ _ _ _ us hl => match us, hl with | [_], _ => rfl
  have b_len : Binds K (fd 8) ["self"] [] := M.len.bindsN fun _ _ _ _ _ _ us hl => match us, hl with | [_], _ => rfl
  have b_eq : Binds K (fd 11) ["self", "other"] [] := M.eq.bindsN fun _ _ _ _ _ _ us hl => match us, hl with | [_, _], _ => rfl
  have mL := T.mtR (m := "listed") (by decide +kernel)
  have mN := T.mtR (m := "__len__") (by decide +kernel)
  have mE := T.mtR (m := "__eq__") (by decide +kernel)
  obtain ⟨um, hum⟩ := T.cmost
  have F : FnP K "law" "law" s_law (ga K "law") (fd 30) := D 30 _ rfl
  obtain ⟨och, odh, dVh, kVh, doch, pmh, anh, cdh, cth, oslh, eh, lkh, hch, _, _⟩ := FH.ex
  obtain ⟨oc, od, dV, kV, doc, pm, an, cdv, ct, osl, e0, lk, hcd, _, _⟩ := F.ex
  rw [e0] at lk ⊢
  obtain ⟨cc, rfl⟩ := codeIn_ref hcd
  have ec : Tw.codeAt K (ga K "law") = cc := by
    unfold Tw.codeAt
    rw [lk]
  rw [ec] at TB
  rw [eh] at bh lkh
  have hmT : (tabAt K (ga K "law"), lamName "law" (defScope s_law)) ∈ Tb K := List.mem_cons_of_mem _ (List.mem_cons_of_mem _ (List.mem_cons_of_mem _ (List.mem_cons.mpr (.inl rfl))))
  refine fn_of lk hcd sc_law (fun vs H Q E h => ?_) (fun A outer s H vs Q E hr h => ?_)
  · obtain ⟨a, ns, rfl, _⟩ := h
    rfl
  · obtain ⟨a, ns, rfl, hS, hn, hT, k⟩ := h
    refine ⟨_, PSs.nox (pss_cons (ps_set (i := 1) sc_law.nd rfl (Or.inl rfl) (pe_call G_pen (hr.mono (by decide)) rfl gPn FPn.kp bPn .nil pass0 (pa_cons (pv 0) pa_nil)))
    (pss_cons (ps_for PassesOwn.never rfl (pi_range1 rfl zrange (pa_cons pe_int pa_nil)) (pg_name (i := 2) sc_law.nd rfl (Or.inl rfl))
    (pss_cons (ps_set (i := 3) sc_law.nd rfl (Or.inl rfl) (pe_call GPr (hr.mono (by decide)) rfl gPr FPr.kp bPr .nil pass0 (pa_cons (pv 1) (pa_cons pe_int pa_nil))))
    (pss_one (ps_if (PW.pt (pw_or (pt_not (pt_val (pe_call GMd (hr.mono (by decide)) rfl gMd FMd.kp bMd .nil pass0 (pa_cons (pv 1) (pa_cons (pv 3) pa_nil))))) (pw_or (pt_not (pt_val (pe_call GOf (hr.mono (by decide)) rfl gOf FOf.kp bOf .nil pass0 (pa_cons (pv 1) (pa_cons (pv 3) pa_nil))))) (pw_or1 (pt_not (pt_val (pe_call GRf (hr.mono (by decide)) rfl gRf FRf.kp bRf .nil pass0 (pa_cons (pv 1) (pa_cons (pv 3) pa_nil))))))))) (pss_one (ps_ret pe_bl)) pss_nil))))
    (pss_cons (ps_set (i := 4) sc_law.nd rfl (Or.inr rfl) (pe_call GD (hr.mono (by decide)) rfl gD FD.kp bD .nil pass0 (pa_cons (pv 1) (pa_cons (pe_op op_pow pe_int pe_int) pa_nil))))
    (pss_cons (ps_set (i := 5) sc_law.nd rfl (Or.inl rfl) (pe_lstN (pa_cons (LamX.pe_lamcall (T := Tb K) (TT := TTh K) (k := 7) rfl gH FH.kp lkh hch bh sc_heard rfl (.inl rfl) (heard_gives T trivial) TB rfl hmT (fun q hq e => tb_one T hq hmT e) (hr.mono (by decide)) (LamX.lamS_by (sc := defScope s_law) (by decide +kernel)) rfl (fun _ _ _ _ _ => rfl)
        (fun A outer s H E f c' hr2 => pe_make (E := E) T.mkR GR (hr2.mono (by decide)) rfl gR (bRow D) .nil (passes_call (takes_of rfl rfl rfl rfl) (fun _ _ _ _ h => h)) (pa_cons (pe_op op_repN (pe_lstN (pa_cons (pv 4) pa_nil)) pe_int) pa_nil))) pa_nil)))
    (pss_cons (ps_expr (pe_bm PySem.F.plainAttrs_list PySem.F.slot_list_append PySem.F.type_list_append mt_append (pv 5) (pa_cons (LamX.pe_lamcall (T := Tb K) (TT := TTh K) (k := 7) rfl gH FH.kp lkh hch bh sc_heard rfl (.inl rfl) (heard_gives T trivial) TB rfl hmT (fun q hq e => tb_one T hq hmT e) (hr.mono (by decide)) (LamX.lamS_by (sc := defScope s_law) (by decide +kernel)) rfl (fun _ _ _ _ _ => rfl)
        (fun A outer s H E f c' hr2 => pe_make (E := E) T.mkR GR (hr2.mono (by decide)) rfl gR (bRow D) .nil (passes_call (takes_of rfl rfl rfl rfl) (fun _ _ _ _ h => h)) (pa_cons (pe_op op_catN (pe_op op_repN (pe_lstN (pa_cons (pv 4) pa_nil)) pe_int) (pe_lstN (pa_cons (pe_op op_sub (pv 4) pe_int) pa_nil))) pa_nil))) pa_nil)))
    (pss_cons (ps_expr (pe_bm PySem.F.plainAttrs_list PySem.F.slot_list_append PySem.F.type_list_append mt_append (pv 5) (pa_cons (LamX.pe_lamcall (T := Tb K) (TT := TTh K) (k := 7) rfl gH FH.kp lkh hch bh sc_heard rfl (.inl rfl) (heard_gives T trivial) TB rfl hmT (fun q hq e => tb_one T hq hmT e) (hr.mono (by decide)) (LamX.lamS_by (sc := defScope s_law) (by decide +kernel)) rfl (fun _ _ _ _ _ => rfl)
        (fun A outer s H E f c' hr2 => pe_make (E := E) T.mkR GR (hr2.mono (by decide)) rfl gR (bRow D) .nil (passes_call (takes_of rfl rfl rfl rfl) (fun _ _ _ _ h => h)) (pa_cons (pe_op op_catN (pe_op op_repN (pe_lstN (pa_cons (pv 4) pa_nil)) pe_int) (pe_lstN (pa_cons (pe_op op_sub (pv 4) pe_int) (pa_cons pe_non pa_nil)))) pa_nil))) pa_nil)))
    (pss_cons (ps_if (PW.pt (pw_or (pt_cmpR (op_neD hr.units) (pv 5) (pe_lstN (pa_cons (pe_tupN (pa_cons pe_str (pa_cons pe_int pa_nil))) (pa_cons (pe_tupN (pa_cons pe_str (pa_cons pe_int pa_nil))) (pa_cons (pe_tupN (pa_cons pe_str (pa_cons pe_int pa_nil))) pa_nil)))) (nomark _)) (pw_or1 (pt_cmpR op_ne (pe_cval (pe_glob (v := .ref (ga K "Row")) rfl gR rfl) rfl) pe_int (nomark _))))) (pss_one (ps_ret pe_bl)) pss_nil)
    (pss_one (ps_ret (pe_and (pe_cmpR op_eq (pe_callB (call_lenOwn (E := E0) mN.at_ mN.fn G_len (hr.mono (by decide)) b_len pass0) (by rfl) zlen (by decide +kernel) (pa_cons (pe_make (E := E0) T.mkR GR (hr.mono (by decide)) rfl gR (bRow D) .nil passL (pa_cons (pe_op op_repN (pe_lstN (pa_cons (pv 4) pa_nil)) pe_int) pa_nil)) pa_nil)) pe_int (nomark _)) (pe_and (pe_cmpR (op_eqOwn (E := E0) mE.at_ mE.fn G_eq (hr.mono (by decide)) b_eq pass0) (pe_make0 (E := E0) T.mkR GR (hr.mono (by decide)) rfl gR b0 r0 passL) (pe_make (E := E0) T.mkR GR (hr.mono (by decide)) rfl gR (bRow D) .nil passL (pa_cons (pe_lstN pa_nil) pa_nil)) (nomark _)) (pe_and (pe_cmpR op_eq (pe_callB (call_lenOwn (E := E0) mN.at_ mN.fn G_len (hr.mono (by decide)) b_len pass0) (by rfl) zlen (by decide +kernel) (pa_cons (pe_make0 (E := E0) T.mkR GR (hr.mono (by decide)) rfl gR b0 r0 passL) pa_nil)) pe_int (nomark _)) (pe_one (pe_cmpR (op_eqD hr.units) (pe_meth0 (E := E0) (pe_make0 (E := E0) T.mkR GR (hr.mono (by decide)) rfl gR b0 r0 passL) T.clsR mL G_lst (hr.mono (by decide)) b_lst .nil pass0) (pe_lstN pa_nil) (nomark _))))))))))))))), ?_⟩
    refine ⟨_, rfl, a, ns, rfl, hS, hn, fun p l H1 f1 P1 s1 => ?_⟩
    refine ⟨5, rfl, by decide, by decide, for_range (n := 5) (fun i σ H' => ∃ v2 v3 : Option V, σ = [some (.ref a), some (.ref p), v2, v3, none, none] ∧ PenL H' p l (800 * i) ∧ Tabs (Tb K) H') ⟨none, none, rfl, P1, hT.ext s1⟩ ?_ ?_⟩
    · rintro i σ G0 hi ⟨v2, v3, rfl, P0, T0⟩
      refine ⟨_, rfl, p, l, 30, 800 * i, rfl, by decide, P0, by omega, fun f H2 ts ps P2 B2 f2 nfp gf prs lp up gd => ?_⟩
      have T2 := tabs_pen T0 B2 P0
      refine ⟨_, rfl, _, rfl, p, l, f, ts, ps, _, rfl, P2, by omega, gf, nfp, prs, by omega, up, gd, fun H3 P3 B3 => ?_⟩
      have T3 := tabs_pen T2 B3 P2
      have gf3 := B3 _ _ gf nfp
      have prs3 := prsB (ButN.but B3) P2 prs
      refine ⟨_, rfl, iteF ⟨_, rfl, _, rfl, p, l, f, ts, ps, _, rfl, P3, by omega, gf3, nfp, prs3, by omega, gd, T3, fun H4 S4 => ?_⟩⟩
      have gf4 := S4.b _ _ gf3 nfp (fun _ z => nomatch z)
      have prs4 := prsB S4.b P3 prs3
      refine ⟨_, rfl, iteF ⟨_, rfl, _, rfl, p, l, f, ts, ps, _, rfl, S4.P, by omega, gf4, nfp, prs4, by omega, up, gd, S4.t, fun H5 S5 => ?_⟩⟩
      exact ⟨_, rfl, iteF ⟨_, _, rfl, S5.P.mono (by omega), S5.t⟩⟩
    · rintro σ G0 ⟨v2, v3, rfl, P0, T0⟩
      refine ⟨_, rfl, _, _, rfl, rfl, ⟨by decide, by decide, by decide⟩, p, l, _, _, rfl, by decide, by decide, P0, by omega, fun r H1 r0 r1 P1 B1 => ?_⟩
      have T1 := tabs_pen T0 B1 P0
      have r1' : r < 10 ^ 6 := r1
      have rk0 : rankOk (.int r) = true := rank_of (by omega) r1'
      have rk1 : rankOk (.int (r - 1)) = true := rank_of (by omega) (by omega)
      have S1 : LxK K H1 H1 p l (800 * 5 + 1) := ⟨T1, P1, ButN.refl p H1⟩
      have w1 : wordOf "TooMany" = "many" := by decide +kernel
      have w2 : wordOf "Disordered" = "order" := by decide +kernel
      have w3 : wordOf "BadItem" = "item" := by decide +kernel
      refine lam_row (i := 8) (x := "TooMany") (f := "most") (v := 200) (xs := List.replicate 201 (V.int r)) (os := (List.replicate 201 ((r, "") : Int × Str)).map some) S1 (by decide +kernel) (fun _ _ _ h => many_only up_rep (by rw [List.length_replicate]; decide) h)
        (fun qs e u few => by
          have e' := some_inj e
          rw [← e', List.length_replicate] at few
          omega) (by rw [List.length_replicate]; decide) (fun H' x => vall_vals (vals_rep rk0 201)) (fun E H' Q' x h => ?_) fun q2 H2 S2 e2 g2 => ?_
      · refine ⟨_, rfl, sz1000 (by show 1 ≤ 1000; decide), fun l1 H1' f1' m1' s1' g1' => ⟨l1, 201, _, rfl, rfl, g1', ⟨by decide, by decide⟩, sz1000 (by show 1 * (201 : Int).toNat ≤ 1000; decide), fun p' H2' n2' s2' g2' => ?_⟩⟩
        rw [rep_one] at g2'
        exact fun z dx hz hd hne => h H2' p' z dx (s1'.trans s2') (.inl (SqL.of g2')) hz hd hne
      rw [w1] at g2
      refine ⟨sz1000 (by show 1 ≤ 1000; decide), fun q3 H3 f3 m3 s3 g3 => ?_⟩
      have S3 : LxK K H2 H3 p l (800 * 5 + 1) := ⟨S2.t.ext s3, S2.P.same s3, ButN.but (But.of s3)⟩
      have n3 : q3 ≠ p ∧ q3 ≠ l := S2.P.new f3
      have pq : ∀ {H : Hp} {q : Addr} {xs : List V}, PenL H p l (800 * 5 + 1) → H q = some (.tup xs) → q ≠ p := fun P e z => by
        obtain ⟨ns, i, g, q1, _⟩ := P
        rw [z, q1] at e
        cases e
      refine ⟨_, rfl, .inl ⟨rfl, _, SqL.of g3⟩, ?_⟩
      refine lam_row (i := 7) (x := "Disordered") (f := "at") (v := 1 + ((200 : Nat) : Int)) (xs := List.replicate 201 (V.int r) ++ [V.int (r - 1)]) (os := (List.replicate 201 ((r, "") : Int × Str) ++ [((r - 1, "") : Int × Str)]).map some) S3 (by decide +kernel)
        (fun _ _ _ h => order_only (a := (r, "")) (b := (r - 1, "")) (by simp [List.getElem?_append, List.getElem?_replicate]) (by simp [List.getElem?_append, List.getElem?_replicate]) (by show r - 1 < r; omega) (up_app (by decide)) h)
        (fun qs e u few => by
          have e' := some_inj e
          rw [← e', List.length_append, List.length_replicate] at few
          simp at few) (by simp) (fun H' x => vall_vals (?_)) (fun E H' Q' x h => ?_) fun q4 H4 S4 e4 g4 => ?_
      · exact (vals_rep rk0 201).snoc (.int rk1)
      · refine ⟨_, rfl, sz1000 (by show 1 ≤ 1000; decide), fun l1 H1' f1' m1' s1' g1' => ⟨l1, 201, _, rfl, rfl, g1', ⟨by decide, by decide⟩, sz1000 (by show 1 * (201 : Int).toNat ≤ 1000; decide), fun p' H2' n2' s2' g2' => ?_⟩⟩
        rw [rep_one] at g2'
        refine ⟨_, rfl, _, _, rfl, rfl, sz1000 (by show 1 ≤ 1000; decide), fun l3 H3' f3' m3' s3' g3' => ⟨p', l3, _, _, rfl, rfl, s3' _ _ g2', g3', sz1000 (by rw [List.length_replicate]; show 201 + 1 ≤ 1000; decide), fun p4 H4' f4' m4' s4' g4' => ?_⟩⟩
        exact fun z dx hz hd hne => h H4' p4 z dx (s1'.trans (s2'.trans (s3'.trans s4'))) (.inl (SqL.of g4')) hz hd hne
      rw [w2] at g4
      have g34 : H4 q3 = some (.lst [.ref q2]) := e4 _ _ g3 (fun _ z => nomatch z)
      refine ⟨q3, _, _, rfl, rfl, g34, by show 1 < sizeLine; decide, ?_⟩
      have S5 : LxK K H2 (upd H4 q3 (.lst ([.ref q2] ++ [.ref q4]))) p l (800 * 5 + 1) := S4.upd f3 g34 n3.1 n3.2
      have g5 : (upd H4 q3 (.lst ([.ref q2] ++ [.ref q4]))) q3 = some (.lst [.ref q2, .ref q4]) := upd_same
      have g45 : (upd H4 q3 (.lst ([.ref q2] ++ [.ref q4]))) q4 = some (.tup [.str "order", .int (1 + ((200 : Nat) : Int))]) := by
        rw [upd_ne (fun z => by rw [z, g34] at g4; cases g4)]
        exact g4
      generalize upd H4 q3 (.lst ([.ref q2] ++ [.ref q4])) = H5 at S5 g5 g45 ⊢
      refine ⟨_, rfl, .inl ⟨rfl, _, SqL.of g5⟩, ?_⟩
      refine lam_row (i := 5) (x := "BadItem") (f := "part") (v := ((List.replicate 300 ((r, "") : Int × Str) ++ [((r - 1, "") : Int × Str)]).length : Nat)) (xs := List.replicate 300 (V.int r) ++ [V.int (r - 1), .non]) (os := (List.replicate 300 ((r, "") : Int × Str) ++ [((r - 1, "") : Int × Str)]).map some ++ none :: []) S5 (by decide +kernel)
        (fun _ _ _ h => item_only h) (fun qs e _ _ => item_no qs e) (by simp) (fun H' x => ?_) (fun E H' Q' x h => ?_) fun q6 H6 S6 e6 g6 => ?_
      · rw [List.map_append, List.append_assoc]
        exact vall_app (vall_cons (.int rk1) (vall_cons (.bad .non rfl) vall_nil)) (vall_vals (vals_rep rk0 300))
      · refine ⟨_, rfl, sz1000 (by show 1 ≤ 1000; decide), fun l1 H1' f1' m1' s1' g1' => ⟨l1, 300, _, rfl, rfl, g1', ⟨by decide, by decide⟩, sz1000 (by show 1 * (300 : Int).toNat ≤ 1000; decide), fun p' H2' n2' s2' g2' => ?_⟩⟩
        rw [rep_one] at g2'
        refine ⟨_, rfl, _, _, rfl, rfl, sz1000 (by show 2 ≤ 1000; decide), fun l3 H3' f3' m3' s3' g3' => ⟨p', l3, _, _, rfl, rfl, s3' _ _ g2', g3', sz1000 (by rw [List.length_replicate]; show 300 + 2 ≤ 1000; decide), fun p4 H4' f4' m4' s4' g4' => ?_⟩⟩
        exact fun z dx hz hd hne => h H4' p4 z dx (s1'.trans (s2'.trans (s3'.trans s4'))) (.inl (SqL.of g4')) hz hd hne
      rw [w3, show (List.replicate 300 ((r, "") : Int × Str) ++ [((r - 1, "") : Int × Str)]).length = 301 by simp] at g6
      have g56 : H6 q3 = some (.lst [.ref q2, .ref q4]) := e6 _ _ g5 (fun _ z => nomatch z)
      refine ⟨q3, _, _, rfl, rfl, g56, by show 2 < sizeLine; decide, ?_⟩
      have S7 : LxK K H2 (upd H6 q3 (.lst ([.ref q2, .ref q4] ++ [.ref q6]))) p l (800 * 5 + 1) := S6.upd f3 g56 n3.1 n3.2
      have g7 : (upd H6 q3 (.lst ([.ref q2, .ref q4] ++ [.ref q6]))) q3 = some (.lst [.ref q2, .ref q4, .ref q6]) := upd_same
      have g67 : (upd H6 q3 (.lst ([.ref q2, .ref q4] ++ [.ref q6]))) q6 = some (.tup [.str "item", .int ((301 : Nat) : Int)]) := by
        rw [upd_ne (fun z => by rw [z, g56] at g6; cases g6)]
        exact g6
      have g47 : (upd H6 q3 (.lst ([.ref q2, .ref q4] ++ [.ref q6]))) q4 = some (.tup [.str "order", .int (1 + ((200 : Nat) : Int))]) := by
        rw [upd_ne (fun z => by rw [z, g5] at g45; cases g45)]
        exact e6 _ _ g45 (fun _ z => nomatch z)
      generalize upd H6 q3 (.lst ([.ref q2, .ref q4] ++ [.ref q6])) = H7 at S7 g7 g67 g47 ⊢
      have g27 : H7 q2 = some (.tup [.str "many", .int 200]) := S7.b _ _ g2 (pq S2.P g2) (fun _ z => nomatch z)
      clear S1 S3 S4 S5 S6 g3 g34 g5 g45 g56 e2 e4 e6
      refine ⟨_, rfl, sz1000 (by show 2 ≤ 1000; decide), fun t1 H8 f8 s8 g8 => ⟨sz1000 (by show 2 ≤ 1000; decide), fun t2 H9 f9 s9 g9 => ⟨sz1000 (by show 2 ≤ 1000; decide), fun t3 H10 f10 s10 g10 => ⟨sz1000 (by show 3 ≤ 1000; decide), fun lq H11 f11 m11 s11 g11 => ?_⟩⟩⟩⟩
      have s711 := s8.trans (s9.trans (s10.trans s11))
      refine ⟨.list [.tuple [.str "many", .int 200], .tuple [.str "order", .int 201], .tuple [.str "item", .int 301]], .list [.tuple [.str "many", .int 200], .tuple [.str "order", .int 201], .tuple [.str "item", .int 301]],
        .lst (SqL.of (s711 _ _ g7)) (.cons (.tup (SqT.of (s711 _ _ g27)) (.cons (.str _) (.cons (.int _) .nil))) (.cons (.tup (SqT.of (s711 _ _ g47)) (.cons (.str _) (.cons (.int _) .nil))) (.cons (.tup (SqT.of (s711 _ _ g67)) (.cons (.str _) (.cons (.int _) .nil))) .nil))),
        .lst (SqL.of g11) (.cons (.tup (SqT.of ((s9.trans (s10.trans s11)) _ _ g8)) (.cons (.str _) (.cons (.int _) .nil))) (.cons (.tup (SqT.of ((s10.trans s11) _ _ g9)) (.cons (.str _) (.cons (.int _) .nil))) (.cons (.tup (SqT.of (s11 _ _ g10)) (.cons (.str _) (.cons (.int _) .nil))) .nil))), by decide +kernel, by decide +kernel, _, rfl, ?_⟩
      refine ifSame (by decide +kernel) ?_
      refine ⟨_, _, _, _, rfl, T.cread, hum, rfl, _, rfl, iteF ?_⟩
      -- len(Row([r] * 200)) == 200
      refine ⟨_, rfl, sz1000 (by show 1 ≤ 1000; decide), fun l12 H12 f12 m12 s12 g12 => ⟨l12, 200, _, rfl, rfl, g12, ⟨by decide, by decide⟩, sz1000 (by show 1 * (200 : Int).toNat ≤ 1000; decide), fun p13 H13 n13 s13 g13 => ?_⟩⟩
      rw [rep_one] at g13
      refine fun x dx hx hd hne => row_to hx hd hne (vals_src (.inl (SqL.of g13)) (vals_rep rk0 200) (by rw [List.length_replicate]; decide)) up_rep (by rw [List.length_replicate]; exact Nat.le_refl _) fun H14 ys s14 r14 i14 => ⟨rfl, ?_⟩
      have ly : ys.length = 200 := by rw [its_len i14, List.length_replicate]
      obtain ⟨dA, tA, hA, htA⟩ := id r14
      refine ⟨x, dA, _, rfl, hA, x, ys, rfl, r14, by omega, ys.length, rfl, by rw [ly]; decide, rfl, _, rfl, ?_⟩
      rw [ly]
      refine ite2 (fun _ => ?_) (fun hz => absurd rfl hz)
      -- Row() == Row([])
      have src0 : ∀ H, Src K H (nilAt K) [] (([] : List (Int × Str)).map some) := fun H => ⟨.inr (.inl (T.nil H)), by decide, rfl, fun i x h => nomatch h⟩
      have up0 : Up ([] : List (Int × Str)) ([] : List (Int × Str)).length := fun m a b h _ _ => nomatch h
      refine fun x2 dx2 hx2 hd2 hne2 => row_to hx2 hd2 hne2 (src0 _) up0 (by decide) fun H15 ys2 s15 r15 i15 => ⟨rfl, ?_⟩
      refine ⟨sz1000 (by show 0 ≤ 1000; decide), fun l16 H16 f16 m16 s16 g16 => ?_⟩
      refine fun x3 dx3 hx3 hd3 hne3 => row_to hx3 hd3 hne3 (⟨.inl (SqL.of g16), by decide, rfl, fun i x h => nomatch h⟩ : Src K H16 l16 [] (([] : List (Int × Str)).map some)) up0 (by decide) fun H17 ys3 s17 r17 i17 => ⟨rfl, ?_⟩
      have r15' := r15.same (s16.trans s17)
      have i15' := i15.same (s16.trans s17)
      have ly2 : ys2.length ≤ 900 := by rw [its_len i15]; decide
      have ly3 : ys3.length ≤ 900 := by rw [its_len i17]; decide
      obtain ⟨dB, tB, hB, htB⟩ := id r15'
      obtain ⟨dC, tC', hC, htC⟩ := id r17
      have tyC : TyA K H17 (.ref x3) (.ref (ga K "Row")) := .inl (.base (.ins hC T.clsR (T.ob (by decide +kernel)).2 T.xo.hn T.xo.ht (T.ob (by decide +kernel)).1))
      refine ⟨x2, dB, _, _, rfl, hB, tyC, T.nfR, x2, x3, ys2, ys3, [], [], rfl, r15', i15', ly2, r17, i17, ly3, rfl, fun H18 s18 => ⟨_, rfl, ?_⟩⟩
      -- len(Row()) == 0
      refine fun x4 dx4 hx4 hd4 hne4 => row_to hx4 hd4 hne4 (src0 _) up0 (by decide) fun H19 ys4 s19 r19 i19 => ⟨rfl, ?_⟩
      have ly4 : ys4.length = 0 := by rw [its_len i19]; rfl
      obtain ⟨dD, tD, hD, htD⟩ := id r19
      refine ⟨x4, dD, _, rfl, hD, x4, ys4, rfl, r19, by omega, ys4.length, rfl, by rw [ly4]; decide, rfl, _, rfl, ?_⟩
      rw [ly4]
      refine ite2 (fun _ => ?_) (fun hz => absurd rfl hz)
      -- Row().listed() == []
      refine fun x5 dx5 hx5 hd5 hne5 => row_to hx5 hd5 hne5 (src0 _) up0 (by decide) fun H20 ys5 s20 r20 i20 => ⟨rfl, ?_⟩
      have ly5 : ys5 = [] := List.length_eq_zero_iff.mp (by rw [its_len i20]; rfl)
      subst ly5
      obtain ⟨dE, tE, hE, htE⟩ := id r20
      refine ⟨x5, dE, _, rfl, hE, rfl, x5, [], rfl, r20, fun l21 H21 n21 s21 g21 => ⟨sz1000 (by show 0 ≤ 1000; decide), fun l22 H22 f22 m22 s22 g22 => ?_⟩⟩
      refine ⟨.list [], .list [], .lst (SqL.of (s22 _ _ g21)) .nil, .lst (SqL.of g22) .nil, by decide +kernel, by decide +kernel, ?_⟩
      rw [show PyData.eqv (.list []) (.list []) = true by decide +kernel]
      exact k H22
end
end K03
namespace K03
open PySem PySem.Spec PyProof.Rows L2 He Tw
abbrev R : PySem.W.OpenRow := PySem.W.OpenLaw.row PySem.Challenge.rw_twoheads_k03_rows_made
def ls : List (Fg → Addr) := [fun K => cmAt K "Row" "of", fun K => ga K "_law_of_right", fun K => ga K "_law_refused", fun K => ga K "law"]
abbrev hk : PySem.W.Hook := hookZ 6 fs fn ls
def ob (s : PySem.W.SharedT) : AlL := obsZG 6 fs fn ls (HandSHeadRun.getT s)
theorem ob_eq (s : PySem.W.SharedT) : ob s = hk.obs s.abs := obsZG_eq (HandSHeadRun.getT_eq s)
def others : List Str := clss ++ fnames.dropLast ++ (["BEYOND", "LONGEST", "LETTERS", "_wall", "by_rank", "taken", "taken_of_rank", "joined", "repeated"] : List Str)
theorem run (w : World) : HandSHeadRun.RunEq R (PySem.W.view R.prog [42]) hk ob 9000 others w := by
  intro os
  kernel_rfl
theorem facts {P : Program} {w : World} {K : Fg} {h : Heap} {mg : Str → Option Value} (X : K.In h) (G : h.Ns mainGlobals mg) (c : SaysZ fs fn K) :
    ∃ (u : FuncData), Txt K mg ∧ (∀ (s : Shared) (v : Value), BindsTo s u ⟨[v], []⟩ [("_law_script", v)]) ∧ ∀ base : Heap, K.In base → base.Ns mainGlobals mg → (∀ p ∈ csZ ls K, LamX.TabB base mg p.1 p.2) → FnOk P w K mg base CX0 12 (ga K "law") u ["_law_script"] (spLaw K) := by
  obtain ⟨fd, D⟩ := c.defs (d0 := fn.headD (dF "law" 42)) rfl
  have T : Txt K mg := ⟨c, fun x hx => He.glo_ok X G hx, fun x hx => He.free_ok X G hx, fun x i hx => He.int_ok X G hx, fun x z hx => He.str_ok X G hx⟩
  have F : FnP K "law" "law" s_law (ga K "law") (fd 30) := D 30 _ rfl
  have b : ∀ (s : Shared) (us : List Value), us.length = (["_law_script"] : List Str).length → BindsTo s (fd 30) ⟨us, []⟩ ((["_law_script"] : List Str).zip us) := FunD.bindsA (ps := ["_law_script"]) F fun _ _ _ _ _ _ us hl => match us, hl with | [_], _ => rfl
  exact ⟨fd 30, T, fun s v => b s [v] rfl, fun base _ _ tb => G_law D T (tb _ (List.mem_cons.mpr (.inl rfl))) (tb _ (List.mem_cons_of_mem _ (List.mem_cons.mpr (.inl rfl)))) (tb _ (List.mem_cons_of_mem _ (List.mem_cons_of_mem _ (List.mem_cons.mpr (.inl rfl))))) (tb _ (List.mem_cons_of_mem _ (List.mem_cons_of_mem _ (List.mem_cons_of_mem _ (List.mem_cons.mpr (.inl rfl)))))) ⟩
end K03
open PySem PySem.W PySem.Calls PyProof.Rows
set_option maxHeartbeats 0 in
theorem PySem.Challenge.cw_twoheads_k03_rows_made_holds : PySem.Challenge.rw_twoheads_k03_rows_made.Holds := by
  w_on; o_law
  refine HandSHeadRun.head_any (r := OpenLaw.row PySem.Challenge.rw_twoheads_k03_rows_made) (q := view (OpenLaw.row PySem.Challenge.rw_twoheads_k03_rows_made).prog [42]) (H := K03.hk) (ob := K03.ob) (M := 9000) (loose := K03.others) (d := HandSHeadRun.topDef (OpenLaw.row PySem.Challenge.rw_twoheads_k03_rows_made).prog 42) (kwd := []) K03.ob_eq
    (by kernel_rfl) (fun s => by kernel_rfl) K03.run (by kernel_rfl) (by kernel_rfl) (by kernel_rfl) (by rfl) (by first | assumption | decide +kernel) (by decide +kernel) ⟨rfl, rfl, rfl, rfl, rfl, by decide +kernel⟩ ?hw ?hc
  case hw => w_witness2
  case hc =>
    refine LamX.walk_ofTsE (l := PySem.Challenge.rw_twoheads_k03_rows_made) (n := 63) (k := 12) (x := "_law_script") (CX := fun _ => L2.CX0) rfl (by decide) (by kernel_rfl) ⟨rfl, by decide, by decide⟩ ?F (fun _ _ _ _ _ z => z)
    intro w mg fa h Y G hmg0
    obtain ⟨K, KX, c, tabs⟩ := Y
    have hmg : mg ("law" : PySem.Str) = some (.ref fa) := by
      have e : (HandSHeadRun.topDef (OpenLaw.row PySem.Challenge.rw_twoheads_k03_rows_made).prog 42).name = ("law" : PySem.Str) := by kernel_rfl
      rw [← e]
      exact hmg0
    obtain ⟨fd, T, hb, hF⟩ := K03.facts (P := (PySem.Challenge.rw_twoheads_k03_rows_made).prog) (w := w) KX G c
    have T0 : mg ("law" : PySem.Str) = some (.ref (He.ga K "law")) := T.fn (x := "law") (by decide +kernel)
    have ef : fa = He.ga K "law" := by
      rw [hmg] at T0
      exact Value.ref.inj (Option.some.inj T0)
    subst ef
    have tb : ∀ f ∈ K03.ls, Tw.tabB K (f K) = true := fun f hf => by
      simp only [K03.ls, List.mem_cons, List.not_mem_nil, or_false] at hf
      rcases hf with rfl | rfl | rfl | rfl
      · exact T.tab1
      · exact T.tab2
      · exact T.tab3
      · exact T.tab4
    refine ⟨K, KX, fd, Tw.csZ K03.ls K, K03.spLaw K, fun p hp => ?_, fun p hp => ?_, fun p hp => ?_, hb, fun H a ns hl _ hH hS => ⟨a, ns, rfl, hS, hl, fun q hq => ?_, fun _ => rfl⟩, hF⟩
    · obtain ⟨f, hf, rfl⟩ := List.mem_map.mp hp
      exact Tw.isTab_ok (tabs f hf)
    · obtain ⟨f, hf, rfl⟩ := List.mem_map.mp hp
      exact Option.isNone_iff_eq_none.mp (Bool.and_eq_true_iff.mp (tb f hf)).2
    · obtain ⟨f, hf, rfl⟩ := List.mem_map.mp hp
      exact PySem.W.codeHd_of_K KX (Bool.and_eq_true_iff.mp (tb f hf)).1
    · simp only [K03.Tb, List.mem_cons, List.not_mem_nil, or_false] at hq
      rcases hq with rfl | rfl | rfl | rfl
      · exact LamX.TabS.nil (hH _ (List.mem_cons.mpr (.inl rfl)))
      · exact LamX.TabS.nil (hH _ (List.mem_cons_of_mem _ (List.mem_cons.mpr (.inl rfl))))
      · exact LamX.TabS.nil (hH _ (List.mem_cons_of_mem _ (List.mem_cons_of_mem _ (List.mem_cons.mpr (.inl rfl)))))
      · exact LamX.TabS.nil (hH _ (List.mem_cons_of_mem _ (List.mem_cons_of_mem _ (List.mem_cons_of_mem _ (List.mem_cons.mpr (.inl rfl))))))
#print axioms PySem.Challenge.cw_twoheads_k03_rows_made_holds
