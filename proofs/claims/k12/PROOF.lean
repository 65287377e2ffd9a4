import PyProof.Rows.All
import Wide.All
import OpenK.AllK
import Wide.FinOn
import HandS.Defaults
import HandS.Head0
import HandS.Head1
import HandS.Head2
import HandS.HeadEnd
import HandS.HeadHook1
import HandS.HeadHook2
import PyProof.StrLawsRepr
import PyProof.EqAt
import PyProof.EqKinds
import PyProof.TupleCall
import PyProof.ReprRoads
import KE.KExcIs
import HandS.ForMost
import HandS.Exc
import HandS.ExcInit
import HandS.ExcValue
import HandS.IsInst
import HandS.WordsExc
import HandS.SlotsOwn
import HandS.MakeKw
import HandS.MakeKwOnly
import KE.KCallOwn
import KE.KFmtOwn
import PyProof.Rows.StrMul
import KE.GoesEnum
import HandS.IterVal
import KE.KOwnIter
import HandS.RaiseMore
import HandS.More
import HandS.HeadHook3
import HandS.FStr
import HandS.ClsMeth
import HandS.Codes
import Wide.Once
import KE.KOpsOwn
import HandS.Star
import HandS.Property
import HandS.ExcOwn
import PyProof.ListMulRoad
import HandS.EndTab
import HandS.HeadWalk
import HandS.HeadNt
import KE.SortKeyHeap
import HandS.SortKw
import HandS.SetBool
import HandS.Strs
import HandS.SetKeys
import HandS.TupAny
import HandS.SetTxt0
import HandS.SetFor
import KE.DataCmp
import HandS.ExcBuiltin
import HandS.TryOnly
import HandS.Walk
import PySem.Challenge.RW_twoheads_k12_words_asked
set_option Elab.async false
set_option linter.all false
set_option maxRecDepth 100000
set_option maxHeartbeats 8000000
/-! Tw, part 1: calls where no repr runs around; errors as values; errors kept behind their except suite. -/
namespace Tw
open PySem PySem.Spec PyProof.Rows L2

/-! ### no repr is running around -/
abbrev NoG (A : Around) : Prop := A.guards = some []
structure FnG (P : Program) (w : World) (K : PySem.W.Frag) (mg : Str → Option Value) (base : Heap) (CX : CXT) (k : Nat) (f : Addr) (fd : FuncData) (ps : List Str) (sp : Sp) : Prop where
  len : ∀ vs H Q E, sp vs H Q E → vs.length = ps.length
  run : ∀ (A : Around) (outer : List Env) (s : Shared) (H : Hp) (args : Args) (us : List Value) (vs : List V) (Q : VK) (E : XK), Room k A → NoG A → Env0 P w K mg base A outer s H →
    BindsTo s fd args (ps.zip us) → Vals vs us → sp vs H Q E → codeAny (model P w) A (.call (.ref f) args) (CR CX outer P w H s Q E) s
section
variable {P : Program} {w : World} {K : PySem.W.Frag} {mg : Str → Option Value} {base : Heap} {CX : CXT}
theorem FnG.of {k : Nat} {f : Addr} {fd : FuncData} {ps : List Str} {sp : Sp} (F : FnOk P w K mg base CX k f fd ps sp) : FnG P w K mg base CX k f fd ps sp :=
  ⟨F.len, fun A outer s H args us vs Q E hr _ => F.run A outer s H args us vs Q E hr⟩
theorem FnG.mono {j k : Nat} {f : Addr} {fd : FuncData} {ps : List Str} {sp : Sp} (F : FnG P w K mg base CX j f fd ps sp) (h : j ≤ k) : FnG P w K mg base CX k f fd ps sp :=
  ⟨F.len, fun A outer s H args us vs Q E hr => F.run A outer s H args us vs Q E (hr.mono h)⟩
/-- a def by its body, where no repr runs around -/
theorem fng {k : Nat} {f : Addr} {name qual : Str} {params : Arguments} {body : List Stmt} {scope : Scope} {dV kV doc pm cdv ct oc : Value} {an od : Option Addr} {osl : Array (Option Value)} {N ps : List Str} {sp : Sp}
    (lk : K.lookup f = some ⟨oc, od, .func (PySem.W.fnOf name qual params body scope dV kV doc pm an cdv ct), osl⟩) (hcd : PySem.W.codeIn K cdv qual = true) (S : FnScope N ps scope) (len : ∀ vs H Q E, sp vs H Q E → vs.length = ps.length)
    (hbody : ∀ (A : Around) (outer : List Env) (s : Shared) (H : Hp) (vs : List V) (Q : VK) (E : XK), Room k (A.deeper (envOfC qual scope s.heap.objs.size f cdv)) → NoG (A.deeper (envOfC qual scope s.heap.objs.size f cdv)) → sp vs H Q E →
      ∃ t, PSs (cxOf CX P w K mg base N qual scope f cdv A outer s H E) body t ∧ t { nx := fun _ H' => Q .non H', rt := Q } (start N vs) H) :
    FnG P w K mg base CX (k + 1) f (PySem.W.fnOf name qual params body scope dV kV doc pm an cdv ct) ps sp := by
  refine ⟨len, fun A outer s H args us vs Q E hr hg e0 hb r hsp => ?_⟩
  have at0 : ∀ b o, base.get? b = some o → s.heap.get? b = some o := fun b o e => (e0.bs b o e).1
  have hkind : ∀ y ∈ ps.zip us, scope.names.lookup y.1 = some .local ∨ (scope.names.lookup y.1 = some .cell ∧ ((cellsFrom (s.heap.objs.size + 1) scope.names []).lookup y.1).isSome = true) := by
    rintro ⟨n, v⟩ hy
    rcases S.par n (List.of_mem_zip hy).1 with q | q
    · exact .inl q
    · exact .inr ⟨q, PySem.W.cellsFrom_some _ _ _ (.inl q)⟩
  refine codeAny_call_function hr.depth ((e0.mod.kin.keeps at0) _ _ lk) rfl S.co S.gen rfl (PySem.W.codeRec_of (e0.mod.kin.keeps at0) hcd) (hb _ _ _ _ ?_)
  refine wpAny_newFunctionEnv_cells S.kind hkind fun env he s1 x => ?_
  subst he
  refine ⟨(e0.mod.nolimit.keeps at0).keeps x.toInCall.keep, codeAny_func ?_⟩
  obtain ⟨t, ht, hq⟩ := hbody A outer s H vs Q E (hr.deeper _) hg hsp
  refine wpAny_mono (ht.run [] s1 (start N vs) H _ (inv_start S hr.hd e0 (len _ _ _ _ hsp) r x) hq) (fun fl s' hs => ?_) fun e s' hs => hs
  cases fl with
  | ret u =>
    obtain ⟨v, σ', H', J, rv, q⟩ := hs
    exact ⟨v, H', J.os, J.bare, J.base, J.hok, rv, q⟩
  | next =>
    obtain ⟨σ', H', J, q⟩ := hs
    exact ⟨.non, H', J.os, J.bare, J.base, J.hok, rfl, q⟩
  | brk => exact hs.elim fun _ z => z.elim fun _ z => z.2.elim
  | cont => exact hs.elim fun _ z => z.elim fun _ z => z.2.elim
/-- the same for a def as the text has it -/
theorem _root_.L2.Fun.okG {x qual : Str} {st : Stmt} {f : Addr} {fd : FuncData} {N ps : List Str} {k : Nat} {sp : Sp} (F : Fun K x qual st f fd) (S : FnScope N ps (defScope st)) (len : ∀ vs H Q E, sp vs H Q E → vs.length = ps.length)
    (hbody : ∀ (cdv : Value) (A : Around) (outer : List Env) (s : Shared) (H : Hp) (vs : List V) (Q : VK) (E : XK), Room k (A.deeper (envOfC qual (defScope st) s.heap.objs.size f cdv)) → NoG (A.deeper (envOfC qual (defScope st) s.heap.objs.size f cdv)) → sp vs H Q E →
      ∃ t, PSs (cxOf CX0 P w K mg base N qual (defScope st) f cdv A outer s H E).nox (defBody st) t ∧ t { nx := fun _ H' => Q .non H', rt := Q } (start N vs) H) : FnG P w K mg base CX0 (k + 1) f fd ps sp := by
  obtain ⟨oc, od, kV, doc, pm, an, cdv, ct, osl, rfl, lk, hcd⟩ := F.ex
  refine fng lk hcd S len fun A outer s H vs Q E hr hg hsp => ?_
  obtain ⟨t, h, q⟩ := hbody cdv A outer s H vs Q E hr hg hsp
  exact ⟨t, h.nox, q⟩
end
section
variable {X : Cx} {CX : CXT} {k : Nat} {f : Addr} {fd : FuncData} {ps : List Str} {sp : Sp} {dvs : List V} {ds : List Value} {E : XK} {x : Str} {p pos : Pos} {e : Expr} {es : List Expr} {t : TA}
theorem run_fnG {pins : List (Addr × Obj)} {σ : L2.St} {H : Hp} {s : Shared} {Q : VK} {us : List Value} {vs : List V} (F : FnG X.prog X.w X.K X.mg X.base CX k f fd ps sp) (hr : Room k X.A) (hG : NoG X.A) (hb : Binds X.K fd ps ds) (hd : Vals dvs ds) (hx : Passes CX X E)
    (I : Inv X pins σ H s) (r : Vals vs us) (h : sp (vs ++ dvs) H Q E) : wpAny (model X.prog X.w) X.A (call (.ref f) us) (EP X pins σ Q) X.xe s := by
  have r2 : Vals (vs ++ dvs) (us ++ ds) := r.append hd
  have hl : (us ++ ds).length = ps.length := r2.length.symm.trans (F.len _ _ _ _ h)
  refine wpAny_call (codeAny_mono (F.run X.A X.stack s H ⟨us, []⟩ (us ++ ds) (vs ++ dvs) Q E hr hG I.env0 (hb s us I.kIn hl) r2 h) fun r s' hq => ?_)
  match r, hq with
  | .error e, hq => exact hx pins σ H s e s' I hq
  | .ok (.ret u), hq => exact I.after hq
/-- f(e, ..) -/
theorem pe_callG (F : FnG X.prog X.w X.K X.mg X.base CX k f fd ps sp) (hr : Room k X.A) (hG : NoG X.A) (hg : Gl X x) (hm : X.mg x = some (.ref f)) (hk : PySem.W.keepIn X.K (.ref f) = true) (hb : Binds X.K fd ps ds) (hd : Vals dvs ds) (hx : Passes CX X E)
    (ha : PA X (e :: es) t) (hdb : (x == ("__debug__" : Str)) = false := by decide) (he : starEach (e :: es) X.env = (false, eval e X.env) :: starEach es X.env := by rfl) (hpl : (backTo pos (starEach es X.env)).any (·.1) = false := by rfl) :
    PE X (.Call (.Name x p) (e :: es) [] pos) (tCall sp dvs E t) :=
  ⟨fun pins s σ H Q I h => wpAny_Call_Name_kw (ld_glob I hg hm (PySem.W.callWith_K (h₀ := X.base) I.ok.mod.kin hk (thn (ha.run pos pins s σ H _ I h) fun us s1 ⟨vs, H1, I1, r, q⟩ => ⟨I1.kIn, run_fnG F hr hG hb hd hx I1 r q⟩) he hpl) hdb)⟩
end
end Tw

/-! ### the law's end -/
namespace Tw
open PySem PySem.Spec PyProof.Rows L2
theorem law_endG {P : Program} {w : World} {K : PySem.W.Frag} {mg mb : Str → Option Value} {CX : CXT} {k : Nat} {fa a : Addr} {fd : FuncData} {x : Str} {sp : Sp} {s : Shared} {vs : List Value} {ns : List Int}
    (KX : K.In s.heap) (hns : s.heap.Ns mainGlobals mg) (hb : s.heap.Ns builtinsNs mb) (hbb : ∀ x : Str, x ≠ "__name__" → mb x = bootBuiltins x) (hlim : s.heap.NoLimit) (hg : s.gens = #[])
    (ha : s.heap.get? a = some { cls := .type "list", data := .seq vs.toArray }) (hi : IntsAre vs ns) (hl : ns.length ≤ sizeLine) (hr : Room k callerA)
    (F : ∀ base : Heap, K.In base → base.Ns mainGlobals mg → FnG P w K mg base CX k fa fd [x] sp) (hbind : ∀ (s : Shared) (u : Value), BindsTo s fd ⟨[u], []⟩ [(x, u)])
    (hsp : ∀ H : Hp, Only H → SqL K H a (ns.map V.int) → sp [.ref a] H (fun v _ => v = .bl true) fun _ _ _ => False)
    (hCX : ∀ H e s', CX [] H s (fun _ _ _ => False) e s' → False) :
    codeAny (model P w) callerA (.call (.ref fa) ⟨[.ref a], []⟩) (fun r s' => r = .ok (.ret (.bool true)) ∧ OldK s.heap s'.heap ∧ s'.os = s.os ∧ AllBare s'.gens) s := by
  have rv := vals_ints hi
  have lv := hi.length
  have go : ∀ H : Hp, Only H → SqL K H a (ns.map V.int) → HOk P w H s.heap → (∀ b, H b ≠ none → b = a) → (H a ≠ none → K.lookup a = none) →
      codeAny (model P w) callerA (.call (.ref fa) ⟨[.ref a], []⟩) (fun r s' => r = .ok (.ret (.bool true)) ∧ OldK s.heap s'.heap ∧ s'.os = s.os ∧ AllBare s'.gens) s := by
    intro H hO hS hok hA hK
    have none_of : ∀ {b : Addr}, b ≠ a → H b = none := fun {b} hb => by
      cases q : H b with
      | none => rfl
      | some u => exact absurd (hA b (by rw [q]; exact Option.some_ne_none u)) hb
    have noD : ∀ {b : Addr} {o : Obj} {es : Array DictEntry} {ep : Nat}, s.heap.get? b = some o → o.data = .dict es ep → H b = none := fun {b o es ep} e d => none_of fun z => by
      rw [z, ha] at e
      have e2 := Option.some.inj e
      rw [← e2] at d
      cases d
    have nsK : ∀ {b : Addr} {m : Str → Option Value}, s.heap.Ns b m → (hidT s.heap H).Ns b m := fun {b m} ⟨o, es, ep, e, d, r⟩ => ⟨o, es, ep, hidT_get e (noD e d), d, r⟩
    have hKb : K.In (hidT s.heap H) := fun b o e => hidT_get (KX b o e) (by
      by_cases hb : b = a
      · cases q : H b with
        | none => rfl
        | some u =>
          subst hb
          have z := hK (by rw [q]; exact Option.some_ne_none u)
          rw [z] at e
          cases e
      · exact none_of hb)
    have hM : Mod K mg (hidT s.heap H) := ⟨hKb, nsK hns, ⟨mb, nsK hb, hbb⟩, hlim.elim fun mc z => ⟨mc, nsK z.1, z.2⟩⟩
    have e0 : Env0 P w K mg (hidT s.heap H) callerA [] s H := ⟨rfl, hM, fun b o e => of_hidT e, Nat.le_of_eq (hidT_size _ _), trivial, (fun b hb => nomatch hb), hok, .of_eq hg⟩
    refine codeAny_mono ((F _ hKb (nsK hns)).run callerA [] s H ⟨[.ref a], []⟩ [.ref a] [.ref a] _ _ hr rfl e0 (hbind s (.ref a)) (.cons rfl .nil) (hsp H hO hS)) fun r s' h => ?_
    match r, h with
    | .error e, h => exact (hCX H e s' h).elim
    | .ok (.ret u), h =>
      obtain ⟨v, H', os, bare, un, hok', rv', q⟩ := h
      have q' : v = .bl true := q
      subst q'
      obtain rfl : u = Value.bool true := rv'
      refine ⟨rfl, OldK.of_keep fun b o e => ?_, os, bare⟩
      cases q : H b with
      | none => exact un.keep b o e q (fun z => nomatch z) (fun z => nomatch z)
      | some u =>
        rcases hO b with z | ⟨ob, xs, z⟩
        · rw [q] at z
          cases z
        · obtain ⟨e1, _⟩ := hok b _ z
          obtain ⟨e2, _⟩ := hok' b _ (un.frzs b ob _ z)
          rw [e] at e1
          cases e1
          exact e2
  cases hk : K.lookup a with
  | some o =>
    have e := KX a o hk
    rw [ha] at e
    cases e
    exact go (fun _ => none) (fun _ => .inl rfl) (.inr ⟨_, vs.toArray, _, hk, rfl, rfl, rfl, by rw [List.size_toArray, lv]; exact hl, by simpa using rv⟩) (fun b u z => nomatch z) (fun b z => absurd rfl z) fun z => absurd rfl z
  | none =>
    have at1 : (fun b => if b = a then some (HO.frz { cls := .type "list", data := .seq vs.toArray } (.lst (ns.map V.int))) else none : Hp) a = some (HO.frz { cls := .type "list", data := .seq vs.toArray } (.lst (ns.map V.int))) := if_pos rfl
    refine go (fun b => if b = a then some (.frz { cls := .type "list", data := .seq vs.toArray } (.lst (ns.map V.int))) else none) (fun b => ?_) (.inl (.inr ⟨_, at1⟩)) (fun b u z => ?_) (fun b z => ?_) fun _ => hk
    · by_cases hb : b = a
      · exact .inr ⟨_, _, if_pos hb⟩
      · exact .inl (if_neg hb)
    · by_cases hb : b = a
      · subst hb
        rw [at1] at z
        cases z
        exact ⟨ha, by rw [List.length_map]; exact hl, vs, _, rv, ha⟩
      · have z' := (if_neg hb).symm.trans z
        cases z'
    · by_cases hb : b = a
      · exact hb
      · exact absurd (if_neg hb) z
theorem walk_ofG {l : PySem.W.OpenLaw} {n k : Nat} {q : Program} {loose : List Str} {XP : (Str → Option Value) → Heap → Prop} {YP : World → Heap → Prop} {d : DefRec} {K : Params → PySem.W.Frag} {CX : World → CXT} {sp : World → Sp} {x : Str}
    (hn : l.most = some n) (hn2 : n ≤ sizeLine) (hdf : d.params.defaults = []) (hr : Room k callerA) (hY : ∀ (w : World) (h : Heap), YP w h → (K w.params).In h)
    (F : ∀ (w : World) (mg : Str → Option Value) (fa : Addr) (h : Heap), (K w.params).In h → h.Ns mainGlobals mg → mg d.name = some (.ref fa) →
      ∃ fd : FuncData, (∀ (s : Shared) (u : Value), BindsTo s fd ⟨[u], []⟩ [(x, u)]) ∧ ∀ base : Heap, (K w.params).In base → base.Ns mainGlobals mg → FnG l.prog w (K w.params) mg base (CX w) k fa fd [x] (sp w))
    (hsp : ∀ (w : World) (H : Hp) (a : Addr) (ns : List Int), ns.length ≤ n → Only H → SqL (K w.params) H a (ns.map V.int) → sp w [.ref a] H (fun v _ => v = .bl true) fun _ _ _ => False)
    (hCX : ∀ (w : World) (H : Hp) (s : Shared) (e : Value) (s' : Shared), CX w [] H s (fun _ _ _ => False) e s' → False) :
    PySem.W.WalkO q loose XP YP l.row.toRowW d [] (fun f vs => PySem.call f vs) := by
  refine Att.attach_call hn hdf fun w s₀ s₁ mg mb fa o pm cd doc a vs ns G Y ho hd hcd hmg hobj hints hlen hg => ?_
  obtain ⟨fd, hb, hF⟩ := F w mg fa _ (hY w _ Y) G.T.g hmg
  exact law_endG (hY w _ Y) G.T.g G.T.b G.T.builtins G.T.nolimit hg hobj hints (Nat.le_trans hlen hn2) hr hF hb (fun H hO hS => hsp w H a ns hlen hO hS) fun H e s' => hCX w H s₁ e s'
end Tw
/-! Tw, part 2: repr of data. -/
namespace Tw
open PySem PySem.Spec PyProof.Rows L2

/-! ### how long a repr may be -/
mutual
def cap : PyData → Nat
  | .none => 4
  | .bool _ => 5
  | .int _ => 1921
  | .str x => 10 * x.length + 2
  | .list xs => 2 + capAll xs
  | .tuple xs => 3 + capAll xs
  | .dict kvs => 2 + capKv kvs
def capAll : List PyData → Nat
  | [] => 0
  | x :: xs => cap x + 2 + capAll xs
def capKv : List (PyData × PyData) → Nat
  | [] => 0
  | (k, v) :: r => cap k + 4 + cap v + capKv r
end
mutual
/-- ints of moderate size, texts of plain signs -/
def mild : PyData → Bool
  | .none | .bool _ => true
  | .int i => decide (i.natAbs.log2 < 1920)
  | .str x => x.cps.toList.all fun c => decide (c < 16 ^ 8)
  | .list xs | .tuple xs => mildAll xs
  | .dict kvs => mildKv kvs
def mildAll : List PyData → Bool
  | [] => true
  | x :: xs => mild x && mildAll xs
def mildKv : List (PyData × PyData) → Bool
  | [] => true
  | (k, v) :: r => mild k && (mild v && mildKv r)
end
mutual
theorem mild_show : ∀ d : PyData, mild d = true → d.showable = true
  | .none, _ => rfl
  | .bool _, _ => rfl
  | .str _, _ => rfl
  | .int i, h => by simpa [mild, PyData.showable] using h
  | .list xs, h => by
    simp only [PyData.showable]
    exact mild_showAll xs (by simpa [mild] using h)
  | .tuple xs, h => by
    simp only [PyData.showable]
    exact mild_showAll xs (by simpa [mild] using h)
  | .dict kvs, h => by
    simp only [PyData.showable]
    exact mild_showKv kvs (by simpa [mild] using h)
theorem mild_showAll : ∀ xs : List PyData, mildAll xs = true → PyData.showableAll xs = true
  | [], _ => rfl
  | x :: xs, h => by
    have h2 := Bool.and_eq_true_iff.mp (show (mild x && mildAll xs) = true by simpa [mildAll] using h)
    simp only [PyData.showableAll, mild_show x h2.1, mild_showAll xs h2.2, Bool.and_self]
theorem mild_showKv : ∀ kvs : List (PyData × PyData), mildKv kvs = true → PyData.showableKv kvs = true
  | [], _ => rfl
  | (k, v) :: r, h => by
    have h2 := Bool.and_eq_true_iff.mp (show (mild k && (mild v && mildKv r)) = true by simpa [mildKv] using h)
    have h3 := Bool.and_eq_true_iff.mp h2.2
    simp only [PyData.showableKv, mild_show k h2.1, mild_show v h3.1, mild_showKv r h3.2, Bool.and_self]
end
theorem textFrom_le : ∀ (ts : List Str) (k : Nat) (acc : Str), (textFrom k acc ts).length ≤ acc.length + piled ts
  | [], k, acc => by
    show acc.length ≤ acc.length + _
    omega
  | t :: r, k, acc => by
    have ih := textFrom_le r (k + 1) (acc ++ (if k > 0 then ", " else "" : String) ++ t)
    rw [piled_cons]
    show (textFrom (k + 1) (acc ++ (if k > 0 then ", " else "" : String) ++ t) r).length ≤ _
    rw [strLen_append, strLen_append] at ih
    have e : (Str.ofString (if k > 0 then ", " else "" : String)).length ≤ 2 := by
      by_cases hk : k > 0
      · rw [if_pos hk]; decide
      · rw [if_neg hk]; decide
    have e' : ((if k > 0 then ", " else "" : String) : Str).length ≤ 2 := e
    omega
theorem join_le (ts : List Str) : (Str.join ", " ts).length ≤ piled ts := by
  by_cases h : ts = []
  · subst h
    decide
  · have := join_length_add ts h
    omega
theorem piled_le : ∀ (xs : List PyData) (ts : List Str), ts.length = xs.length → (∀ (i : Nat) (x : PyData) (t : Str), xs[i]? = some x → ts[i]? = some t → t.length ≤ cap x) → piled ts ≤ capAll xs
  | [], [], _, _ => Nat.le_refl _
  | x :: xs, t :: ts, hl, h => by
    have h1 := h 0 x t rfl rfl
    have h2 := piled_le xs ts (by simpa using hl) fun i y u e1 e2 => h (i + 1) y u (by simpa using e1) (by simpa using e2)
    rw [piled_cons]
    simp only [capAll]
    omega
  | [], _ :: _, hl, _ => by simp at hl
  | _ :: _, [], hl, _ => by simp at hl
mutual
theorem shown_le : ∀ d : PyData, mild d = true → d.shown.length ≤ cap d
  | .none, _ => by simp only [PyData.shown, cap]; decide
  | .bool b, _ => by
    simp only [PyData.shown, cap]
    cases b <;> decide
  | .int i, h => by
    have h2 : i.natAbs.log2 < 1920 := by simpa [mild] using h
    have e := int_text_length_le (a := i) (k := 1920) (by decide) h2
    simp only [PyData.shown, cap]
    show (Str.ofString (toString i)).length ≤ 1921
    rw [PySem.ofString_length]
    exact e
  | .str x, h => by
    simp only [PyData.shown, cap]
    exact PySem.StrLaws.reprText_len x fun c hc => of_decide_eq_true (List.all_eq_true.mp (show (x.cps.toList.all fun c => decide (c < 16 ^ 8)) = true by simpa [mild] using h) c hc)
  | .list xs, h => by
    have h2 := shownAll_le xs (by simpa [mild] using h)
    simp only [PyData.shown, cap]
    have e := textFrom_le (PyData.shownAll xs) 0 "["
    unfold listText
    rw [strLen_append]
    have e1 : ("[" : Str).length = 1 := by decide
    have e2 : ("]" : Str).length = 1 := by decide
    omega
  | .tuple xs, h => by
    have h2 := shownAll_le xs (by simpa [mild] using h)
    simp only [PyData.shown, cap]
    have e := join_le (PyData.shownAll xs)
    unfold tupleText
    rw [strLen_append, strLen_append]
    have e1 : ("(" : Str).length = 1 := by decide
    have e2 : ((if (PyData.shownAll xs).length == 1 then ",)" else ")" : String) : Str).length ≤ 2 := by
      cases (PyData.shownAll xs).length == 1 <;> decide
    omega
  | .dict kvs, h => by
    have h2 := shownKv_le kvs (by simpa [mild] using h)
    simp only [PyData.shown, cap]
    have e := join_le (PyData.shownKv kvs)
    unfold dictText
    rw [strLen_append, strLen_append]
    have e1 : ("{" : Str).length = 1 := by decide
    have e2 : ("}" : Str).length = 1 := by decide
    omega
theorem shownAll_le : ∀ xs : List PyData, mildAll xs = true → piled (PyData.shownAll xs) ≤ capAll xs
  | [], _ => by simp only [PyData.shownAll, capAll]; decide
  | x :: xs, h => by
    have h2 := Bool.and_eq_true_iff.mp (show (mild x && mildAll xs) = true by simpa [mildAll] using h)
    have a := shown_le x h2.1
    have b := shownAll_le xs h2.2
    simp only [PyData.shownAll, capAll, piled_cons]
    omega
theorem shownKv_le : ∀ kvs : List (PyData × PyData), mildKv kvs = true → piled (PyData.shownKv kvs) ≤ capKv kvs
  | [], _ => by simp only [PyData.shownKv, capKv]; decide
  | (k, v) :: r, h => by
    have h2 := Bool.and_eq_true_iff.mp (show (mild k && (mild v && mildKv r)) = true by simpa [mildKv] using h)
    have h3 := Bool.and_eq_true_iff.mp h2.2
    have a := shown_le k h2.1
    have b := shown_le v h3.1
    have c := shownKv_le r h3.2
    simp only [PyData.shownKv, capKv, piled_cons]
    rw [strLen_append, strLen_append]
    have e1 : (": " : Str).length = 2 := by decide
    omega
end

/-! ### data in the abstract heap, with flat dicts -/
def keyD : Key → PyData
  | .inl i => .int i
  | .inr x => .str x
mutual
inductive Dx (K : PySem.W.Frag) (H : Hp) : V → PyData → Prop
  | non : Dx K H .non .none
  | bl (b : Bool) : Dx K H (.bl b) (.bool b)
  | int (i : Int) : Dx K H (.int i) (.int i)
  | str (x : Str) : Dx K H (.str x) (.str x)
  | lst {a : Addr} {xs : List V} {ds : List PyData} : SqL K H a xs → a ≠ sysModules → DxAll K H xs ds → Dx K H (.ref a) (.list ds)
  | tup {a : Addr} {xs : List V} {ds : List PyData} : SqT K H a xs → DxAll K H xs ds → Dx K H (.ref a) (.tuple ds)
  | dic {a : Addr} {kvs : List (Key × V)} {ds : List PyData} : H a = some (.dK kvs) → DxAll K H (kvs.map (·.2)) ds → Dx K H (.ref a) (.dict ((kvs.map fun p => keyD p.1).zip ds))
inductive DxAll (K : PySem.W.Frag) (H : Hp) : List V → List PyData → Prop
  | nil : DxAll K H [] []
  | cons {v : V} {vs : List V} {d : PyData} {ds : List PyData} : Dx K H v d → DxAll K H vs ds → DxAll K H (v :: vs) (d :: ds)
end
section
variable {X : Cx} {pins : List (Addr × Obj)} {σ : L2.St} {H : Hp} {s : Shared}
theorem DxAll.len : ∀ {vs : List V} {ds : List PyData}, DxAll X.K H vs ds → vs.length = ds.length
  | [], _, .nil => rfl
  | _ :: _, _, .cons _ t => by
    have := DxAll.len t
    simp [this]
theorem readsAll_keys {h : Heap} : ∀ {kvs : List (Key × V)} {ws : List (Key × Value)} {es : List DictEntry}, KV kvs ws → Pairs (mixKind X.prog X.w) es ws → ReadsAll h (es.map (·.key)) (kvs.map fun p => keyD p.1) []
  | [], _, _, .nil, .nil => .nil
  | (k, v) :: kvs, (k', u) :: ws, e :: es, .cons r t, .cons a b q => by
    obtain ⟨r1, r2⟩ := r
    have ih := readsAll_keys (h := h) t q
    have hk : keyIs k' e.key = true := a
    have r1' : k = k' := r1
    subst r1'
    rcases keyIs_shape hk with ⟨i, tk, e1, e2⟩ | ⟨x, tk, e1, e2⟩
    · subst e1
      show ReadsAll h (e.key :: es.map (·.key)) (PyData.int i :: _) ([] ++ [])
      rw [e2]
      exact .cons (.int i tk) ih
    · subst e1
      show ReadsAll h (e.key :: es.map (·.key)) (PyData.str x :: _) ([] ++ [])
      rw [e2]
      exact .cons (.str x tk) ih
theorem vals_of_pairs : ∀ {kvs : List (Key × V)} {ws : List (Key × Value)} {es : List DictEntry}, KV kvs ws → Pairs (mixKind X.prog X.w) es ws → Vals (kvs.map (·.2)) (es.map (·.val))
  | [], _, _, .nil, .nil => .nil
  | (k, v) :: kvs, (k', u) :: ws, e :: es, .cons r t, .cons a b q => by
    obtain ⟨r1, r2⟩ := r
    refine .cons ?_ (vals_of_pairs t q)
    have b' : e.val = u := b
    show RelV v e.val
    rw [b']
    exact r2
theorem map_fst_zip' {α β : Type} : ∀ {l : List α} {m : List β}, l.length = m.length → (l.zip m).map (·.1) = l
  | [], [], _ => rfl
  | _ :: l, _ :: m, h => by
    have := map_fst_zip' (l := l) (m := m) (by simpa using h)
    simp [this]
  | [], _ :: _, h => by simp at h
  | _ :: _, [], h => by simp at h
theorem map_snd_zip' {α β : Type} : ∀ {l : List α} {m : List β}, l.length = m.length → (l.zip m).map (·.2) = m
  | [], [], _ => rfl
  | _ :: l, _ :: m, h => by
    have := map_snd_zip' (l := l) (m := m) (by simpa using h)
    simp [this]
  | [], _ :: _, h => by simp at h
  | _ :: _, [], h => by simp at h
mutual
theorem Dx.reads (I : Inv X pins σ H s) : ∀ {v : V} {d : PyData} {u : Value}, Dx X.K H v d → RelV v u → ∃ as, Reads s.heap u d as ∧ sysModules ∉ as
  | _, _, _, .non, r => by
    cases r
    exact ⟨_, Reads.none, fun z => nomatch z⟩
  | _, _, _, .bl b, r => by
    cases r
    exact ⟨_, Reads.bool b, fun z => nomatch z⟩
  | _, _, _, .int i, r => by
    obtain ⟨t, rfl⟩ := r
    exact ⟨_, Reads.int i t, fun z => nomatch z⟩
  | _, _, _, .str x, r => by
    obtain ⟨t, rfl⟩ := r
    exact ⟨_, Reads.str x t, fun z => nomatch z⟩
  | _, _, _, .lst (a := a) hs hne ha, r => by
    cases r
    obtain ⟨its, rv, ⟨o, n, ho, hc, _, hd⟩, _⟩ := I.list hs
    obtain ⟨as, hr, hn⟩ := DxAll.reads I ha rv
    refine ⟨_, Reads.list ho hc hd hr, fun z => ?_⟩
    rcases List.mem_cons.mp z with z | z
    · exact hne z.symm
    · exact hn z
  | _, _, _, .tup hs ha, r => by
    cases r
    obtain ⟨its, rv, ⟨o, ho, hc, n, hd⟩, _⟩ := I.tuple hs
    obtain ⟨as, hr, hn⟩ := DxAll.reads I ha rv
    exact ⟨_, Reads.tuple ho hc hd hr, hn⟩
  | _, _, _, .dic (kvs := kvs) hs ha, r => by
    cases r
    obtain ⟨_, hsys, ws, hkv, o, es, ep, ho, hx, hd, _, hp, _⟩ := I.hok _ _ hs
    have hl := DxAll.len (X := X) ha
    have rv := vals_of_pairs (X := X) hkv hp
    obtain ⟨as, hr, hn⟩ := DxAll.reads I ha rv
    have hk := readsAll_keys (h := s.heap) hkv hp
    refine ⟨_, Reads.dict ho hx.1 hd (as := []) (bs := as) (by rw [map_fst_zip' (by rw [List.length_map, ← hl, List.length_map])]; exact hk) (by rw [map_snd_zip' (by rw [List.length_map, ← hl, List.length_map])]; exact hr), fun z => ?_⟩
    rcases List.mem_cons.mp (by simpa using z) with z | z
    · rw [← z] at hsys
      simp at hsys
    · exact hn z
theorem DxAll.reads (I : Inv X pins σ H s) : ∀ {vs : List V} {ds : List PyData} {us : List Value}, DxAll X.K H vs ds → Vals vs us → ∃ as, ReadsAll s.heap us ds as ∧ sysModules ∉ as
  | _, _, _, .nil, .nil => ⟨_, .nil, fun z => nomatch z⟩
  | _, _, _, .cons h t, .cons r q => by
    obtain ⟨as, h1, n1⟩ := Dx.reads I h r
    obtain ⟨bs, h2, n2⟩ := DxAll.reads I t q
    exact ⟨_, .cons h1 h2, fun z => (List.mem_append.mp z).elim n1 n2⟩
end
end
end Tw

/-! ### the rules -/
namespace Tw
open PySem PySem.Spec PyProof.Rows L2
theorem boot_repr : bootBuiltins "repr" = some (.builtin "repr") := by decide +kernel
section
variable {X : Cx}
/-- repr(x), x a list or a tuple of data -/
def rRepr (K : PySem.W.Frag) : List V → Hp → VK → Prop := fun xs H Q => ∃ (a : Addr) (d : PyData), xs = [.ref a] ∧ Dx K H (.ref a) d ∧ mild d = true ∧ d.depth ≤ 64 ∧ cap d ≤ 16777216 ∧ Q (.str d.shown) H
theorem call_repr (hG : NoG X.A) (hu : X.A.units + 70 < cLine) : CallR X (.builtin "repr") (rRepr X.K) := by
  intro pins s σ H xs us Q I r h
  obtain ⟨a, d, rfl, hd, hm, hdp, hc, q⟩ := h
  obtain ⟨u, rfl, ru⟩ := vals1 r
  obtain ⟨as, hr, hn⟩ := Dx.reads I hd ru
  cases (show u = Value.ref a from ru)
  exact repr_of_reads' hr (mild_show d hm) (fun _ => hn) hG (by omega) (fun _ _ e => e) (fun h' u tk hk => ⟨.str d.shown, H, I.kept (t' := tk) hk, ⟨_, rfl⟩, q⟩) (Nat.le_trans (shown_le d hm) (by rw [sizeLine_eq]; exact hc))
mutual
theorem dp_reads {pins : List (Addr × Obj)} {σ : L2.St} {H : Hp} {s : Shared} (I : Inv X pins σ H s) : ∀ {v : V} {d : PyData}, Dp X.K H v d → d.hasDict = false
  | _, _, .non => by simp only [PyData.hasDict]
  | _, _, .bl _ => by simp only [PyData.hasDict]
  | _, _, .int _ => by simp only [PyData.hasDict]
  | _, _, .str _ => by simp only [PyData.hasDict]
  | _, _, .lst _ ha => by
    simp only [PyData.hasDict]
    exact dpAll_reads I ha
  | _, _, .tup _ ha => by
    simp only [PyData.hasDict]
    exact dpAll_reads I ha
theorem dpAll_reads {pins : List (Addr × Obj)} {σ : L2.St} {H : Hp} {s : Shared} (I : Inv X pins σ H s) : ∀ {vs : List V} {ds : List PyData}, DpAll X.K H vs ds → PyData.hasDictAll ds = false
  | _, _, .nil => by simp only [PyData.hasDictAll]
  | _, _, .cons h t => by simp only [PyData.hasDictAll, dp_reads I h, dpAll_reads I t, Bool.or_self]
end
def rReprD (K : PySem.W.Frag) : List V → Hp → VK → Prop := fun xs H Q => ∃ (a : Addr) (d : PyData), xs = [.ref a] ∧ Dp K H (.ref a) d ∧ mild d = true ∧ d.depth ≤ 64 ∧ cap d ≤ 16777216 ∧ Q (.str d.shown) H
theorem call_reprD (hG : NoG X.A) (hu : X.A.units + 70 < cLine) : CallR X (.builtin "repr") (rReprD X.K) := by
  intro pins s σ H xs us Q I r h
  obtain ⟨a, d, rfl, hd, hm, hdp, hc, q⟩ := h
  obtain ⟨u, rfl, ru⟩ := vals1 r
  obtain ⟨as, hr⟩ := Dp.reads I d _ u hd ru
  cases (show u = Value.ref a from ru)
  exact repr_of_reads' hr (mild_show d hm) (PyData.noDict_hsm (dp_reads I hd)) hG (by omega) (fun _ _ e => e) (fun h' u tk hk => ⟨.str d.shown, H, I.kept (t' := tk) hk, ⟨_, rfl⟩, q⟩) (Nat.le_trans (shown_le d hm) (by rw [sizeLine_eq]; exact hc))
/-! ### lists that are known to stand elsewhere than the table of modules -/
variable {es : List Expr} {t : TA} {pos : Pos}
def tLstB (t : TA) : TE := fun σ H Q => t σ H fun xs H1 => xs.length ≤ sizeLine ∧ ∀ p, H1 p = none → p ≠ sysModules → Q (.ref p) (upd H1 p (.lst xs))
theorem pe_lstB (h : PA X es t) : PE X (.List es pos) (tLstB t) := by
  refine ⟨fun pins s σ H Q I hq => wpAny_List_spliced (thn (h.run pos pins s σ H _ I hq) fun us s1 ⟨xs, H1, I1, r, z, q⟩ => ⟨by rw [← r.length]; exact z, ?_⟩)⟩
  exact ⟨.ref s1.heap.objs.size, upd H1 s1.heap.objs.size (.lst xs), I1.laid (t' := s1.toks) (fun b u e => Heap.get?_push_of_some _ e) (Nat.le_refl _) ⟨z, us, 0, r, Heap.get?_push_size _ rfl⟩, rfl, q _ (I1.hok.fresh (Nat.le_refl _)) (Nat.ne_of_gt I1.big)⟩
def rCatB : R2 := fun x y H Q => ∃ l b xs zs, x = .ref l ∧ y = .ref b ∧ H l = some (.lst xs) ∧ H b = some (.lst zs) ∧ xs.length + zs.length ≤ sizeLine ∧ ∀ p, H p = none → p ≠ sysModules → Q (.ref p) (upd H p (.lst (xs ++ zs)))
theorem op_catB : OpR X (binaryOp .Add) rCatB := by
  intro pins s σ H x y v u Q I rx ry h
  obtain ⟨l, b, xs, zs, rfl, rfl, hH, hB, hz, q⟩ := h
  cases rx
  cases ry
  obtain ⟨z, its, n, r, hl, e⟩ := I.lstM hH
  obtain ⟨z2, its2, n2, r2, hl2, e2⟩ := I.lstM hB
  refine PySem.P.add_list e e2 ?_ (by rw [List.size_toArray, List.size_toArray]; omega)
  rw [show its.toArray ++ its2.toArray = (its ++ its2).toArray by simp]
  exact ⟨.ref _, _, I.lnew (t' := s.toks) (r.append r2) (by rw [List.length_append]; omega), rfl, q _ I.fresh (Nat.ne_of_gt I.big)⟩
end
end Tw
/-! Tw, part 3: errors of own classes as values. -/
namespace Tw
open PySem PySem.Spec PyProof.Rows L2

/-- at a: an error of the class at C (made or caught), its own dict at d -/
def exT (a C : Addr) (d : Option Addr) : HO := .ext fun h => ∃ (oe : Obj) (vs : Array Value), h.get? a = some oe ∧ Zc (.ref C) d oe ∧ oe.data = .fields vs
theorem exT_ok {P : Program} {w : World} {H : Hp} {h : Heap} {a C : Addr} {d : Option Addr} {oe : Obj} {vs : Array Value} (e : h.get? a = some oe) (z : Zc (.ref C) d oe) (hd : oe.data = .fields vs) : ObjOk P w H h a (exT a C d) :=
  ⟨⟨oe, vs, e, z, hd⟩, ⟨oe, e⟩, fun _ _ ⟨o, v, q, r⟩ k => ⟨o, v, k o q, r⟩⟩
def IsX (H : Hp) (a C : Addr) (d : Option Addr) : Prop := H a = some (exo a C d) ∨ H a = some (exT a C d)
def IsXd (H : Hp) (d : Addr) (fs : List (Str × V)) : Prop := H d = some (exd d fs) ∨ H d = some (.xd fs)
theorem IsX.get {P : Program} {w : World} {H : Hp} {h : Heap} {a C : Addr} {d : Option Addr} (hok : HOk P w H h) (x : IsX H a C d) : ∃ (oe : Obj) (vs : Array Value), h.get? a = some oe ∧ Zc (.ref C) d oe ∧ oe.data = .fields vs := by
  rcases x with e | e
  · obtain ⟨t1, q⟩ := exo_at hok e
    exact ⟨_, _, q, ⟨rfl, rfl⟩, rfl⟩
  · have x : ObjOk P w H h a (.ext fun h => ∃ (oe : Obj) (vs : Array Value), h.get? a = some oe ∧ Zc (.ref C) d oe ∧ oe.data = .fields vs) := hok a _ e
    exact x.1
theorem IsXd.get {P : Program} {w : World} {H : Hp} {h : Heap} {d : Addr} {fs : List (Str × V)} (hok : HOk P w H h) (x : IsXd H d fs) : ∃ mA, h.Ns1 d mA ∧ ∀ f, RelO (fs.lookup f) (mA f) := by
  rcases x with e | e
  · exact exd_at hok e
  · exact (show ObjOk P w H h d (.xd fs) from hok d _ e)
theorem IsX.same {H H' : Hp} {a C : Addr} {d : Option Addr} (e : Same H H') (x : IsX H a C d) : IsX H' a C d := x.imp (e _ _) (e _ _)
theorem IsXd.same {H H' : Hp} {d : Addr} {fs : List (Str × V)} (e : Same H H') (x : IsXd H d fs) : IsXd H' d fs := x.imp (e _ _) (e _ _)

/-- what the written part says of an error class -/
structure XC (K : PySem.W.Frag) (C : Addr) : Prop where
  ox : OexC K C
  ga : PySem.W.findIn K (.ref C) "__getattribute__" = some (some (.builtin "BaseException.__getattribute__"))
  gg : PySem.W.findIn K (.ref C) "__getattr__" = some none
  hd : PySem.W.hasDictIn K C = true
  ca : PySem.W.findIn K (.ref C) "__class__" = some (some (.builtin "object.__class__"))
  cm : PySem.W.mroIn K C (.type "object") = some true
/-- what it says of object.__class__ -/
structure XO (K : PySem.W.Frag) : Prop where
  hn : PySem.W.specialIn K (.builtin "object.__class__") "__get__" = some (some (.builtin "getset_descriptor.__get__"))
  ht : PySem.W.takesIn K (.builtin "object.__class__") = some true
theorem oexC_cl {K : PySem.W.Frag} {C : Addr} (T : OexC K C) : (PySem.W.clsIn K C).isSome = true := by
  obtain ⟨nm, q, N, bs, bm, sn, sub, ab, col, dd, k0, k1, k2, k3, k5, hC, _⟩ := T.cls
  unfold PySem.W.clsIn
  rw [hC]
  rfl
section
variable {X : Cx} {CX : CXT} {k : Nat} {fI C : Addr} {fd : FuncData} {ps : List Str} {sp : Sp} {dvs : List V} {ds : List Value} {E : XK} {x f : Str} {p pos : Pos} {e : Expr} {es : List Expr} {ta : TA} {te : TE}
/-- C(e, ..) as a value, C an error class whose __init__ keeps sp -/
def tMkX (C : Addr) (sp : Sp) (dvs : List V) (ta : TA) : TE := fun σ H Q => ta σ H fun vs H1 => vs.length ≤ 1000 ∧ ∀ a, H1 a = none → sp (.ref a :: (vs ++ dvs)) (upd H1 a (exo a C none)) (fun v H2 => v = .non ∧ Q (.ref a) H2) (fun _ _ _ => False)
theorem pe_mkX (T : OexC X.K C) (iC : PySem.W.findIn X.K (.ref C) "__init__" = some (some (.ref fI))) (tI : PySem.W.typeIn X.K (.ref fI) = some (.type "function"))
    (F1 : FnOk X.prog X.w X.K X.mg X.base CX k fI fd ps sp) (hr : Room (k + 1) X.A) (hb : Binds X.K fd ps ds) (hd : Vals dvs ds) (hx : Passes CX X (fun _ _ _ => False)) (hg : Gl X x) (hm : X.mg x = some (.ref C)) (ha : PA X (e :: es) ta)
    (hdb : (x == ("__debug__" : Str)) = false := by decide) (he : starEach (e :: es) X.env = (false, eval e X.env) :: starEach es X.env := by rfl) (hpl : (backTo pos (starEach es X.env)).any (·.1) = false := by rfl) :
    PE X (.Call (.Name x p) (e :: es) [] pos) (tMkX C sp dvs ta) := by
  refine ⟨fun pins s σ H Q I h => ?_⟩
  obtain ⟨nm, q, N, bs, bm, sn, sub, ab, col, dd, k0, k1, k2, k3, k5, hC, hbm⟩ := T.cls
  refine wpAny_Call_Name_kw (ld_glob I hg hm ?_ hdb)
  refine PySem.W.callWith_K (h₀ := X.base) I.ok.mod.kin T.kC (thn (ha.run pos pins s σ H _ I h) fun us s1 ⟨vs, H1, I1, r1, hz, q1⟩ => ⟨I1.kIn, ?_⟩) he hpl
  show wpAny _ _ (call (.ref C) us) _ _ _
  obtain ⟨hp, g, dr, tk, os⟩ := s1
  have hsz : hp.objs.size ≤ hp.objs.size + 1 := Nat.le_succ _
  have hq := q1 (hp.objs.size + 1) (I1.hok.fresh hsz)
  have kk : ∀ b o, hp.get? b = some o → ((hp.push (PySem.W.kdv_tup us)).push (PySem.HandSPX.excO C hp.objs.size)).get? b = some o := fun b o z => Heap.get?_push_of_some _ (Heap.get?_push_of_some _ z)
  have hget : ((hp.push (PySem.W.kdv_tup us)).push (PySem.HandSPX.excO C hp.objs.size)).get? (hp.objs.size + 1) = some (PySem.HandSPX.excO C hp.objs.size) := by heap_get
  have I2 := I1.laid (t' := tk) (a := hp.objs.size + 1) (o := exo (hp.objs.size + 1) C none) (h' := (hp.push (PySem.W.kdv_tup us)).push (PySem.HandSPX.excO C hp.objs.size)) kk hsz (exo_ok hget)
  have r2 : Vals (V.ref (hp.objs.size + 1) :: (vs ++ dvs)) (Value.ref (hp.objs.size + 1) :: (us ++ ds)) := .cons rfl (r1.append hd)
  have hl : (Value.ref (hp.objs.size + 1) :: us ++ ds).length = ps.length := r2.length.symm.trans (F1.len _ _ _ _ hq)
  have hus : us.length ≤ sizeLine := by
    rw [← Paired.length r1, sizeLine_eq]
    omega
  refine wpAny_call (PySem.HandSPX.call_own F.excBase_ValueError (fun Y => PySem.HandSPX.refsVE_contains Y bm hbm) (I1.kIn _ _ hC) (PySem.W.looks_findIn I1.kIn iC) (fun self => PySem.W.bind_fn I1.kIn self tI) hus
    (codeAny_mono (F1.run _ X.stack _ _ ⟨Value.ref (hp.objs.size + 1) :: us, []⟩ (Value.ref (hp.objs.size + 1) :: (us ++ ds)) _ _ (fun _ _ _ => False) (hr.make C us []) (I2.env0.make C us []) (hb _ (Value.ref (hp.objs.size + 1) :: us) I2.kIn hl) r2 hq) fun r s' hq' => ?_))
  match r, hq' with
  | .error er, hq' => exact hx pins σ _ _ er s' I2 hq'
  | .ok (.ret u), hq' =>
    obtain ⟨v, H2, os2, bare2, un2, hok2, rv, ev, q2⟩ := hq'
    subst ev
    obtain ⟨h2, g2, d2, t2, os'⟩ := s'
    obtain rfl : os' = os := os2
    exact ⟨rv, .ref (hp.objs.size + 1), H2, I2.call (h' := h2) (g' := g2) (d' := d2) (t' := t2) (ch := []) un2 hok2 bare2 (fun b z => nomatch z), rfl, q2⟩
/-- e.f, e an error -/
def tXfld (K : PySem.W.Frag) (f : Str) (te : TE) : TE := fun σ H Q => te σ H fun x H1 => ∃ (a C d : Addr) (fs : List (Str × V)) (v : V), x = .ref a ∧ IsX H1 a C (some d) ∧ XC K C ∧ PySem.W.findIn K (.ref C) f = some none ∧ IsXd H1 d fs ∧ fs.lookup f = some v ∧ Q v H1
theorem pe_xfld (he : PE X e te) (hb : attributeBase e f X.env (eval e X.env) = eval e X.env := by rfl) : PE X (.Attribute e f pos) (tXfld X.K f te) := by
  refine ⟨fun pins s σ H Q I h => attr_of hb (thn (he.run pins s σ H _ I h) fun u s1 hh => ?_)⟩
  obtain ⟨x, H1, I1, rx, a, C, d, fs, v, ex, ia, T, hno, idd, hl, q⟩ := hh
  subst ex
  obtain rfl : u = Value.ref a := rx
  obtain ⟨oe, vs, ho, hz, hdt⟩ := ia.get I1.hok
  obtain ⟨mA, hns, hr⟩ := idd.get I1.hok
  obtain ⟨od, hod, hlk⟩ := lookIn_ns hns
  obtain ⟨u, hu, ru⟩ := RelO.some_of (v := v) (o := mA f) (by rw [← hl]; exact hr f)
  have J : PySem.W.InstAt s1.heap a oe C (some od) := ⟨ho, hz.1, by unfold PySem.W.notCls; rw [hdt] <;> rfl, by rw [hz.2]; exact hod⟩
  exact HandSPX.exc_get I1.kIn J T.ga T.gg T.ox.exC (PySem.W.findObj_own T.hd hno rfl (by rw [hlk, hu])) (handed_of ru) ⟨v, H1, I1.tok _, ru, q⟩
/-- isinstance(x, c), x anything that is known, errors too -/
def rIsA (K : PySem.W.Frag) : List V → Hp → VK → Prop := fun xs H Q => ∃ (x c : V) (t u : Value) (b : Bool), xs = [x, c] ∧ ClsV c u ∧ (TyX K H x t ∨ ∃ (a C : Addr) (d : Addr) (fs : List (Str × V)), x = .ref a ∧ t = .ref C ∧ IsX H a C (some d) ∧ IsXd H d fs ∧ XC K C ∧ XO K) ∧ PySem.W.kitOne K t u = some b ∧ Q (.bl b) H
theorem call_isA : CallR X (.builtin "isinstance") (rIsA X.K) := by
  intro pins s σ H xs us Q I r h
  obtain ⟨x, c, t, u, b, rfl, k, ty, e, q⟩ := h
  obtain ⟨u1, u2, rfl, r1, r2⟩ := vals2 r
  have e2 := k.eq r2
  subst e2
  rcases ty with ty | ⟨a, C, d, fs, rfl, rfl, ia, idd, T, O⟩
  · obtain ⟨P, Z, p, hx⟩ := kit_of I r1 ty
    exact PySem.W.kia_one Z I.kIn p e hx fun tk => ⟨.bl b, H, I.tok tk, rfl, q⟩
  · cases (show u1 = Value.ref a from r1)
    obtain ⟨oe, vs, ho, hz, hdt⟩ := ia.get I.hok
    obtain ⟨mA, hns, hr⟩ := idd.get I.hok
    obtain ⟨od, hod, hlk⟩ := lookIn_ns hns
    have J : PySem.W.InstAt s.heap a oe C (some od) := ⟨ho, hz.1, by unfold PySem.W.notCls; rw [hdt] <;> rfl, by rw [hz.2]; exact hod⟩
    exact PySem.W.kia_one (PySem.W.kitx_exc (od := some od) (oexC_cl T.ox) T.ga T.gg T.ox.exC T.ca O.hn O.ht T.cm) I.kIn J e (fun z => nomatch z) fun tk => ⟨.bl b, H, I.tok tk, rfl, q⟩
end
end Tw
/-! Tw, part 4: the head's facts by names, error classes too. -/
namespace Tw
open PySem PySem.Spec PyProof.Rows L2 He
abbrev Fg := PySem.W.Frag
def excB (K : Fg) (C : Addr) : Bool := match K.lookup C with
  | some ⟨.type t, _, .cls cd, sl⟩ => (match cd.mro, sl.toList with
    | .ref C' :: bm, [_, _, _, _, some (.builtin n), _] => decide (t = "type") && (decide (C' = C) && (decide (n = "ValueError.__new__") && (!cd.hasDel && (cd.hasDict && PySem.HandSPX.refsVE bm))))
    | _, _ => false)
  | _ => false
theorem excB_ok {K : Fg} {C : Addr} (h : excB K C = true) : ∃ nm q N bs bm sn sub ab col dd k0 k1 k2 k3 k5, K.lookup C = some (excClassObj nm q C N bs bm true sn sub ab col dd k0 k1 k2 k3 k5 "ValueError.__new__") ∧ PySem.HandSPX.refsVE bm = true := by
  unfold excB at h
  cases e : K.lookup C with
  | none =>
    rw [e] at h
    cases h
  | some o =>
    rw [e] at h
    obtain ⟨oc, od, dt, sl⟩ := o
    cases oc with
    | type t =>
      cases dt with
      | cls cd =>
        obtain ⟨nm, bs, mro, ns, q, hd, sn, sb, ab, col, del⟩ := cd
        dsimp only at h
        obtain ⟨sl⟩ := sl
        dsimp only at h
        match mro, sl, h with
        | .ref C' :: bm, [k0, k1, k2, k3, some (.builtin n), k5], h =>
          obtain ⟨h1, h⟩ := ba h
          obtain ⟨h2, h⟩ := ba h
          obtain ⟨h3, h⟩ := ba h
          obtain ⟨h4, h⟩ := ba h
          obtain ⟨h5, h6⟩ := ba h
          have e1 := of_decide_eq_true h1
          have e2 := of_decide_eq_true h2
          have e3 := of_decide_eq_true h3
          subst e1 e2 e3
          have e4 : del = false := by simpa using h4
          subst e4
          subst h5
          exact ⟨_, _, _, _, _, _, _, _, _, _, _, _, _, _, _, rfl, h6⟩
      | _ => cases h
    | _ => cases h
inductive Fy where
  | fa (f : Fa)
  | xc (x : Str)
  | xo
  | ini (x : Str)
  | kit (x y : Str) (b : Bool)
  | kitT (x : Str) (T : String) (b : Bool)
  | names (x : Str) (zs : List Str)
def Fy.ok (K : Fg) : Fy → Bool
  | .fa f => f.ok K
  | .xc x => excB K (ga K x) && (eqO (PySem.W.findIn K (.ref (ga K x)) "__setattr__") (some (some (.builtin "object.__setattr__"))) && (decide (PySem.W.subIn K (.ref (ga K x)) (.type "BaseException") = some true) && (decide (PySem.W.typeIn K (.ref (ga K x)) = some (.type "type")) &&
      (PySem.W.keepIn K (.ref (ga K x)) && (eqO (PySem.W.findIn K (.ref (ga K x)) "__getattribute__") (some (some (.builtin "BaseException.__getattribute__"))) && (eqO (PySem.W.findIn K (.ref (ga K x)) "__getattr__") (some none) &&
      (PySem.W.hasDictIn K (ga K x) && (eqO (PySem.W.findIn K (.ref (ga K x)) "__class__") (some (some (.builtin "object.__class__"))) && decide (PySem.W.mroIn K (ga K x) (.type "object") = some true)))))))))
  | .xo => eqO (PySem.W.specialIn K (.builtin "object.__class__") "__get__") (some (some (.builtin "getset_descriptor.__get__"))) && decide (PySem.W.takesIn K (.builtin "object.__class__") = some true)
  | .ini x => eqO (PySem.W.findIn K (.ref (ga K x)) "__init__") (some (some (.ref (ma K (ga K x) "__init__")))) && decide (PySem.W.typeIn K (.ref (ma K (ga K x) "__init__")) = some (.type "function"))
  | .kit x y b => decide (PySem.W.kitOne K (.ref (ga K x)) (.ref (ga K y)) = some b)
  | .kitT x T b => decide (PySem.W.kitOne K (.ref (ga K x)) (.type T) = some b)
  | .names x zs => zs.all fun z => eqO (PySem.W.findIn K (.ref (ga K x)) z) (some none)
section
variable {K : Fg} {h : Heap} {mg : Str → Option Value}
theorem xc_ok {x : Str} (c : (Fy.xc x).ok K = true) : XC K (ga K x) := by
  obtain ⟨c1, c⟩ := ba c
  obtain ⟨c2, c⟩ := ba c
  obtain ⟨c3, c⟩ := ba c
  obtain ⟨c4, c⟩ := ba c
  obtain ⟨c5, c⟩ := ba c
  obtain ⟨c6, c⟩ := ba c
  obtain ⟨c7, c⟩ := ba c
  obtain ⟨c8, c⟩ := ba c
  obtain ⟨c9, c10⟩ := ba c
  exact ⟨⟨excB_ok c1, eqO_ok c2, of_decide_eq_true c3, of_decide_eq_true c4, c5⟩, eqO_ok c6, eqO_ok c7, c8, eqO_ok c9, of_decide_eq_true c10⟩
theorem xo_ok (c : Fy.xo.ok K = true) : XO K := by
  unfold Fy.ok at c
  obtain ⟨c1, c2⟩ := ba c
  exact ⟨eqO_ok c1, of_decide_eq_true c2⟩
theorem ini_ok {x : Str} (c : (Fy.ini x).ok K = true) : PySem.W.findIn K (.ref (ga K x)) "__init__" = some (some (.ref (ma K (ga K x) "__init__"))) ∧ PySem.W.typeIn K (.ref (ma K (ga K x) "__init__")) = some (.type "function") := by
  obtain ⟨c1, c2⟩ := ba c
  exact ⟨eqO_ok c1, of_decide_eq_true c2⟩
theorem kit_ok {x y : Str} {b : Bool} (c : (Fy.kit x y b).ok K = true) : PySem.W.kitOne K (.ref (ga K x)) (.ref (ga K y)) = some b := of_decide_eq_true c
theorem kitT_ok {x : Str} {T : String} {b : Bool} (c : (Fy.kitT x T b).ok K = true) : PySem.W.kitOne K (.ref (ga K x)) (.type T) = some b := of_decide_eq_true c
theorem names_ok {x : Str} {zs : List Str} (c : (Fy.names x zs).ok K = true) {z : Str} (hz : z ∈ zs) : PySem.W.findIn K (.ref (ga K x)) z = some none := eqO_ok (List.all_eq_true.mp c z hz)
end
/-! ### the hook: any truths of the written part, in groups -/
abbrev Fz := List (Fg → Bool)
def obsY (fs : Fz) (fn : List DefD) (K : Fg) : AlD := ((fs.all fun f => f K) && fn.all fun d => d.ok K, fn.map fun d => fnW K d.at_)
def SaysY (fs : Fz) (fn : List DefD) (K : Fg) : Prop := obsY fs fn K = valD fn
def obsYG (n : Nat) (fs : Fz) (fn : List DefD) (g : Addr → Option Obj) : AlD := obsY fs fn (frG g (asD g n))
def hookY (n : Nat) (fs : Fz) (fn : List DefD) : PySem.W.Hook where
  α := AlD
  obs := fun s => obsYG n fs fn s.heap.get?
  val := fun _ => valD fn
  says := fun _ h => ∃ K : Fg, K.In h ∧ SaysY fs fn K
  of := fun _ _ e => ⟨_, frG_in, e⟩
  keeps := fun _ _ _ ⟨K, hK, c⟩ k => ⟨K, PySem.W.Frag.In.keeps hK k, c⟩
theorem obsYG_eq {n : Nat} {fs : Fz} {fn : List DefD} {g : Addr → Option Obj} {s : Shared} (h : ∀ a, g a = s.heap.get? a) : obsYG n fs fn g = (hookY n fs fn).obs s := by
  have e : g = s.heap.get? := funext h
  rw [e] <;> rfl
section
variable {fs : Fz} {fn : List DefD} {K : Fg}
theorem SaysY.fact (c : SaysY fs fn K) (i : Nat) {f : Fg → Bool} (h : fs[i]? = some f := by rfl) : f K = true := by
  have c1 := (ba (show ((fs.all fun f => f K) && fn.all fun d => d.ok K) = true from congrArg (fun z : AlD => z.1) c)).1
  exact List.all_eq_true.mp c1 f (List.mem_of_getElem? h)
theorem SaysY.def_ (c : SaysY fs fn K) (i : Nat) {d : DefD} (h : fn[i]? = some d := by rfl) : ∃ fd, FunD K d.name d.qual d.params d.body d.scope (d.dvs K) (d.kws K) (fAd K d.at_) fd := by
  have c2 := (ba (show ((fs.all fun f => f K) && fn.all fun d => d.ok K) = true from congrArg (fun z : AlD => z.1) c)).2
  have e : fn.map (fun d => fnW K d.at_) = fn.map DefD.val := congrArg (fun z : AlD => z.2) c
  have e2 : (fn.map fun d => fnW K d.at_)[i]? = (fn.map DefD.val)[i]? := by rw [e]
  rw [List.getElem?_map, List.getElem?_map, h] at e2
  exact DefD.funD (Option.some.inj e2) (List.all_eq_true.mp c2 d (List.mem_of_getElem? h))
/-- a group told of each item of a list -/
theorem of_all {α : Type} {l : List α} {f : α → Bool} (h : l.all f = true) {x : α} (hx : x ∈ l) : f x = true := List.all_eq_true.mp h x hx
end
/-! ### defs as data -/
abbrev FnP (K : Fg) (x qual : Str) (st : Stmt) (f : Addr) (fd : FuncData) : Prop := FunD K x qual (defArgs st) (defBody st) (defScope st) [] [] f fd
theorem _root_.L2.FunD.okG {P : Program} {w : World} {K : Fg} {mg : Str → Option Value} {base : Heap} {CX : CXT} {x qual : Str} {params : Arguments} {body : List Stmt} {scope : Scope} {dvs : List V} {kws : List (Str × V)} {f : Addr} {fd : FuncData} {N ps : List Str} {k : Nat} {sp : Sp}
    (F : FunD K x qual params body scope dvs kws f fd) (S : FnScope N ps scope) (len : ∀ vs H Q E, sp vs H Q E → vs.length = ps.length)
    (hbody : ∀ (cdv : Value) (A : Around) (outer : List Env) (s : Shared) (H : Hp) (vs : List V) (Q : VK) (E : XK), Room k (A.deeper (envOfC qual scope s.heap.objs.size f cdv)) → NoG (A.deeper (envOfC qual scope s.heap.objs.size f cdv)) → sp vs H Q E →
      ∃ t, PSs (cxOf CX P w K mg base N qual scope f cdv A outer s H E) body t ∧ t { nx := fun _ H' => Q .non H', rt := Q } (start N vs) H) : FnG P w K mg base CX (k + 1) f fd ps sp := by
  obtain ⟨oc, od, dV, kV, doc, pm, an, cdv, ct, osl, rfl, lk, hcd, _, _⟩ := F.ex
  exact fng lk hcd S len fun A outer s H vs Q E hr hg hsp => hbody cdv A outer s H vs Q E hr hg hsp
/-! ### the law's end over facts -/
theorem walk_ofEG {l : PySem.W.OpenLaw} {n k : Nat} {q : Program} {loose : List Str} {XP : (Str → Option Value) → Heap → Prop} {YP : World → Heap → Prop} {d : DefRec} {CX : CXT} {x : Str}
    (hn : l.most = some n) (hn2 : n ≤ sizeLine) (hdf : d.params.defaults = []) (hr : Room k callerA)
    (F : ∀ (w : World) (mg : Str → Option Value) (fa : Addr) (h : Heap), YP w h → h.Ns mainGlobals mg → mg d.name = some (.ref fa) →
      ∃ (K : Fg) (fd : FuncData) (sp : Sp), K.In h ∧ (∀ (s : Shared) (u : Value), BindsTo s fd ⟨[u], []⟩ [(x, u)]) ∧
        (∀ (H : Hp) (a : Addr) (ns : List Int), ns.length ≤ n → Only H → SqL K H a (ns.map V.int) → sp [.ref a] H (fun v _ => v = .bl true) fun _ _ _ => False) ∧
        ∀ base : Heap, K.In base → base.Ns mainGlobals mg → FnG l.prog w K mg base CX k fa fd [x] sp)
    (hCX : ∀ (H : Hp) (s : Shared) (e : Value) (s' : Shared), CX [] H s (fun _ _ _ => False) e s' → False) :
    PySem.W.WalkO q loose XP YP l.row.toRowW d [] (fun f vs => PySem.call f vs) := by
  refine Att.attach_call hn hdf fun w s₀ s₁ mg mb fa o pm cd doc a vs ns G Y ho hd hcd hmg hobj hints hlen hg => ?_
  obtain ⟨K, fd, sp, KX, hb, hsp, hF⟩ := F w mg fa _ Y G.T.g hmg
  exact law_endG KX G.T.g G.T.b G.T.builtins G.T.nolimit hg hobj hints (Nat.le_trans hlen hn2) hr hF hb (fun H hO hS => hsp H a ns hlen hO hS) fun H e s' => hCX H s₁ e s'
end Tw
/-! Tw: new objects, told by what holds of the heap behind them alone. -/
namespace Tw
open PySem PySem.Spec PyProof.Rows L2
theorem same_new {H : Hp} {p : Addr} {o : HO} (h : H p = none) : Same H (upd H p o) := fun b u e => by
  rw [upd_ne (ne_of_none e h)]
  exact e
section
variable {X : Cx} {es : List Expr} {t : TA} {pos : Pos}
/-- a new object o: its place, the heap behind -/
def New (H : Hp) (o : HO) (Q : Addr → Hp → Prop) : Prop := ∀ (p : Addr) (H' : Hp), H p = none → p ≠ sysModules → Same H H' → H' p = some o → Q p H'
theorem New.at {H : Hp} {o : HO} {Q : Addr → Hp → Prop} (h : New H o Q) {p : Addr} (h1 : H p = none) (h2 : p ≠ sysModules) : Q p (upd H p o) := h p _ h1 h2 (same_new h1) upd_same
def tLstN (t : TA) : TE := fun σ H Q => t σ H fun xs H1 => xs.length ≤ sizeLine ∧ New H1 (.lst xs) fun p H' => Q (.ref p) H'
theorem pe_lstN (h : PA X es t) : PE X (.List es pos) (tLstN t) := by
  refine ⟨fun pins s σ H Q I hq => wpAny_List_spliced (thn (h.run pos pins s σ H _ I hq) fun us s1 ⟨xs, H1, I1, r, z, q⟩ => ⟨by rw [← r.length]; exact z, ?_⟩)⟩
  exact ⟨.ref s1.heap.objs.size, upd H1 s1.heap.objs.size (.lst xs), I1.laid (t' := s1.toks) (fun b u e => Heap.get?_push_of_some _ e) (Nat.le_refl _) ⟨z, us, 0, r, Heap.get?_push_size _ rfl⟩, rfl, q.at (I1.hok.fresh (Nat.le_refl _)) (Nat.ne_of_gt I1.big)⟩
def tTupN (t : TA) : TE := fun σ H Q => t σ H fun xs H1 => xs.length ≤ sizeLine ∧ ∀ (p : Addr) (H' : Hp), H1 p = none → Same H1 H' → H' p = some (.tup xs) → Q (.ref p) H'
theorem pe_tupN {x1} (h : PA X es t) : PE X (.Tuple es x1 pos) (tTupN t) := by
  refine ⟨fun pins s σ H Q I hq => wpAny_Tuple_spliced (thn (h.run pos pins s σ H _ I hq) fun us s1 ⟨xs, H1, I1, r, z, q⟩ => ⟨by rw [← r.length]; exact z, ?_⟩)⟩
  have hf : H1 s1.heap.objs.size = none := I1.hok.fresh (Nat.le_refl _)
  exact ⟨.ref s1.heap.objs.size, upd H1 s1.heap.objs.size (.tup xs), I1.laid (t' := s1.toks) (fun b u e => Heap.get?_push_of_some _ e) (Nat.le_refl _) ⟨z, us, r, _, Heap.get?_push_size _ rfl, rfl, 0, rfl⟩, rfl, q _ _ hf (same_new hf) upd_same⟩
def tDnewN : TE := fun _ H Q => New H (.dK []) fun p H' => Q (.ref p) H'
theorem pe_dnewN : PE X (.Dict [] [] pos) tDnewN := ⟨fun pins s σ H Q I h =>
  wpAny_Dict_empty ⟨.ref s.heap.objs.size, _, I.laid (a := s.heap.objs.size) (o := .dK []) (t' := s.toks) (fun _ _ q => Heap.get?_push_of_some _ q) (Nat.le_refl _) (dk_empty s.heap I.big), rfl, h.at (I.hok.fresh (Nat.le_refl _)) (Nat.ne_of_gt I.big)⟩⟩
def rCatN : R2 := fun x y H Q => ∃ l b xs zs, x = .ref l ∧ y = .ref b ∧ H l = some (.lst xs) ∧ H b = some (.lst zs) ∧ xs.length + zs.length ≤ sizeLine ∧ New H (.lst (xs ++ zs)) fun p H' => Q (.ref p) H'
theorem op_catN : OpR X (binaryOp .Add) rCatN := by
  intro pins s σ H x y v u Q I rx ry h
  obtain ⟨l, b, xs, zs, rfl, rfl, hH, hB, hz, q⟩ := h
  cases rx
  cases ry
  obtain ⟨z, its, n, r, hl, e⟩ := I.lstM hH
  obtain ⟨z2, its2, n2, r2, hl2, e2⟩ := I.lstM hB
  refine PySem.P.add_list e e2 ?_ (by rw [List.size_toArray, List.size_toArray]; omega)
  rw [show its.toArray ++ its2.toArray = (its ++ its2).toArray by simp]
  exact ⟨.ref _, _, I.lnew (t' := s.toks) (r.append r2) (by rw [List.length_append]; omega), rfl, q.at I.fresh (Nat.ne_of_gt I.big)⟩
end
end Tw
namespace Tw
open PySem PySem.Spec PyProof.Rows L2
theorem room70 {k : Nat} {A : Around} (r : Room k A) : A.units + 70 < cLine := by
  have := r.un
  omega
section
variable {X : Cx} {K : PySem.W.Frag}
theorem ixl (K : PySem.W.Frag) (h : X.K = K := by rfl) : IxR X (rIxL K) := by
  subst h
  exact ix_list
theorem ixt (K : PySem.W.Frag) (h : X.K = K := by rfl) : IxR X (rIxT K) := by
  subst h
  exact ix_tup
end
end Tw
/-! Tw, part 5: the pen that draws. -/
namespace Tw
open PySem PySem.Spec PyProof.Rows L2 He
/-- a statement, what holds behind it on every way, the rest once -/
def tMid (t u : TS) : TS := fun D σ H => ∃ W : L2.St → Hp → Prop, t { D with nx := W } σ H ∧ ∀ σ' H', W σ' H' → u D σ' H'
theorem pss_mid {X : Cx} {st : Stmt} {rest : List Stmt} {t u : TS} (h1 : PS X st t) (h2 : PSs X rest u) : PSs X (st :: rest) (tMid t u) :=
  ⟨fun pins s σ H D I ⟨W, hm, hu⟩ => wpAny_execs_cons (thn (h1.run pins s σ H { D with nx := W } I hm) fun f s1 q => match f, q with
    | .next, ⟨σ', H', I', q⟩ => h2.run pins s1 σ' H' D I' (hu σ' H' q)
    | .ret _, q => q
    | .brk, q => q
    | .cont, q => q)⟩
/-- all that was tracked but p stands -/
def But (p : Addr) (H H' : Hp) : Prop := ∀ b o, H b = some o → b ≠ p → H' b = some o
theorem But.refl {p : Addr} (H : Hp) : But p H H := fun _ _ e _ => e
theorem But.trans {p : Addr} {H H1 H2 : Hp} (a : But p H H1) (b : But p H1 H2) : But p H H2 := fun c o e h => b c o (a c o e h) h
theorem But.of {p : Addr} {H H' : Hp} (e : Same H H') : But p H H' := fun b o h _ => e b o h
theorem But.upd {p : Addr} {H : Hp} {o : HO} : But p H (upd H p o) := fun b u e h => by
  rw [upd_ne h]
  exact e
/-- the pen: the script's ints, the number of draws so far, what is left of a great number -/
def PenAt (H : Hp) (p : Addr) (c : Nat) : Prop := ∃ (l : Addr) (ns : List Int) (i g : Int), H p = some (.lst [.ref l, .int i, .int g]) ∧ H l = some (.lst (ns.map V.int)) ∧ l ≠ p ∧ ns.length ≤ 63 ∧ 0 ≤ i ∧ i ≤ (c : Int) ∧ 0 ≤ g
theorem PenAt.mono {H : Hp} {p : Addr} {c c' : Nat} (h : PenAt H p c) (hc : c ≤ c') : PenAt H p c' := by
  obtain ⟨l, ns, i, g, h1, h2, h3, h4, h5, h6, h7⟩ := h
  exact ⟨l, ns, i, g, h1, h2, h3, h4, h5, by omega, h7⟩
theorem PenAt.same {H H' : Hp} {p : Addr} {c : Nat} (e : Same H H') (h : PenAt H p c) : PenAt H' p c := by
  obtain ⟨l, ns, i, g, h1, h2, h3⟩ := h
  exact ⟨l, ns, i, g, e _ _ h1, e _ _ h2, h3⟩
/-- a draw: below many, the pen one further, nothing else touched -/
def spDraw : Sp := fun vs H Q _ => ∃ (p : Addr) (m : Int) (c : Nat), vs = [.ref p, .int m] ∧ 0 < m ∧ m < 1073741824 ∧ PenAt H p c ∧ c ≤ 1000000 ∧
  ∀ (r : Int) (H' : Hp), 0 ≤ r → r < m → PenAt H' p (c + 1) → But p H H' → Q (.int r) H'
theorem dp_ints {K : Fg} {H : Hp} : ∀ ns : List Int, DpAll K H (ns.map V.int) (ns.map PyData.int)
  | [] => .nil
  | n :: ns => .cons (.int n) (dp_ints ns)
theorem lay_ints : ∀ ns : List Int, PyData.canLayAll0 (ns.map PyData.int) = true ∧ PyData.depthAll (ns.map PyData.int) = 0
  | [] => ⟨rfl, rfl⟩
  | n :: ns => by
    obtain ⟨h1, h2⟩ := lay_ints ns
    constructor
    · simp only [List.map_cons, PyData.canLayAll0, PyData.canLay0, h1, Bool.and_self]
    · simp only [List.map_cons, PyData.depthAll, PyData.depth, h2, Nat.max_self]
theorem shaped_ints (ns : List Int) : SeqAt.shaped (.list (ns.map PyData.int)) = true := by
  obtain ⟨h1, h2⟩ := lay_ints ns
  simp [SeqAt.shaped, PyData.canLay0, PyData.depth, h1, h2]
theorem atI_of {xs : List V} {i : Int} {v : V} (h0 : 0 ≤ i) (h : xs[i.toNat]? = some v) : atI xs i = some v := by
  have e : i = (i.toNat : Int) := (Int.toNat_of_nonneg h0).symm
  rw [e]
  exact atI_nat h
theorem mul_le' {a b A B : Int} (h1 : 0 ≤ a) (h2 : a ≤ A) (h3 : 0 ≤ b) (h4 : b ≤ B) : 0 ≤ a * b ∧ a * b ≤ A * B :=
  ⟨Int.mul_nonneg h1 h3, Int.mul_le_mul h2 h4 h3 (Int.le_trans h1 h2)⟩
theorem pow_ok (i : Int) (h0 : 0 ≤ i) (h : i < 2 ^ 64) : i.natAbs < 2 ^ 64 := by omega
end Tw
namespace Tw
open PySem PySem.Spec PyProof.Rows L2 He
theorem But.seq {K : Fg} {p a : Addr} {H H' : Hp} {xs : List V} (e : But p H H') (hne : a ≠ p) (h : SqL K H a xs) : SqL K H' a xs := by
  rcases h with (h | ⟨o, h⟩) | h
  · exact .inl (.inl (e _ _ h hne))
  · exact .inl (.inr ⟨o, e _ _ h hne⟩)
  · exact .inr h
theorem cut_ints (ns : List Int) (lo hi : Option Int) : ∃ ms : List Int, cutV (ns.map V.int) lo hi = ms.map V.int ∧ ms.length ≤ ns.length := by
  refine ⟨(ns.drop (HT.sIx (ns.map V.int).length 0 lo)).take (HT.sIx (ns.map V.int).length (ns.map V.int).length hi - HT.sIx (ns.map V.int).length 0 lo), ?_, ?_⟩
  · unfold cutV
    rw [List.map_take, List.map_drop]
  · rw [List.length_take, List.length_drop]
    omega
/-- a new pen -/
def spPen (K : Fg) : Sp := fun vs H Q _ => ∃ (a : Addr) (ns : List Int), vs = [.ref a] ∧ SqL K H a (ns.map V.int) ∧ ns.length ≤ 63 ∧ ∀ (p : Addr) (H' : Hp), H p = none → PenAt H' p 0 → Same H H' → Q (.ref p) H'
/-- an item of a list that is not the pen, drawn -/
def spPick (K : Fg) : Sp := fun vs H Q _ => ∃ (p q : Addr) (xs : List V) (c : Nat), vs = [.ref p, .ref q] ∧ SqL K H q xs ∧ q ≠ p ∧ 0 < xs.length ∧ xs.length < 1000 ∧ PenAt H p c ∧ c ≤ 1000000 ∧
  ∀ (v : V) (H' : Hp), v ∈ xs → PenAt H' p (c + 1) → But p H H' → Q v H'
/-- the heap without the pen -/
def hid (p : Addr) (H : Hp) : Hp := fun b => if b = p then none else H b
theorem hid_ne {p b : Addr} {H : Hp} (h : b ≠ p) : hid p H b = H b := if_neg h
theorem hid_same {p : Addr} {H : Hp} : Same (hid p H) H := fun b o e => by
  unfold hid at e
  split at e
  · cases e
  · exact e
theorem hid_but {p : Addr} {H H' : Hp} (e : But p H H') : Same (hid p H) (hid p H') := fun b o h => by
  unfold hid at h ⊢
  split at h
  · cases h
  · rename_i hb
    rw [if_neg hb]
    exact e b o h hb
theorem sqT_same {K : Fg} {H H' : Hp} {a : Addr} {xs : List V} (e : Same H H') (h : SqT K H a xs) : SqT K H' a xs := by
  rcases h with (h | ⟨o, h⟩) | h
  · exact .inl (.inl (e _ _ h))
  · exact .inl (.inr ⟨o, e _ _ h⟩)
  · exact .inr h
mutual
theorem Dx.same {K : Fg} {H H' : Hp} (e : Same H H') : ∀ {v : V} {d : PyData}, Dx K H v d → Dx K H' v d
  | _, _, .non => .non
  | _, _, .bl b => .bl b
  | _, _, .int i => .int i
  | _, _, .str x => .str x
  | _, _, .lst h n a => .lst (e.seq h) n (DxAll.same e a)
  | _, _, .tup h a => .tup (sqT_same e h) (DxAll.same e a)
  | _, _, .dic h a => .dic (e _ _ h) (DxAll.same e a)
theorem DxAll.same {K : Fg} {H H' : Hp} (e : Same H H') : ∀ {vs : List V} {ds : List PyData}, DxAll K H vs ds → DxAll K H' vs ds
  | _, _, .nil => .nil
  | _, _, .cons h t => .cons (Dx.same e h) (DxAll.same e t)
end
theorem sz1000 {n : Nat} (h : n ≤ 1000) : n ≤ sizeLine := Nat.le_trans h (by decide)
end Tw
/-! Tw: the pen again, its list of cells named: so that a list that grows beside it is known to be another one. -/
namespace Tw
open PySem PySem.Spec PyProof.Rows L2 He
/-- the pen at p, its cells at l -/
def PenL (H : Hp) (p l : Addr) (c : Nat) : Prop := ∃ (ns : List Int) (i g : Int), H p = some (.lst [.ref l, .int i, .int g]) ∧ H l = some (.lst (ns.map V.int)) ∧ l ≠ p ∧ ns.length ≤ 63 ∧ 0 ≤ i ∧ i ≤ (c : Int) ∧ 0 ≤ g
theorem PenL.mono {H : Hp} {p l : Addr} {c c' : Nat} (h : PenL H p l c) (hc : c ≤ c') : PenL H p l c' := by
  obtain ⟨ns, i, g, h1, h2, h3, h4, h5, h6, h7⟩ := h
  exact ⟨ns, i, g, h1, h2, h3, h4, h5, by omega, h7⟩
theorem PenL.same {H H' : Hp} {p l : Addr} {c : Nat} (e : Same H H') (h : PenL H p l c) : PenL H' p l c := by
  obtain ⟨ns, i, g, h1, h2, h3⟩ := h
  exact ⟨ns, i, g, e _ _ h1, e _ _ h2, h3⟩
/-- another object than the pen and its cells changes -/
theorem PenL.upd {H : Hp} {p l q : Addr} {c : Nat} {o : HO} (h : PenL H p l c) (h1 : q ≠ p) (h2 : q ≠ l) : PenL (L2.upd H q o) p l c := by
  obtain ⟨ns, i, g, e1, e2, r⟩ := h
  exact ⟨ns, i, g, by rw [upd_ne h1.symm]; exact e1, by rw [upd_ne h2.symm]; exact e2, r⟩
/-- what is new is neither -/
theorem PenL.new {H : Hp} {p l q : Addr} {c : Nat} (h : PenL H p l c) (hq : H q = none) : q ≠ p ∧ q ≠ l := by
  obtain ⟨ns, i, g, e1, e2, r⟩ := h
  exact ⟨(ne_of_none e1 hq).symm, (ne_of_none e2 hq).symm⟩
def spDrawL : Sp := fun vs H Q _ => ∃ (p l : Addr) (m : Int) (c : Nat), vs = [.ref p, .int m] ∧ 0 < m ∧ m < 1073741824 ∧ PenL H p l c ∧ c ≤ 1000000 ∧
  ∀ (r : Int) (H' : Hp), 0 ≤ r → r < m → PenL H' p l (c + 1) → But p H H' → Q (.int r) H'
def spPenL (K : Fg) : Sp := fun vs H Q _ => ∃ (a : Addr) (ns : List Int), vs = [.ref a] ∧ SqL K H a (ns.map V.int) ∧ ns.length ≤ 63 ∧ ∀ (p l : Addr) (H' : Hp), H p = none → PenL H' p l 0 → Same H H' → Q (.ref p) H'
def spPickL (K : Fg) : Sp := fun vs H Q _ => ∃ (p l q : Addr) (xs : List V) (c : Nat), vs = [.ref p, .ref q] ∧ SqL K H q xs ∧ q ≠ p ∧ 0 < xs.length ∧ xs.length < 1000 ∧ PenL H p l c ∧ c ≤ 1000000 ∧
  ∀ (v : V) (H' : Hp), v ∈ xs → PenL H' p l (c + 1) → But p H H' → Q v H'
end Tw
/-! Tw: try: body, except x as n: suite, the caught error tracked behind the suite. -/
namespace Tw
open PySem PySem.Spec PyProof.Rows L2
section
variable {X : Cx} {pins : List (Addr × Obj)} {σ : L2.St} {H : Hp} {s : Shared}
/-- a pinned error of ours becomes a tracked one -/
theorem track {a C : Addr} {d : Option Addr} {oe : Obj} {vs : Array Value} (I : Inv X ((a, oe) :: pins) σ H s) (h0 : X.s_0.heap.get? a = none) (hne : ∀ p ∈ X.pn ++ pins, p.1 ≠ a) (hz : Zc (.ref C) d oe) (hd : oe.data = .fields vs) :
    Inv X pins σ (upd H a (exT a C d)) s := by
  obtain ⟨ha, na, nL, nF, nC⟩ := I.pin (a, oe) (List.mem_append_right _ List.mem_cons_self)
  have ne : ∀ {b : Addr} {u : HO}, H b = some u → b ≠ a := fun e => ne_of_none e na
  refine ⟨I.ok, I.os, I.bare, ⟨I.base.keep, I.base.slot, fun b o e n hx => ?_, I.base.there, fun b xs e => ?_, fun b o u e => ?_, fun b ps e => ?_⟩, I.loc, I.cell, ?_, fun x c e => ?_, fun p hp => ?_, fun b u e => ?_, I.len⟩
  · rw [upd_ne (fun z => by rw [z, h0] at e; cases e)]
    exact I.base.free b o e n hx
  · have q := I.base.tups b xs e
    rw [upd_ne (ne q)]
    exact q
  · have q := I.base.frzs b o u e
    rw [upd_ne (ne q)]
    exact q
  · obtain ⟨m, q⟩ := I.base.tbls b ps e
    exact ⟨m, by rw [upd_ne (ne q)]; exact q⟩
  · rw [upd_ne (Ne.symm nL)]
    exact I.free
  · obtain ⟨v, o, ho, hv⟩ := I.cell x c e
    rw [upd_ne (fun z => by
      have z' : c = a := z
      rw [z'] at ho
      have ha' : s.heap.get? a = some oe := ha
      rw [ha'] at ho
      cases ho
      exact nC v hv)]
    exact I.freeC x c e
  · obtain ⟨e1, e2, e3⟩ := I.pin p (by
      rcases List.mem_append.mp hp with z | z
      · exact List.mem_append_left _ z
      · exact List.mem_append_right _ (List.mem_cons_of_mem _ z))
    exact ⟨e1, by rw [upd_ne (hne p hp)]; exact e2, e3⟩
  · by_cases hb : b = a
    · subst hb
      rw [upd_same] at e
      cases e
      exact exT_ok ha hz hd
    · rw [upd_ne hb] at e
      exact (I.hok b u e).stay (fun _ _ _ q => q) (fun c q => by rw [upd_ne (ne q)]; exact q) fun c xs q => by rw [upd_ne (ne q)]; exact q
end
/-- what the clause wishes: its error stands tracked behind the suite -/
def wAsK (K : PySem.W.Frag) (c : Value) (i : Nat) (ts : Addr → Value → Option Addr → TS) (Wout : WX) (D : Ends) : WX := fun cls d σ H =>
  ∃ (C : Addr) (b : Bool), cls = .ref C ∧ PySem.W.exmOne K cls c = some b ∧ (b = true → ∀ a, H a = none → ts a cls d { nx := fun σ' H' => D.nx (σ'.set i none) (upd H' a (exT a C d)), rt := D.rt, bk := fun σ' H' => D.bk (σ'.set i none) H', ct := fun σ' H' => D.ct (σ'.set i none) H' } (σ.set i (some (.ref a))) H) ∧
    (b = false → Wout cls d σ H)
section
variable {X : Cx} {x n : Str} {c : Value} {i : Nat} {body suite : List Stmt} {b₀ : Stmt} {np pos pos' : Pos} {tb : WX → TS} {ts : Addr → Value → Option Addr → TS} {Wout : WX}
theorem ps_tryK (hex : X.ex = []) (hs : X.stack = X.env :: X.outer) (hf : X.env.frame = some X.env.locals) (hN : X.N.Nodup) (hi : X.N[i]? = some n) (hln : X.env.kindOf n = some .local) (hc : Names X x c) (tk : Takes X Wout)
    (hb : ∀ (W : WX) (pn : List (Addr × Obj)) (xe : Value → Shared → Prop), Takes (X.tr pn xe) W → PassesOwn (model X.prog X.w) X.A X.env xe → PSs (X.tr pn xe) body (tb W))
    (hsu : ∀ (a : Addr) (oe : Obj) (cls : Value) (d : Option Addr) (pn : List (Addr × Obj)), Zc cls d oe → (∃ vs, oe.data = .fields vs) → PSs (X.suite a ((a, oe) :: pn)) (b₀ :: suite) (ts a cls d)) :
    PS X (.Try body [.ExceptHandler (some (.Name x np)) (some n) (b₀ :: suite) pos'] [] [] pos) (fun D σ H => tb (wAsK X.K c i ts Wout D) D σ H) := by
  refine ⟨fun pins s σ H D I h => ?_⟩
  have ok := I.ok
  have hfr : X.A.frames = some (X.env :: X.outer) := by rw [ok.frames, hs]
  have hloc : Loc X.env.scope n := .inl hln
  refine wpAny_Try_except ?_
  refine wpAny_mono ((hb (wAsK X.K c i ts Wout D) (X.pn ++ pins) (fun e s₁ => wpAny (model X.prog X.w) X.A (noteFrame e X.env) (fun _ s₂ => wpAny (model X.prog X.w) X.A (setFlight e none) (fun _ s₃ =>
    wpAny (model X.prog X.w) X.A (handleBy e X.env [.ExceptHandler (some (.Name x np)) (some n) (b₀ :: suite) pos']) (SP X pins D) X.xe s₃) X.xe s₂) X.xe s₁) (fun u s' xx => ?_) PassesOwn.looking).run [] s σ H D (I.toTry _) h) (fun f s1 hsp => ?_) (fun e s1 he => he)
  · obtain ⟨a, B, sI, pins', σ', H', cls, d, rfl, J', nb, up, sky, na, os, ag, C, b, hcls, hb1, hyes, hno⟩ := xx
    have J : Inv X pins σ' H' sI := J'.ofTry ok
    have sky' : Sky B (X.env :: X.outer) a (Zc cls d) X.env.locals s'.heap := by rw [← hs]; exact sky
    show wpAny (model X.prog X.w) X.A (noteFrame (.ref a) X.env) _ _ _
    refine Sky.land Zc.steady hfr hf sky' fun h3 fl3 up3 => ?_
    have J3 : Inv X pins σ' H' { s' with heap := h3 } := J.landed nb fl3.1 (up.trans up3) os ag
    obtain ⟨oe3, vs3, he3, hz3, hd3⟩ := fl3.there
    have notFr : ∀ {h : Heap} {o : Obj} {vs : Array Value}, h.FunFrames B (X.env :: X.outer) → h.get? a = some o → o.data = .fields vs → a ∉ frs (X.env :: X.outer) := fun {h o vs} ff e dd hm => by
      obtain ⟨_, o', e', hnf⟩ := ff.mem hm
      rw [e] at e'
      cases e'
      exact hnf _ dd
    have nfr := notFr fl3.2.2.1 he3 hd3
    have nL : a ≠ X.env.locals := fun z => nfr (List.mem_filterMap.mpr ⟨X.env, List.mem_cons_self, by rw [hf, z]⟩)
    have nF : a ∉ X.fs := fun hm => by
      obtain ⟨e, he, q⟩ := List.mem_filterMap.mp hm
      exact nfr (List.mem_filterMap.mpr ⟨e, List.mem_cons_of_mem _ he, q⟩)
    -- the error is new to this def
    have nI : sI.heap.get? a = none := by
      cases e : sI.heap.get? a with
      | none => rfl
      | some o =>
        have z := nb a o e (by rw [hs]; exact nfr)
        have z2 : B.get? a = none := fl3.2.1
        rw [z2] at z
        cases z
    have n0 : X.s_0.heap.get? a = none := by
      cases e : X.s_0.heap.get? a with
      | none => rfl
      | some o =>
        obtain ⟨o', z⟩ := J.base.there a o e (by rw [hex]; exact fun z => nomatch z)
        rw [nI] at z
        cases z
    have npin : ∀ p ∈ X.pn ++ pins, p.1 ≠ a := fun p hp z => by
      obtain ⟨e, _⟩ := J.pin p hp
      rw [z, nI] at e
      cases e
    have S3 := J3.suite he3 hd3 na nL nF
    refine wpAny_handleBy_cons (codeAny_handlers_test ?_) (by intro q; cases q)
    have LT : PySem.W.Looks (model X.prog X.w) h3 (typeOf (.ref a)) cls := fun A Q E s k q => wpAny_typeOf_ref (k _ _ he3) (by rw [hz3.1]; exact q)
    have LM := PySem.W.exm_one (M := model X.prog X.w) (J3.kIn) LT hb1
    have test : ∀ {Q : Value → Shared → Prop} {E : Value → Shared → Prop}, Q c { s' with heap := h3 } → wpAny (model X.prog X.w) (X.A.mark (some (.ref a))) (eval (.Name x np) X.env) Q E { s' with heap := h3 } := fun {Q E} q => by
      obtain ⟨hg, hdbg, hm | ⟨hm, hv, hnn⟩⟩ := hc
      · exact ld_glob (X := X.suite a ((a, oe3) :: (X.pn ++ pins))) S3 hg hm q hdbg
      · exact ld_blt (X := X.suite a ((a, oe3) :: (X.pn ++ pins))) S3 hg hm hv q hnn hdbg
    refine test (LM.here ?_)
    cases b with
    | true =>
      refine codeAny_handlers_suite_as ?_
      refine HandSPX.lands_againZ fl3 fun h4 fl4 up4 => ?_
      have J4 : Inv X pins σ' H' { s' with heap := h4 } := J.landed nb fl4.1 ((up.trans up3).trans up4) os ag
      obtain ⟨oe4, vs4, he4, hz4, hd4⟩ := fl4.there
      have S4 := J4.suite he4 hd4 na nL nF
      refine store_ok (X := X.suite a ((a, oe4) :: (X.pn ++ pins))) (v := .ref a) S4 hN hi hloc rfl (fun s5 S5 => ?_) (.inr hln)
      refine wpAny_mono ((hsu a oe4 cls d (X.pn ++ pins) hz4 ⟨_, hd4⟩).run [] s5 _ H' _ S5 (hyes rfl a na)) (fun f s6 hsp => ?_) (fun _ _ z => False.elim z)
      have end_ : ∀ {σ6 : L2.St} {H6 : Hp} {Q : Shared → Prop}, Inv (X.suite a ((a, oe4) :: (X.pn ++ pins))) [] σ6 H6 s6 → (∀ s7, Inv X ((a, oe4) :: pins) (σ6.set i none) H6 s7 → Q s7) →
          wpAny (model X.prog X.w) X.A (do bindName X.env n .none; unbindBehindTheSuite X.env n pos') (fun _ s7 => Q s7) X.xe s6 := fun {σ6 H6 Q} S6 hq => by
        have J6 : Inv X ((a, oe4) :: pins) σ6 H6 s6 := (S6.unsuite ok).pins_of fun p hp => S6.pin p (List.mem_append_left _ (by
          rcases List.mem_cons.mp hp with z | z
          · exact List.mem_cons.mpr (.inl z)
          · exact List.mem_cons_of_mem _ (List.mem_append_right _ z)))
        exact gone_ok J6 hN hi hln hq
      have drop : ∀ {σ7 : L2.St} {H7 : Hp} {s7 : Shared}, Inv X ((a, oe4) :: pins) σ7 H7 s7 → Inv X pins σ7 H7 s7 := fun J7 => J7.pins_of fun p hp => J7.pin p (List.mem_append_right _ (List.mem_cons_of_mem _ hp))
      subst hcls
      cases f with
      | next =>
        obtain ⟨σ6, H6, S6, q6⟩ := hsp
        exact end_ S6 fun s7 J7 => ⟨_, _, track J7 n0 npin hz4 hd4, q6⟩
      | brk =>
        obtain ⟨σ6, H6, S6, q6⟩ := hsp
        exact end_ S6 fun s7 J7 => ⟨_, _, drop J7, q6⟩
      | cont =>
        obtain ⟨σ6, H6, S6, q6⟩ := hsp
        exact end_ S6 fun s7 J7 => ⟨_, _, drop J7, q6⟩
      | ret u =>
        obtain ⟨v6, σ6, H6, S6, r6, q6⟩ := hsp
        exact end_ S6 fun s7 J7 => ⟨_, _, _, drop J7, r6, q6⟩
    | false =>
      show wpAny _ X.A (handleBy (.ref a) X.env []) _ _ _
      refine wpAny_handleBy_nil ?_
      obtain ⟨k1, k2, k3, oe, vs, T, oT, ts', he, hz, hd, h1, hr⟩ := id fl3
      unfold PySem.passOn
      refine wpAny_bind (wpAny_field he hd h1 ?_)
      rw [if_neg (show ¬ ((Value.ref T == Value.none) = true) from by simp)]
      have fin : wpAny (model X.prog X.w) X.A (setFlight (.ref a) X.env.frame) (fun _ s4 => wpAny (model X.prog X.w) X.A (throw (.ref a) : Sem Flow) (SP X pins D) X.xe s4) X.xe { s' with heap := h3 } := by
        rw [hf]
        refine HandSPX.setFlight_upZ fl3 fun h4 hh4 up4 => wpAny_throw (tk _ _ ?_)
        exact ⟨a, B, sI, pins, σ', H', cls, d, rfl, J, nb, (up.trans up3).trans up4, .inr (.inr (by rw [hs]; exact hh4)), na, os, ag, hno rfl⟩
      first
        | exact wpAny_bind (wpAny_pure (wpAny_bind fin))
        | exact wpAny_bind fin
  · cases f with
    | next =>
      obtain ⟨σ', H', J', q⟩ := hsp
      exact wpAny_execs_nil ⟨σ', H', J'.ofTry ok, q⟩
    | brk =>
      obtain ⟨σ', H', J', q⟩ := hsp
      exact ⟨σ', H', J'.ofTry ok, q⟩
    | cont =>
      obtain ⟨σ', H', J', q⟩ := hsp
      exact ⟨σ', H', J'.ofTry ok, q⟩
    | ret u =>
      obtain ⟨v, σ', H', J', r, q⟩ := hsp
      exact ⟨v, σ', H', J'.ofTry ok, r, q⟩
end
end Tw
/-! Tw: instances of own classes: == and != by an own __eq__, str by an own __str__, made where __init__ may raise. -/
namespace Tw
open PySem PySem.Spec PyProof.Rows L2
/-- the type of anything that is known -/
def TyA (K : PySem.W.Frag) (H : Hp) (x : V) (t : Value) : Prop := TyX K H x t ∨ ∃ (a C : Addr) (d : Addr) (fs : List (Str × V)), x = .ref a ∧ t = .ref C ∧ IsX H a C (some d) ∧ IsXd H d fs ∧ XC K C ∧ XO K
section
variable {X : Cx} {CX : CXT} {pins : List (Addr × Obj)} {σ : L2.St} {H : Hp} {s : Shared} {k : Nat} {f C : Addr} {fd : FuncData} {ps : List Str} {sp : Sp} {E : XK}
theorem tyA_looks {x : V} {u t : Value} (I : Inv X pins σ H s) (r : RelV x u) (ty : TyA X.K H x t) (M : Model) : PySem.W.Looks M s.heap (typeOf u) t := by
  rcases ty with ty | ⟨a, C, d, fs, rfl, rfl, ia, idd, T, O⟩
  · obtain ⟨P, Z, p, _⟩ := kit_of I r ty
    exact Z.ty M s.heap I.kIn p
  · cases (show u = Value.ref a from r)
    obtain ⟨oe, vs, ho, hz, hdt⟩ := ia.get I.hok
    exact fun A Q E s k q => wpAny_typeOf_ref (k _ _ ho) (by rw [hz.1]; exact q)
theorem inst_at (I : Inv X pins σ H s) {a dx : Addr} {fs : List (Str × V)} (e : H a = some (.ins C dx fs)) : ∃ od ox, PySem.W.InstAt s.heap a ox C (some od) := by
  obtain ⟨mA, O, _⟩ := ins_get I.hok e
  obtain ⟨od, J, _⟩ := O.look
  exact ⟨od, _, J⟩
/-- a def run one deeper within a built-in -/
theorem run_in1 {Q : VK} {us : List Value} {vs : List V} (F : FnOk X.prog X.w X.K X.mg X.base CX k f fd ps sp) (hr : Room (k + 1) X.A) (hb : Binds X.K fd ps []) (hx : Passes CX X E) (I : Inv X pins σ H s) (r : Vals vs us) (h : sp vs H Q E) :
    wpAny (model X.prog X.w) X.A.in1 (call (.ref f) us) (EP X pins σ Q) X.xe s := by
  have hl : us.length = ps.length := r.length.symm.trans (F.len _ _ _ _ h)
  have b := hb s us I.kIn (by rw [List.append_nil]; exact hl)
  rw [List.append_nil] at b
  refine wpAny_call (codeAny_mono (F.run X.A.in1 X.stack s H ⟨us, []⟩ us vs Q E hr.in1 I.env0.in1 b r h) fun r s' hq => ?_)
  match r, hq with
  | .error e, hq => exact hx pins σ H s e s' I hq
  | .ok (.ret u), hq => exact I.after hq
theorem run_in2 {Q : VK} {us : List Value} {vs : List V} (F : FnOk X.prog X.w X.K X.mg X.base CX k f fd ps sp) (hr : Room (k + 2) X.A) (hb : Binds X.K fd ps []) (hx : Passes CX X E) (I : Inv X pins σ H s) (r : Vals vs us) (h : sp vs H Q E) :
    wpAny (model X.prog X.w) X.A.in1.in1 (call (.ref f) us) (EP X pins σ Q) X.xe s := by
  have hl : us.length = ps.length := r.length.symm.trans (F.len _ _ _ _ h)
  have b := hb s us I.kIn (by rw [List.append_nil]; exact hl)
  rw [List.append_nil] at b
  have hr1 : Room (k + 1) X.A.in1 := Room.in1 hr
  refine wpAny_call (codeAny_mono (F.run X.A.in1.in1 X.stack s H ⟨us, []⟩ us vs Q E hr1.in1 I.env0.in1.in1 b r h) fun r s' hq => ?_)
  match r, hq with
  | .error e, hq => exact hx pins σ H s e s' I hq
  | .ok (.ret u), hq => exact I.after hq
/-- x == y by x's own __eq__ -/
def rEqOwn (K : PySem.W.Frag) (C : Addr) (sp : Sp) (E : XK) : R2 := fun x y H Q => ∃ (a dx : Addr) (fs : List (Str × V)) (t : Value), x = .ref a ∧ H a = some (.ins C dx fs) ∧ TyA K H y t ∧ PySem.W.notFirst K C t = true ∧ sp [x, y] H Q E
theorem op_eqOwn (hs : PySem.W.findIn X.K (.ref C) "__eq__" = some (some (.ref f))) (hf : PySem.W.isFn X.K (.ref f) = true) (F : FnOk X.prog X.w X.K X.mg X.base CX k f fd ps sp) (hr : Room k X.A) (hb : Binds X.K fd ps []) (hx : Passes CX X E) : OpR X (compareOp .Eq) (rEqOwn X.K C sp E) := by
  intro pins s σ H x y v u Q I rx ry h
  obtain ⟨a, dx, fs, t, rfl, ea, ty, hn, q⟩ := h
  cases (show v = Value.ref a from rx)
  obtain ⟨od, ox, J⟩ := inst_at I ea
  obtain ⟨m, hF⟩ := I.fr
  show wpAny _ _ (richCompare .Eq _ _) _ _ _
  refine PySem.W.cmp_K (op := .Eq) (tb := t) hr.units0 hF I.ok.mod.kin J (tyA_looks I ry ty _) hn hs hf ?_
  refine wpAny_mono (run_fn (dvs := []) (ds := []) (us := [.ref a, u]) (vs := [.ref a, y]) F hr hb .nil hx I (.cons rfl (.cons ry .nil)) q) (fun w s' z => ?_) fun _ _ x => x
  obtain ⟨z', H', I', rz, qz⟩ := z
  exact SlX.cmpback rz ⟨z', H', I', rz, qz⟩
/-- x != y: object.__ne__ asks x's own __eq__ -/
def rNeOwn (K : PySem.W.Frag) (C : Addr) (sp : Sp) (E : XK) : R2 := fun x y H Q => ∃ (a dx : Addr) (fs : List (Str × V)) (t : Value), x = .ref a ∧ H a = some (.ins C dx fs) ∧ TyA K H y t ∧ PySem.W.notFirst K C t = true ∧ sp [x, y] H (fun z H' => ∃ b, z = .bl b ∧ Q (.bl (!b)) H') E
theorem ifBound_objNe {K : PySem.W.Frag} {M : Model} {A : Around} {E : Value → Shared → Prop} {s : Shared} {x : Addr} {ox : Obj} {od : Option Obj} {args : List Value} {Q : Option Value → Shared → Prop} (Y : K.In s.heap) (I : PySem.W.InstAt s.heap x ox C od) (hs : PySem.W.findIn K (.ref C) "__ne__" = some (some (.builtin "object.__ne__")))
    (h : wpAny M A (call (.builtin "object.__ne__") (.ref x :: args)) (fun v => Q (some v)) E s) : wpAny M A (callSpecialIfBound? (.ref x) "__ne__" args) Q E s := by
  simp only [callSpecialIfBound?, bindSpecialIfBound?]
  refine wpAny_holding (wpAny_bind (wpAny_bind (wpAny_bind (I.type.here ((PySem.W.looks_findIn Y hs).here ?_)))))
  refine wpAny_bind (wpAny_askSetting (wpAny_ite ?_))
  have fin : wpAny M A (call (.builtin "object.__ne__") ([.ref x] ++ args) >>= fun v => pure (some v)) Q E s := wpAny_bind (wpAny_mono h (fun v s' h' => wpAny_pure h') fun _ _ h' => h')
  split
  · exact wpAny_bind (wpAny_of_eq (F.cmp_object.ne.bind _) (wpAny_pure (by exact fin)))
  · exact wpAny_tryCatch (wpAny_bind (wpAny_of_eq (F.cmp_object.ne.bind _) (wpAny_pure (by exact fin))))
theorem ne_entry {K : PySem.W.Frag} {prog : Program} {w : World} {A : Around} {E : Value → Shared → Prop} {s : Shared} {x : Addr} {ox : Obj} {od : Option Obj} {b : Value} {Q : Fin → Shared → Prop} (hu : A.units < cLine) (Y : K.In s.heap) (I : PySem.W.InstAt s.heap x ox C od)
    (hs : PySem.W.findIn K (.ref C) "__eq__" = some (some (.ref f))) (hf : PySem.W.isFn K (.ref f) = true)
    (h : wpAny (model prog w) A (call (.ref f) [.ref x, b]) (fun v s' => ∃ c, v = .bool c ∧ Q (.done (.ret (.bool (!c)))) s') E s) : wpAny (model prog w) A (Builtin.«object.__ne__» ⟨[.ref x, b], []⟩) Q E s := by
  unfold Builtin.«object.__ne__»
  repeat (first
    | with_reducible refine wpAny_cRoomFor hu ?_
    | (refine wpAny_bind (m := callSpecialIfBound? (.ref x) (Str.ofString "__eq__") [b])
        (PySem.W.ifBound_K Y I hs hf (wpAny_mono h (fun r s' hr => by
          obtain ⟨b, rfl, hq⟩ := hr
          repeat (first | exact hq | exact wpAny_pure hq | exact wpAny_truthy_bool hq | (refine wpAny_bind (m := truthy (.bool _)) (wpAny_truthy_bool ?_)) | wp_step)) fun _ _ e => e)))
    | wp_step)
theorem ne_own {x : Addr} {ox : Obj} {od : Option Obj} {b tb : Value} {K : PySem.W.Frag} {prog : Program} {w : World} {A : Around} {E : Value → Shared → Prop} {s : Shared} {Q : Value → Shared → Prop} (hu : A.units + 1 < cLine) (Y : K.In s.heap) (I : PySem.W.InstAt s.heap x ox C od) (hb : PySem.W.Looks (model prog w) s.heap (typeOf b) tb) (hn : PySem.W.notFirst K C tb = true)
    (hne : PySem.W.findIn K (.ref C) "__ne__" = some (some (.builtin "object.__ne__"))) (hs : PySem.W.findIn K (.ref C) "__eq__" = some (some (.ref f))) (hf : PySem.W.isFn K (.ref f) = true) (hm : PySem.W.mroIn K C (.type "object") = some true)
    (h : wpAny (model prog w) A.in1 (call (.ref f) [.ref x, b]) (fun v s' => ∃ c, v = .bool c ∧ Q (.bool (!c)) s') E s) : wpAny (model prog w) A (richCompare .NotEq (.ref x) b) Q E s := by
  have one : wpAny (model prog w) A (tryCompare (.ref x) (cmpInfo .NotEq).2.1 b) (fun r s' => ∃ v, r = some v ∧ Q v s') E s := by
    unfold tryCompare
    refine wpAny_bind (ifBound_objNe Y I hne (wpAny_call (codeAny_call_builtin F.cmp_object.ne.plain F.cmpEntry_ne (PySem.W.check_slot F.cmpKind_ne F.cmpSplit_ne (I.type.andThen (PySem.W.looks_mroIn Y hm)) (F.cmpArgs_ne _ _)
      (ne_entry (A := A.in1) hu Y I hs hf (wpAny_mono h (fun v s' hv => ?_) fun _ _ e => e))))))
    obtain ⟨c, rfl, hq⟩ := hv
    first | exact ⟨c, rfl, wpAny_pure ⟨_, rfl, hq⟩⟩ | exact ⟨c, rfl, wpAny_pure (wpAny_pure ⟨_, rfl, hq⟩)⟩ | exact ⟨c, rfl, ⟨_, rfl, hq⟩⟩
  unfold richCompare
  simp only [oneThing_ref]
  refine wpAny_holding (wpAny_bind (wpAny_cRoomFor (Nat.lt_of_succ_lt hu) ?_))
  refine wpAny_bind (I.type.here (wpAny_bind (hb.here ?_)))
  split
  · rename_i q
    have e : PySem.W.subIn K tb (.ref C) = some false := by
      rcases Bool.or_eq_true_iff.mp hn with e | e
      · rw [beq_iff_eq.mp e] at q; simp at q
      · exact beq_iff_eq.mp e
    refine wpAny_bind ((PySem.W.looks_subIn Y e).here ?_)
    simp only [Bool.false_eq_true, if_false]
    refine wpAny_bind (wpAny_mono one (fun r s' z => ?_) fun _ _ e => e)
    obtain ⟨v, rfl, hq⟩ := z
    exact wpAny_pure hq
  · refine wpAny_bind (wpAny_pure ?_)
    simp only [Bool.false_eq_true, if_false]
    refine wpAny_bind (wpAny_mono one (fun r s' z => ?_) fun _ _ e => e)
    obtain ⟨v, rfl, hq⟩ := z
    exact wpAny_pure hq
theorem op_neOwn (hne : PySem.W.findIn X.K (.ref C) "__ne__" = some (some (.builtin "object.__ne__"))) (hs : PySem.W.findIn X.K (.ref C) "__eq__" = some (some (.ref f))) (hf : PySem.W.isFn X.K (.ref f) = true) (hm : PySem.W.mroIn X.K C (.type "object") = some true)
    (F : FnOk X.prog X.w X.K X.mg X.base CX k f fd ps sp) (hr : Room (k + 1) X.A) (hb : Binds X.K fd ps []) (hx : Passes CX X E) : OpR X (compareOp .NotEq) (rNeOwn X.K C sp E) := by
  intro pins s σ H x y v u Q I rx ry h
  obtain ⟨a, dx, fs, t, rfl, ea, ty, hn, q⟩ := h
  cases (show v = Value.ref a from rx)
  obtain ⟨od, ox, J⟩ := inst_at I ea
  show wpAny _ _ (richCompare .NotEq _ _) _ _ _
  refine ne_own (tb := t) (Nat.lt_of_le_of_lt (Nat.le_refl _) hr.in1.units0) I.kIn J (tyA_looks I ry ty _) hn hne hs hf hm ?_
  refine wpAny_mono (run_in1 F hr hb hx I (.cons rx (.cons ry .nil)) q) (fun w s' z => ?_) fun _ _ x => x
  obtain ⟨z', H', I', rz, b, rfl, qz⟩ := z
  exact ⟨b, rz, .bl (!b), H', I', rfl, qz⟩
/-- str(x) by x's own __str__ -/
def rStrOwn (C : Addr) (sp : Sp) (E : XK) : List V → Hp → VK → Prop := fun xs H Q => ∃ (a dx : Addr) (fs : List (Str × V)), xs = [.ref a] ∧ H a = some (.ins C dx fs) ∧ sp [.ref a] H (fun z H' => ∃ c, z = .str c ∧ Q z H') E
theorem call_strOwn (hs : PySem.W.findIn X.K (.ref C) "__str__" = some (some (.ref f))) (hf : PySem.W.isFn X.K (.ref f) = true) (F : FnOk X.prog X.w X.K X.mg X.base CX k f fd ps sp) (hr : Room (k + 2) X.A) (hb : Binds X.K fd ps []) (hx : Passes CX X E) : CallR X (.type "str") (rStrOwn C sp E) := by
  intro pins s σ H xs us Q I r h
  obtain ⟨a, dx, fs, rfl, ea, q⟩ := h
  obtain ⟨u1, rfl, r1⟩ := vals1 r
  cases (show u1 = Value.ref a from r1)
  obtain ⟨od, ox, J⟩ := inst_at I ea
  have hr1 : Room (k + 1) X.A.in1 := Room.in1 hr
  refine PySem.W.kso_call hr1.in1.units0 I.kIn J hs hf ?_
  refine wpAny_mono (run_in2 F hr hb hx I (.cons r1 .nil) q) (fun w s' z => ?_) fun _ _ x => x
  obtain ⟨z', H', I', rz, c, ez, qz⟩ := z
  subst ez
  obtain ⟨t, rfl⟩ := rz
  exact ⟨.str c, H', I', ⟨_, rfl⟩, qz⟩
end
end Tw
/-! Tw: a text times a number; an object made where its __init__ may raise into a try. -/
namespace Tw
open PySem PySem.Spec PyProof.Rows L2
section
variable {X : Cx} {CX : CXT} {k : Nat} {f C : Addr} {fd : FuncData} {ps : List Str} {sp : Sp} {E : L2.St → XK} {x : Str} {p pos : Pos} {e : Expr} {es : List Expr} {t : TA}
theorem op_mul_str : OpR X (binaryOp .Mult) (fun x y H Q => ∃ (z : Str) (n : Int), x = .str z ∧ y = .int n ∧ MulOk z n ∧ Q (.str (Txt.mul z n)) H) := by
  intro pins s σ H x y v u Q I rx ry h
  obtain ⟨z, n, rfl, rfl, ok, q⟩ := h
  obtain ⟨t, rfl⟩ := rx
  obtain ⟨t', rfl⟩ := ry
  exact SB.mul ok fun t' tk => ⟨.str (Txt.mul z n), H, I.tok _, ⟨_, rfl⟩, q⟩
/-- C(..) where C.__init__ may raise -/
def tMakeS (C : Addr) (sp : Sp) (E : L2.St → XK) (t : TA) : TE := fun σ H Q => t σ H fun vs H1 => ∀ x dx, H1 x = none → H1 dx = none → dx ≠ x →
  sp (.ref x :: vs) (upd (upd H1 dx (.own x)) x (.ins C dx [])) (fun v H2 => v = .non ∧ Q (.ref x) H2) (E σ)
theorem run_makeS {pins : List (Addr × Obj)} {σ : L2.St} {H : Hp} {s : Shared} {Q : VK} {us : List Value} {vs : List V} (M : Mk X.K C f) (F : FnOk X.prog X.w X.K X.mg X.base CX k f fd ps sp) (hr : Room (k + 1) X.A) (hb : Binds X.K fd ps [])
    (hx : PassesAt CX X σ (E σ)) (I : Inv X pins σ H s) (r : Vals vs us)
    (h : ∀ x dx, H x = none → H dx = none → dx ≠ x → sp (.ref x :: vs) (upd (upd H dx (.own x)) x (.ins C dx [])) (fun v H2 => v = .non ∧ Q (.ref x) H2) (E σ)) :
    wpAny (model X.prog X.w) X.A (call (.ref C) us) (EP X pins σ Q) X.xe s := by
  have hq := h (s.heap.objs.size + 1) s.heap.objs.size (I.hok.fresh (Nat.le_succ _)) (I.hok.fresh (Nat.le_refl _)) (Nat.ne_of_lt (Nat.lt_succ_self _))
  have I2 := Inv.made (C := C) I
  have r2 : Vals (V.ref (s.heap.objs.size + 1) :: vs) (Value.ref (s.heap.objs.size + 1) :: us) := .cons rfl r
  have hl : (Value.ref (s.heap.objs.size + 1) :: us).length = ps.length := by
    have e := r2.length
    rw [F.len _ _ _ _ hq] at e
    exact e.symm
  have b := hb _ (Value.ref (s.heap.objs.size + 1) :: us) I2.kIn (by rw [List.append_nil]; exact hl)
  rw [List.append_nil] at b
  refine wpAny_call (make_map (f := f) I.kIn M.makes M.init (beq_iff_eq.mp M.fn) (codeAny_mono (F.run _ X.stack _ _ ⟨Value.ref (s.heap.objs.size + 1) :: us, []⟩ (Value.ref (s.heap.objs.size + 1) :: us) _ _ (E σ) (hr.make C us [])
    (I2.env0.make C us []) b r2 hq) fun r s' hq' => ?_))
  cases r with
  | error e => exact hx pins _ _ e s' I2 hq'
  | ok fl =>
    cases fl with
    | ret u =>
      obtain ⟨v, H', I3, rv, ev, q3⟩ := I2.after hq'
      subst ev
      exact ⟨rv, ⟨V.ref (s.heap.objs.size + 1), H', I3, rfl, q3⟩⟩
    | next => exact False.elim hq'
    | brk => exact False.elim hq'
    | cont => exact False.elim hq'
theorem pe_makeS (M : Mk X.K C f) (F : FnOk X.prog X.w X.K X.mg X.base CX k f fd ps sp) (hr : Room (k + 1) X.A) (hg : Gl X x) (hm : X.mg x = some (.ref C)) (hb : Binds X.K fd ps []) (hx : ∀ σ, PassesAt CX X σ (E σ))
    (ha : PA X (e :: es) t) (hdb : (x == ("__debug__" : Str)) = false := by decide) (he : starEach (e :: es) X.env = (false, eval e X.env) :: starEach es X.env := by rfl) (hpl : (backTo pos (starEach es X.env)).any (·.1) = false := by rfl) :
    PE X (.Call (.Name x p) (e :: es) [] pos) (tMakeS C sp E t) := by
  refine ⟨fun pins s σ H Q I h => ?_⟩
  refine wpAny_Call_Name_kw (ld_glob I hg hm ?_ hdb)
  refine PySem.W.callWith_K (h₀ := X.base) I.ok.mod.kin M.kp (thn (ha.run pos pins s σ H _ I h) fun us s1 ⟨vs, H1, I1, r, q⟩ => ⟨I1.kIn, ?_⟩) he hpl
  exact run_makeS M F hr hb (hx σ) I1 r q
end
/-- a comprehension over a text, sign by sign -/
theorem lcStr {z : Str} {g : TG} {tt : TT} {te : TE} {ws : List Nat} {ρ : L2.St} {G : Hp} {D : Addr} {R : Hp → Prop} (P : Nat → Hp → Prop) (first : P 0 (upd G D (.lst [])))
    (step : ∀ i c H, z.cps[i]? = some c → P i H → g (.str ⟨#[c]⟩) (wipe ρ ws) H fun σ2 H2 => wipe σ2 ws = wipe ρ ws ∧ tt σ2 H2 fun b H3 => if b = true then te σ2 H3 fun y H4 => ∃ acc, H4 D = some (.lst acc) ∧ acc.length < sizeLine ∧ P (i + 1) (upd H4 D (.lst (acc ++ [y]))) else P (i + 1) H3)
    (last : ∀ H, P z.cps.size H → R H) :
    ∃ W : Nat → Nat → Hp → Prop, (∃ m, W 0 m (upd G D (.lst []))) ∧ ∀ i m H, W i m H → ((Its z).stop i H ∧ R H) ∨ ((Its z).go i H ∧ ∃ Nx : Hp → Prop, (∀ H', Nx H' → ∃ m', m' < m ∧ W (i + 1) m' H') ∧ ∀ x H', (Its z).yld i H x H' →
      g x (wipe ρ ws) H' fun σ2 H2 => wipe σ2 ws = wipe ρ ws ∧ tt σ2 H2 fun b H3 => if b = true then te σ2 H3 fun y H4 => ∃ acc, H4 D = some (.lst acc) ∧ acc.length < sizeLine ∧ Nx (upd H4 D (.lst (acc ++ [y]))) else Nx H3) := by
  refine ⟨fun i m H => m = z.cps.size - i ∧ i ≤ z.cps.size ∧ P i H, ⟨_, rfl, Nat.zero_le _, first⟩, ?_⟩
  rintro i m H ⟨rfl, hi, p⟩
  rcases Nat.lt_or_ge i z.cps.size with lt | ge
  · refine .inr ⟨lt, P (i + 1), fun H' p' => ⟨_, Nat.sub_succ_lt_self _ _ lt, rfl, lt, p'⟩, fun x H' ⟨e, c, ec, ex⟩ => ?_⟩
    subst e ex
    exact step i c _ ec p
  · exact .inl ⟨ge, last H (Nat.le_antisymm hi ge ▸ p)⟩
/-- values whose class is a built-in one -/
inductive Bv (H : Hp) : V → String → Prop where
  | non : Bv H .non "NoneType"
  | bl (b : Bool) : Bv H (.bl b) "bool"
  | int (i : Int) : Bv H (.int i) "int"
  | str (z : Str) : Bv H (.str z) "str"
  | lst {a : Addr} {xs : List V} (e : H a = some (.lst xs)) : Bv H (.ref a) "list"
  | tup {a : Addr} {xs : List V} (e : H a = some (.tup xs)) : Bv H (.ref a) "tuple"
  | dK {a : Addr} {kvs : List (Key × V)} (e : H a = some (.dK kvs)) : Bv H (.ref a) "dict"
theorem Bv.ty {K : PySem.W.Frag} {H : Hp} {x : V} {T : String} (h : Bv H x T) : TyX K H x (.type T) := by
  cases h with
  | non => exact .base .non
  | bl b => exact .base (.bl b)
  | int i => exact .base (.int i)
  | str z => exact .base (.str z)
  | lst e => exact .base (.lst e)
  | tup e => exact .base (.tup e)
  | dK e => exact .base (.dK e)
theorem Bv.same {H H' : Hp} {x : V} {T : String} (s : Same H H') (h : Bv H x T) : Bv H' x T := by
  cases h with
  | non => exact .non
  | bl b => exact .bl b
  | int i => exact .int i
  | str z => exact .str z
  | lst e => exact .lst (s _ _ e)
  | tup e => exact .tup (s _ _ e)
  | dK e => exact .dK (s _ _ e)
def isI : V → Bool
  | .int _ => true
  | _ => false
def isB : V → Bool
  | .bl _ => true
  | _ => false
def isS : V → Bool
  | .str _ => true
  | _ => false
/-- isinstance against a built-in class, by the value -/
theorem Bv.kits {K : PySem.W.Frag} {H : Hp} {x : V} {T : String} (h : Bv H x T) : PySem.W.kitOne K (.type T) (.type "str") = some (isS x) ∧ PySem.W.kitOne K (.type T) (.type "bool") = some (isB x) ∧ PySem.W.kitOne K (.type T) (.type "int") = some (isI x || isB x) := by
  cases h with
  | non => exact ⟨kit_ty (r := false) (by decide +kernel), kit_ty (r := false) (by decide +kernel), kit_ty (r := false) (by decide +kernel)⟩
  | bl b => exact ⟨kit_ty (r := false) (by decide +kernel), kit_ty (r := true) (by decide +kernel), kit_ty (r := true) (by decide +kernel)⟩
  | int i => exact ⟨kit_ty (r := false) (by decide +kernel), kit_ty (r := false) (by decide +kernel), kit_ty (r := true) (by decide +kernel)⟩
  | str z => exact ⟨kit_ty (r := true) (by decide +kernel), kit_ty (r := false) (by decide +kernel), kit_ty (r := false) (by decide +kernel)⟩
  | lst e => exact ⟨kit_ty (r := false) (by decide +kernel), kit_ty (r := false) (by decide +kernel), kit_ty (r := false) (by decide +kernel)⟩
  | tup e => exact ⟨kit_ty (r := false) (by decide +kernel), kit_ty (r := false) (by decide +kernel), kit_ty (r := false) (by decide +kernel)⟩
  | dK e => exact ⟨kit_ty (r := false) (by decide +kernel), kit_ty (r := false) (by decide +kernel), kit_ty (r := false) (by decide +kernel)⟩
end Tw
/-! Tw: a method called by keywords alone. -/
namespace Tw
open PySem PySem.Spec PyProof.Rows L2
section
variable {K : PySem.W.Frag} {x qual : Str} {params : Arguments} {body : List Stmt} {scope : Scope} {f : Addr} {fd : FuncData} {ps : List Str}
theorem kbNone (F : FunD K x qual params body scope [] [] f fd) (n : Nat) (ks : List Str)
    (h : ∀ (kV doc pm : Value) (an : Option Addr) (cdv ct : Value) (us ws : List Value), us.length = n → ws.length = ks.length → bindArgs (PySem.W.fnOf x qual params body scope .none kV doc pm an cdv ct) ⟨us, ks.zip ws⟩ = pure (ps.zip (us ++ ws))) :
    KBn K fd ps n ks (fun us ws => us ++ ws) (fun vs zs => vs ++ zs) := by
  obtain ⟨oc, od, dV, kV, doc, pm, an, cdv, ct, osl, rfl, lk, hcd, hD, hK⟩ := F.ex
  rcases hD with ⟨_, rfl⟩ | ⟨e, _⟩
  · exact ⟨fun s us ws X l1 l2 => .of_eq (h kV doc pm an cdv ct us ws l1 l2), fun r1 r2 => r1.append r2⟩
  · exact absurd rfl e
end
/-- o.m(k = v, ..) -/
def tMethN (C : Addr) (m : Str) (n : Nat) (sp : Sp) (gV : List V → List V → List V) (E : XK) (ta : TE) (tk : TA) : TE := fun σ H Q => ta σ H fun x H1 => ∃ (a dx : Addr) (fs : List (Str × V)), x = .ref a ∧ H1 a = some (.ins C dx fs) ∧ fs.lookup m = none ∧
  tk σ H1 fun zs H2 => zs.length = n ∧ sp (gV [.ref a] zs) H2 Q E
section
variable {X : Cx} {CX : CXT} {k : Nat} {f C : Addr} {fd : FuncData} {ps ks : List Str} {sp : Sp} {E : XK} {m : Str} {pos apos : Pos} {o : Expr} {kws : List Keyword} {ta : TE} {tk : TA} {g : List Value → List Value → List Value} {gV : List V → List V → List V}
theorem pe_methN {pl : Sem Bool} (he : PE X o ta) (c : Cls X.K C) (hm : Meth X.K C m f) (F : FnOk X.prog X.w X.K X.mg X.base CX k f fd ps sp) (hr : Room k X.A) (hb : KBn X.K fd ps 1 ks g gV) (hx : Passes CX X E) (hkw : PK X kws tk)
    (hall : (backToKw pos (keywordEach kws X.env)).all (·.1.isSome) = true := by rfl) (hks : (backToKw pos (keywordEach kws X.env)).filterMap (·.1) = ks := by rfl)
    (hpl : ((backTo pos (starEach [] X.env)).any (·.1) || (backToKw pos (keywordEach kws X.env)).any (·.1.isNone)) = false := by rfl)
    (ht : eval (.Call (.Attribute o m apos) [] kws pos) X.env = (do
      let v ← eval o X.env
      standAt apos.atName
      let (h, front) ← holding [v] (getMethod v m pl)
      callWith pos h front (backTo pos (starEach [] X.env)) (backToKw pos (keywordEach kws X.env))) := by rfl) :
    PE X (.Call (.Attribute o m apos) [] kws pos) (tMethN C m ks.length sp gV E ta tk) := by
  refine ⟨fun pins s σ H Q I h => ?_⟩
  refine PySem.W.methodCall_KW (pl := pl) (thn (he.run pins s σ H _ I h) fun u s1 ⟨x, H1, I1, rx, a, dx, fs, ex, ea, l, q⟩ => ?_) ht
  subst ex
  cases (show u = Value.ref a from rx)
  refine getmeth_ok I1 ea c hm l ?_
  refine PySem.W.callWith_KW0 (h₀ := X.base) (first := [.ref a]) I1.ok.mod.kin hm.kp hall (thn (hkw.run pos pins s1 σ H1 _ I1 q) fun ws s2 ⟨zs, H2, I2, rz, l2, q2⟩ => ⟨I2.kIn, ?_⟩) hpl
  rw [hks]
  exact run_fnN (us := [.ref a]) (vs := [.ref a]) F hr hb hx I2 (.cons rx .nil) rz rfl l2 q2
end
/-- == by an own __eq__, where the context is a comprehension's: what it knows is named -/
theorem eqOwnK {X : Cx} {CX : CXT} {k : Nat} {f C : Addr} {fd : FuncData} {ps : List Str} {sp : Sp} {E : XK} (P : Program) (w : World) (K : PySem.W.Frag) (mg : Str → Option Value) (base : Heap) (hs : PySem.W.findIn K (.ref C) "__eq__" = some (some (.ref f))) (hf : PySem.W.isFn K (.ref f) = true)
    (F : FnOk P w K mg base CX k f fd ps sp) (hr : Room k X.A) (hb : Binds K fd ps []) (hx : Passes CX X E) (e1 : X.prog = P := by rfl) (e2 : X.w = w := by rfl) (e3 : X.K = K := by rfl) (e4 : X.mg = mg := by rfl) (e5 : X.base = base := by rfl) : OpR X (compareOp .Eq) (rEqOwn K C sp E) := by
  subst e1 e2 e3 e4 e5
  exact op_eqOwn hs hf F hr hb hx
/-! lists of bools -/
theorem dpBools {K : PySem.W.Frag} {H : Hp} : ∀ bs : List Bool, DpAll K H (bs.map V.bl) (bs.map PyData.bool)
  | [] => .nil
  | b :: bs => .cons (.bl b) (dpBools bs)
theorem layBools : ∀ bs : List Bool, PyData.canLayAll0 (bs.map PyData.bool) = true ∧ PyData.depthAll (bs.map PyData.bool) = 0
  | [] => ⟨rfl, rfl⟩
  | b :: bs => by
    obtain ⟨h1, h2⟩ := layBools bs
    constructor
    · simp only [List.map_cons, PyData.canLayAll0, PyData.canLay0, h1, Bool.and_self]
    · simp only [List.map_cons, PyData.depthAll, PyData.depth, h2, Nat.max_self]
theorem shapedBools (bs : List Bool) : SeqAt.shaped (.list (bs.map PyData.bool)) = true := by
  obtain ⟨h1, h2⟩ := layBools bs
  simp [SeqAt.shaped, PyData.canLay0, PyData.depth, h1, h2]
theorem eqvBools (bs : List Bool) : PyData.eqv (.list (bs.map PyData.bool)) (.list (bs.map PyData.bool)) = true :=
  SeqAt.eqv_refl _ (by simpa [PyData.canLay0] using (layBools bs).1)
theorem ifSame {d : PyData} {A B : Prop} (h : PyData.eqv d d = true) (b : B) : if (!PyData.eqv d d) = true then A else B := by
  rw [h]
  exact iteF b
theorem mildBools : ∀ bs : List Bool, mildAll (bs.map PyData.bool) = true ∧ capAll (bs.map PyData.bool) ≤ 100 * bs.length
  | [] => ⟨rfl, Nat.le_refl _⟩
  | b :: bs => by
    obtain ⟨h1, h2⟩ := mildBools bs
    constructor
    · simp only [List.map_cons, mildAll, mild, h1, Bool.and_self]
    · simp only [List.map_cons, capAll, List.length_cons]
      have : cap (.bool b) ≤ 90 := by cases b <;> decide
      omega
end Tw
/-! Tw: enumerate over a list, a tuple, an own object that gives a tuple's iterator. -/
namespace Tw
open PySem PySem.Spec PyProof.Rows L2
/-- pairs (number, item), the items as G tells them -/
def IteG (G : Hp → List V → Prop) : It := ⟨fun i H => ∃ (xs : List V) (x : V), G H xs ∧ xs[i]? = some x,
  fun i H v H' => ∃ (T : Addr) (x : V), v = .ref T ∧ H T = none ∧ H' = upd H T (.tup [.int (i : Nat), x]) ∧ ∀ xs, G H xs → xs[i]? = some x, fun i H => ∃ xs : List V, G H xs ∧ i = xs.length⟩
theorem turnL {P : Program} {w : World} {K : PySem.W.Frag} {elts : List Expr} {kk : Nat} {tpos : Pos} (a e it : Addr) :
    Turn P w K (.Tuple elts kk tpos) (IteG fun H xs => SqL K H a xs) [e, it] e (fun i h => (∃ old, IsEnum h e it ((i : Nat) : Int) old) ∧ h.IsListIter it a i ∧ e ≠ it) :=
  let T := turn_enum (P := P) (w := w) (K := K) (elts := elts) (kk := kk) (tpos := tpos) a e it
  ⟨T.mem, T.obj, T.keep, T.item, fun X h1 h2 h3 h4 i pins s σ H E I hf st ⟨xs, g, hx⟩ => T.done X h1 h2 h3 h4 i pins s σ H E I hf st ⟨xs, g, Nat.le_of_eq hx.symm⟩, T.self⟩
theorem turnT {P : Program} {w : World} {K : PySem.W.Frag} {elts : List Expr} {kk : Nat} {tpos : Pos} (a e it : Addr) :
    Turn P w K (.Tuple elts kk tpos) (IteG fun H xs => SqT K H a xs) [e, it] e (fun i h => (∃ old, IsEnum h e it ((i : Nat) : Int) old) ∧ h.IsTupleIter it a i ∧ e ≠ it) where
  mem := List.mem_cons_self
  obj := fun i h ⟨⟨old, he⟩, ⟨o, ho, hc, hd⟩, _⟩ b hb => by
    rcases List.mem_cons.mp hb with z | z
    · exact z ▸ ⟨_, he, fun v q => nomatch q⟩
    · rw [List.mem_singleton.mp z]
      exact ⟨o, ho, fun v q => by
        rw [hd] at q
        cases q⟩
  keep := fun i h h' ⟨⟨old, he⟩, hi, hne⟩ k => ⟨⟨old, k e List.mem_cons_self _ he⟩, hi.at fun o q => k it (List.mem_cons_of_mem _ List.mem_cons_self) o q, hne⟩
  item := by
    intro X e1 e2 e3 hc i pins s σ H E I hf ⟨⟨old, he⟩, hit, hne⟩ ⟨xs, x, hq, hx⟩
    subst e1 e2 e3
    obtain ⟨its, rv, p, hz⟩ := I.tuple hq
    obtain ⟨u, hu, ru⟩ := rv.get hx
    have hel : e < s.heap.objs.size := Heap.lt_size he
    have hil : it < s.heap.objs.size := by
      obtain ⟨_, q, _⟩ := hit
      exact Heap.lt_size q
    have hta : a ≠ it := fun z => by
      obtain ⟨o, q, c, _⟩ := hit
      obtain ⟨o', q', c', _⟩ := p
      rw [z, q] at q'
      cases q'
      rw [c] at c'
      exact absurd c' (by decide)
    have hea : e ≠ a := fun z => by
      obtain ⟨o', q', c', _⟩ := p
      rw [← z, show s.heap.get? e = _ from he] at q'
      cases q'
      exact absurd (Value.type.inj c') (by decide)
    have hlt : i < its.toArray.size := by
      rw [List.size_toArray]
      exact (List.getElem?_eq_some_iff.mp hu).1
    refine wpAny_pyNext_enum_itemC (Draws.tuple (A := X.A.in1) (I.ok.hd hc) it a hta its.toArray) he ⟨hit, p⟩ hlt hne (fun hm => ?_) fun y h1 tk py ho st1 hT hsz hk => ?_
    · rcases List.mem_cons.mp hm with z | z
      · exact hne z
      · exact hea (List.mem_singleton.mp z)
    · have ey : y = u := by
        have q : its.toArray[i]? = some y := py
        rw [List.getElem?_toArray, hu] at q
        exact (Option.some.inj q).symm
      subst ey
      refine ⟨_, rfl, wpAny_letOwnedTupleGo_enum (s := { s with heap := h1, toks := tk + 1 }) ho fun h2 he2 sb => ?_⟩
      have hT2 : h2.get? s.heap.objs.size = some { cls := .type "tuple", data := .seq #[.int i tk, y] } := (sb.2 _ (Nat.ne_of_gt hel)).trans hT
      have ok : ObjOk X.prog X.w (upd H s.heap.objs.size (.tup [.int (i : Nat), x])) h2 s.heap.objs.size (.tup [.int (i : Nat), x]) := ⟨(by show 2 ≤ sizeLine; decide), [.int i tk, y], .cons ⟨_, rfl⟩ (.cons ru .nil), ⟨_, hT2, rfl, _, rfl⟩⟩
      have I1 : Inv X pins σ (upd H s.heap.objs.size (.tup [.int (i : Nat), x])) { s with heap := h2, toks := tk + 1 } := I.turnedNew (ch := [e, it]) (fun b ob hb q => by
        have b1 : b ≠ e := fun z => hb (z ▸ List.mem_cons_self)
        have b2 : b ≠ it := fun z => hb (z ▸ List.mem_cons_of_mem _ List.mem_cons_self)
        exact (sb.2 b b1).trans (hk b ob b1 b2 q)) hf (Nat.le_refl _) ok
      refine ⟨.ref s.heap.objs.size, _, I1, rfl, ⟨_, x, rfl, I.hok.fresh (Nat.le_refl _), rfl, fun ys hy => I.tuple_inj hy hq ▸ hx⟩, ⟨⟨y, ?_⟩, st1.1.at fun o q => (sb.2 it hne.symm).trans q, hne⟩, fun b hb => ?_⟩
      · rw [show ((i + 1 : Nat) : Int) = (i : Int) + 1 by omega]
        exact he2
      · have lt : b < s.heap.objs.size := by
          rcases List.mem_cons.mp hb with z | z
          · exact z ▸ hel
          · exact (List.mem_singleton.mp z) ▸ hil
        rw [upd_ne (Nat.ne_of_lt lt)]
        exact (hf b hb).1
  done := by
    intro X e1 e2 e3 hc i pins s σ H E I hf ⟨⟨old, he⟩, hit, hne⟩ ⟨xs, hq, hx⟩
    subst e1 e2 e3
    obtain ⟨its, rv, p, hz⟩ := I.tuple hq
    have hta : a ≠ it := fun z => by
      obtain ⟨o, q, c, _⟩ := hit
      obtain ⟨o', q', c', _⟩ := p
      rw [z, q] at q'
      cases q'
      rw [c] at c'
      exact absurd c' (by decide)
    have hn : its.toArray.size = i := by
      rw [List.size_toArray, ← rv.length, hx]
    have D := Draws.tuple (prog := X.prog) (w := X.w) (A := X.A.in1) (I.ok.hd hc) it a hta its.toArray
    rw [hn] at D
    obtain ⟨f0, f1, f2, f3, f4, f5⟩ := hf it (List.mem_cons_of_mem _ List.mem_cons_self)
    exact wpAny_pyNext_enum_endD D he ⟨hit, p⟩ fun h' eb => ⟨rfl, I.turned (t' := s.toks) (fun b o hb q => eb b o hb q) f0 f1 f3 f4 f5⟩
  self := fun A i s Q E ⟨⟨_, he⟩, _⟩ h => wpAny_pyIter_enum he h
end Tw
/-! Tw: walking an own object whose __iter__ returns a tuple's iterator. -/
namespace Tw
open PySem PySem.Spec PyProof.Rows L2 ItX
/-- at it: an iterator of the tuple at t, before its item i -/
def ItT (t it : Addr) (i : Nat) : HO := .ext fun h => h.IsTupleIter it t i
theorem itT_ok {P : Program} {w : World} {H : Hp} {h : Heap} {t it : Addr} {i : Nat} (e : h.IsTupleIter it t i) : ObjOk P w H h it (ItT t it i) := ⟨e, ⟨_, e.choose_spec.1⟩, fun h1 h2 q k => q.at fun o z => k _ z⟩
theorem itT_get {X : Cx} {pins : List (Addr × Obj)} {σ : L2.St} {H : Hp} {s : Shared} {t it : Addr} {i : Nat} (I : Inv X pins σ H s) (e : H it = some (ItT t it i)) : s.heap.IsTupleIter it t i := (I.hok it _ e).1
/-- iter(t), t a tuple: a young iterator -/
def rIterT (K : PySem.W.Frag) (n : Nat) : List V → Hp → VK → Prop := fun xs H Q => ∃ (t : Addr) (zs : List V), xs = [.ref t] ∧ SqT K H t zs ∧ ∀ it H', H it = none → n ≤ it → Same H H' → H' it = some (ItT t it 0) → Q (.ref it) H'
theorem call_iterT {X : Cx} : CallR X (.builtin "iter") (rIterT X.K X.s_0.heap.objs.size) := by
  intro pins s σ H xs us Q I r h
  obtain ⟨t, zs, rfl, hq, q⟩ := h
  obtain ⟨u, rfl, ru⟩ := vals1 r
  cases (show u = Value.ref t from ru)
  obtain ⟨its, rv, pl, hz⟩ := I.tuple hq
  refine Calls.call_function_entry (by decide +kernel) (by decide +kernel) PySem.W.kdk_entry_iter (PySem.W.kdk_args_iter _) ?_
  unfold Builtin.«iter»
  refine wpAny_bind (m := someArgs "iter" 1 2 _) (wpAny_of_eq (a := [Value.ref t]) (by first | rfl | kernel_rfl!) ?_)
  show wpAny _ _ (pyIter (.ref t) >>= _) _ _ _
  refine wpAny_bind (wpAny_pyIter_tuple (show s.heap.IsTuple t its.toArray from pl) (wpAny_pure ⟨_, rfl, ?_⟩))
  have hf := I.hok.fresh (Nat.le_refl s.heap.objs.size)
  have new : (s.heap.push { cls := .type "tuple_iterator", data := .fields #[.ref t, .int 0 0] }).IsTupleIter s.heap.objs.size t 0 := ⟨_, Heap.get?_push_size _ rfl, rfl, rfl⟩
  exact ⟨.ref s.heap.objs.size, upd H s.heap.objs.size (ItT t s.heap.objs.size 0), I.laid (t' := s.toks) (fun b u e => Heap.get?_push_of_some _ e) (Nat.le_refl _) (itT_ok new), rfl, q _ _ hf I.sz (same_new hf) upd_same⟩
/-- a def's promise that knows how many objects there are when it is called -/
structure FnN (P : Program) (w : World) (K : PySem.W.Frag) (mg : Str → Option Value) (base : Heap) (CX : CXT) (k : Nat) (f : Addr) (fd : FuncData) (ps : List Str) (sp : Nat → Sp) : Prop where
  len : ∀ n vs H Q E, sp n vs H Q E → vs.length = ps.length
  run : ∀ (A : Around) (outer : List Env) (s : Shared) (H : Hp) (args : Args) (us : List Value) (vs : List V) (Q : VK) (E : XK), Room k A → Env0 P w K mg base A outer s H →
    BindsTo s fd args (ps.zip us) → Vals vs us → sp s.heap.objs.size vs H Q E → codeAny (model P w) A (.call (.ref f) args) (CR CX outer P w H s Q E) s
theorem _root_.L2.FunD.okN {P : Program} {w : World} {K : PySem.W.Frag} {mg : Str → Option Value} {base : Heap} {CX : CXT} {x qual : Str} {params : Arguments} {body : List Stmt} {scope : Scope} {dvs : List V} {kws : List (Str × V)} {f : Addr} {fd : FuncData} {N ps : List Str} {k : Nat} {sp : Nat → Sp}
    (F : FunD K x qual params body scope dvs kws f fd) (S : FnScope N ps scope) (len : ∀ n vs H Q E, sp n vs H Q E → vs.length = ps.length)
    (hbody : ∀ (cdv : Value) (A : Around) (outer : List Env) (s : Shared) (H : Hp) (vs : List V) (Q : VK) (E : XK), Room k (A.deeper (envOfC qual scope s.heap.objs.size f cdv)) → sp s.heap.objs.size vs H Q E →
      ∃ t, PSs (cxOf CX P w K mg base N qual scope f cdv A outer s H E) body t ∧ t { nx := fun _ H' => Q .non H', rt := Q } (L2.start N vs) H) : FnN P w K mg base CX (k + 1) f fd ps sp := by
  obtain ⟨oc, od, dV, kV, doc, pm, an, cdv, ct, osl, rfl, lk, hcd, _, _⟩ := F.ex
  refine ⟨len, fun A outer s H args us vs Q E hr e0 hb r hsp => ?_⟩
  have at0 : ∀ b o, base.get? b = some o → s.heap.get? b = some o := fun b o e => (e0.bs b o e).1
  have hkind : ∀ y ∈ ps.zip us, scope.names.lookup y.1 = some .local ∨ (scope.names.lookup y.1 = some .cell ∧ ((cellsFrom (s.heap.objs.size + 1) scope.names []).lookup y.1).isSome = true) := by
    rintro ⟨n, v⟩ hy
    rcases S.par n (List.of_mem_zip hy).1 with q | q
    · exact .inl q
    · exact .inr ⟨q, PySem.W.cellsFrom_some _ _ _ (.inl q)⟩
  refine codeAny_call_function hr.depth ((e0.mod.kin.keeps at0) _ _ lk) rfl S.co S.gen rfl (PySem.W.codeRec_of (e0.mod.kin.keeps at0) hcd) (hb _ _ _ _ ?_)
  refine wpAny_newFunctionEnv_cells S.kind hkind fun env he s1 x => ?_
  subst he
  refine ⟨(e0.mod.nolimit.keeps at0).keeps x.toInCall.keep, codeAny_func ?_⟩
  obtain ⟨t, ht, hq⟩ := hbody cdv A outer s H vs Q E (hr.deeper _) hsp
  refine wpAny_mono (ht.run [] s1 (L2.start N vs) H _ (inv_start S hr.hd e0 (len _ _ _ _ _ hsp) r x) hq) (fun fl s' hs => ?_) fun e s' hs => hs
  cases fl with
  | ret u =>
    obtain ⟨v, σ', H', J, rv, q⟩ := hs
    exact ⟨v, H', J.os, J.bare, J.base, J.hok, rv, q⟩
  | next =>
    obtain ⟨σ', H', J, q⟩ := hs
    exact ⟨.non, H', J.os, J.bare, J.base, J.hok, rfl, q⟩
  | brk => exact hs.elim fun _ z => z.elim fun _ z => z.2.elim
  | cont => exact hs.elim fun _ z => z.elim fun _ z => z.2.elim
section
variable {X : Cx} {CX : CXT} {k : Nat} {f C : Addr} {fd : FuncData} {ps : List Str} {E : XK} {pins : List (Addr × Obj)} {σ : L2.St} {H : Hp} {s : Shared}
/-- what an own __iter__ promises that returns iter(self.f), a tuple: f's items are told by ITS -/
def spIter (C : Addr) (ff : Str) : Nat → Sp := fun n vs H Q _ => ∃ (a dx t : Addr) (fs : List (Str × V)) (zs : List V), vs = [.ref a] ∧ H a = some (.ins C dx fs) ∧ fs.lookup ff = some (.ref t) ∧ H t = some (.tup zs) ∧ ∀ it H', H it = none → n ≤ it → Same H H' → H' it = some (ItT t it 0) → Q (.ref it) H'
theorem iter_ownT {A' : Around} {ff : Str} {a dx t : Addr} {fs : List (Str × V)} {zs : List V} {R : Value → Shared → Prop} (hs : PySem.W.findIn X.K (.ref C) "__iter__" = some (some (.ref f))) (hf : PySem.W.isFn X.K (.ref f) = true) (F : FnN X.prog X.w X.K X.mg X.base CX k f fd ps (spIter C ff)) (hr : Room k A')
    (he : Env0 X.prog X.w X.K X.mg X.base A' X.stack s H) (hb : Binds X.K fd ps []) (hx : Passes CX X E) (I : Inv X pins σ H s) (ha : H a = some (.ins C dx fs)) (hl : fs.lookup ff = some (.ref t)) (ht : H t = some (.tup zs))
    (q : ∀ it s' H', Inv X pins σ H' s' → H it = none → Same H H' → H' it = some (ItT t it 0) → X.s_0.heap.objs.size ≤ it → R (.ref it) s') : wpAny (model X.prog X.w) A' (pyIter (.ref a)) R X.xe s := by
  obtain ⟨od, ox, J⟩ := inst_at I ha
  obtain ⟨m0, hF⟩ := I.fr
  refine PySem.W.owit_iter hF I.ok.mod.kin J hs hf ?_
  have hsp : spIter C ff s.heap.objs.size [.ref a] H (fun v H' => ∃ it, v = .ref it ∧ s.heap.objs.size ≤ it ∧ H it = none ∧ Same H H' ∧ H' it = some (ItT t it 0)) E := ⟨a, dx, t, fs, zs, rfl, ha, hl, ht, fun it H' h0 hn sm e => ⟨it, rfl, hn, h0, sm, e⟩⟩
  have len := F.len _ _ _ _ _ hsp
  have b := hb s [.ref a] I.kIn (by simpa using len)
  rw [List.append_nil] at b
  refine wpAny_call (codeAny_mono (F.run A' X.stack s H ⟨[.ref a], []⟩ [.ref a] [.ref a] _ E hr he b (.cons rfl .nil) hsp) fun r s' hq => ?_)
  match r, hq with
  | .error e, hq => exact hx pins σ H s e s' I hq
  | .ok (.ret u), hq =>
    obtain ⟨v, H', I', rv, it, ev, hn, h0, sm, e⟩ := I.after hq
    subst ev
    cases (show u = Value.ref it from rv)
    have hit := itT_get I' e
    show PySem.W.OwitIt _ _ _ _ _ _
    unfold PySem.W.OwitIt
    exact wpAny_specialOf hit.typeIs PySem.F.slot_tuple_iterator_next.lookup (q it s' H' I' h0 sm e (Nat.le_trans I.sz hn))
theorem drop_same {H H1 : Hp} {it : Addr} (h0 : H it = none) (sm : Same H H1) : Same H (dropH H1 it) := fun b o e => by
  rw [dropH_ne (ne_of_none e h0)]
  exact sm b o e
/-- for x in o -/
def iOwn (K : PySem.W.Frag) (C : Addr) (ff : Str) (te : TE) : TI := fun σ H R => te σ H fun x H1 => ∃ (a dx t : Addr) (fs : List (Str × V)) (zs : List V), x = .ref a ∧ H1 a = some (.ins C dx fs) ∧ fs.lookup ff = some (.ref t) ∧ H1 t = some (.tup zs) ∧ ∀ H2, Same H1 H2 → R (Itt K t) H2
theorem pi_own {tg e : Expr} {te : TE} {ff : Str} (hs : PySem.W.findIn X.K (.ref C) "__iter__" = some (some (.ref f))) (hf : PySem.W.isFn X.K (.ref f) = true) (F : FnN X.prog X.w X.K X.mg X.base CX k f fd ps (spIter C ff)) (hr : Room k X.A) (hb : Binds X.K fd ps []) (hx : Passes CX X E) (he : PE X e te) : PI X tg e (iOwn X.K C ff te) := by
  refine ⟨fun pins s σ H R I h => thn (he.run pins s σ H _ I h) fun u s1 hh => ?_⟩
  obtain ⟨x, H1, I1, rx, a, dx, t, fs, zs, ex, ha, hl, ht, q⟩ := hh
  subst ex
  cases (show u = Value.ref a from rx)
  refine iter_ownT hs hf F hr I1.env0 hb hx I1 ha hl ht fun it s2 H2 I2 h0 sm e2 hn => ?_
  have e3 := e2
  unfold ItT at e3
  refine ⟨it, [it], _, _, dropH H2 it, rfl, inv_drop I2 e3, turn_tuple t it, itT_get I2 e2, fun b hb => ?_, q _ (drop_same h0 sm)⟩
  rw [List.mem_singleton.mp hb]
  exact inv_fp I2 e2 hn
end
section
variable {prog : Program} {w : World} {A : Around} {E : Value → Shared → Prop} {s : Shared}
/-- the enumerate object behind iter(v) -/
def enumO (it : Addr) : Obj := { cls := .type "enumerate", data := .fields #[.none, .bool false, .ref it, rawInt 0, .none, .none] }
set_option maxHeartbeats 4000000 in
theorem meets_enumI (v : Value) : MeetsIn prog w (Builtin.«enumerate.__new__» ⟨[.type "enumerate", v], []⟩) (fun B R s => wpAny (model prog w) B.in1 (pyIter v) (fun u s' => ∃ it, u = .ref it ∧ R (.ok (.ret (.ref s'.heap.objs.size))) { s' with heap := s'.heap.push (enumO it) }) (fun e s' => R (.error e) s') s) :=
  .of_wp fun B R s h => by
    have hsub := sub_enumerate
    have q1 : ∀ {Q : Value → Shared → Prop}, (∀ it s', R (.ok (.ret (.ref s'.heap.objs.size))) { s' with heap := s'.heap.push (enumO it) } → Q (.ref it) s') → wpAny (model prog w) B.in1 (pyIter v) Q (fun e s' => R (.error e) s') s := fun hQ => wpAny_mono h (fun u s' ⟨it, eu, q⟩ => eu ▸ hQ it s' q) fun _ _ z => z
    obtain ⟨hp, g, d, tk, os⟩ := s
    wp_walk using q1
    refine wpAny_stack_any fun st => wpAny_pure ?_
    split
    · rename_i c _ _ _ _ _
      cases (c == Value.type "enumerate")
      · wp_walk using q1
        rintro it ⟨hp2, g2, d2, tk2, os2⟩ r
        wp_walk
        exact ⟨_, rfl, r⟩
      · wp_walk using q1
        rintro it ⟨hp2, g2, d2, tk2, os2⟩ r
        wp_walk
        exact ⟨_, rfl, r⟩
    · wp_walk using q1
      rintro it ⟨hp2, g2, d2, tk2, os2⟩ r
      wp_walk
      exact ⟨_, rfl, r⟩
theorem enum_call {v : Value} {Q : Value → Shared → Prop} (hi : wpAny (model prog w) A.in1.in1 (pyIter v) (fun u s' => ∃ it, u = .ref it ∧ Q (.ref s'.heap.objs.size) { s' with heap := s'.heap.push (enumO it) }) E s) : wpAny (model prog w) A (call (.type "enumerate") [v]) Q E s :=
  callType_newIn PySem.F.called_enumerate (by decide) (PySem.F.typeCall_enumerate_1 _) (PySem.F.newCall_enumerate_1 _) (fun obj => PySem.F.args_object_init_2 obj _) PySem.F.entry_enumerate_new (meets_enumI v)
    (wpAny_mono hi (fun u s' ⟨it, eu, q⟩ => ⟨it, eu, ⟨_, Heap.get?_push_size _ rfl, rfl⟩, q⟩) fun _ _ z => z)
end
section
variable {X : Cx} {CX : CXT} {k : Nat} {f C : Addr} {fd : FuncData} {ps : List Str} {E : XK}
/-- for i, x in enumerate(v): v a list, a tuple, an own object -/
def iEnumA (K : PySem.W.Frag) (C : Addr) (ff : Str) (ta : TA) : TI := fun σ H R => ta σ H fun vs H1 => ∃ a, vs = [.ref a] ∧ (((∃ xs, SqL K H1 a xs) ∧ R (IteG fun H xs => SqL K H a xs) H1) ∨ ((∃ xs, SqT K H1 a xs) ∧ R (IteG fun H xs => SqT K H a xs) H1) ∨
  ∃ (dx t : Addr) (fs : List (Str × V)) (zs : List V), H1 a = some (.ins C dx fs) ∧ fs.lookup ff = some (.ref t) ∧ H1 t = some (.tup zs) ∧ ∀ H2, Same H1 H2 → R (IteG fun H xs => SqT K H t xs) H2)
theorem pi_enumA {e : Expr} {ta : TA} {ff : Str} {p pos tpos : Pos} {elts : List Expr} {kk : Nat} (hs : PySem.W.findIn X.K (.ref C) "__iter__" = some (some (.ref f))) (hf : PySem.W.isFn X.K (.ref f) = true) (F : FnN X.prog X.w X.K X.mg X.base CX k f fd ps (spIter C ff)) (hr : Room (k + 2) X.A) (hb : Binds X.K fd ps []) (hx : Passes CX X E)
    (hg : Gl X "enumerate") (hm : X.mg "enumerate" = none) (ha : PA X [e] ta) (hst : starEach [e] X.env = [(false, eval e X.env)] := by rfl) : PI X (.Tuple elts kk tpos) (.Call (.Name "enumerate" p) [e] [] pos) (iEnumA X.K C ff ta) := by
  refine ⟨fun pins s σ H R I h => Call_ (ld_blt I hg hm boot_enumerate (PyProof.Rows.callWith_type1 (thn (ha.run pos pins s σ H _ I h) fun us s1 ⟨vs, H1, I1, r1, q1⟩ => ?_) hst rfl))⟩
  obtain ⟨a, ex, q1⟩ := q1
  subst ex
  obtain ⟨u, rfl, ru⟩ := vals1 r1
  cases (show u = Value.ref a from ru)
  refine enum_call ?_
  have push : ∀ {s2 : Shared} {it : Addr}, (∀ b o, s2.heap.get? b = some o → (s2.heap.push (enumO it)).get? b = some o) := fun b o z => Heap.get?_push_of_some _ z
  have isE : ∀ {s2 : Shared} {it : Addr}, IsEnum (s2.heap.push (enumO it)) s2.heap.objs.size it ((0 : Nat) : Int) .none := fun {s2 it} => Heap.get?_push_size _ rfl
  rcases q1 with ⟨⟨xs, hq⟩, q⟩ | ⟨⟨xs, hq⟩, q⟩ | ⟨dx, t, fs, zs, h1, h2, h3, q⟩
  · obtain ⟨its, rv, pl, hz⟩ := I1.list hq
    refine wpAny_pyIter_list pl.isList ⟨_, rfl, ?_⟩
    have I2 : Inv X pins σ H1 { s1 with heap := s1.heap.push { cls := .type "list_iterator", data := .fields #[.ref a, .int 0 0] } } := I1.kept (t' := s1.toks) fun b o z => Heap.get?_push_of_some _ z
    have I3 : Inv X pins σ H1 { s1 with heap := (s1.heap.push { cls := .type "list_iterator", data := .fields #[.ref a, .int 0 0] }).push (enumO s1.heap.objs.size) } := I2.kept (t' := s1.toks) push
    have hz2 : (s1.heap.push { cls := .type "list_iterator", data := .fields #[.ref a, .int 0 0] }).objs.size = s1.heap.objs.size + 1 := Heap.size_push ..
    have hne : (s1.heap.push { cls := .type "list_iterator", data := .fields #[.ref a, .int 0 0] }).objs.size ≠ s1.heap.objs.size := by omega
    have itr : ((s1.heap.push { cls := .type "list_iterator", data := .fields #[.ref a, .int 0 0] }).push (enumO s1.heap.objs.size)).IsListIter s1.heap.objs.size a 0 := ⟨_, Heap.get?_push_of_some _ (Heap.get?_push_size _ rfl), rfl, rfl⟩
    refine wpAny_pyIter_enum isE ⟨_, [_, s1.heap.objs.size], _, _, H1, rfl, I3, turnL a _ s1.heap.objs.size, ⟨⟨.none, isE⟩, itr, hne⟩, fun b hb => ?_, q⟩
    have lt : s1.heap.objs.size ≤ b := by
      rcases List.mem_cons.mp hb with z | z
      · rw [z]
        show s1.heap.objs.size ≤ (s1.heap.push _).objs.size
        omega
      · exact Nat.le_of_eq (List.mem_singleton.mp z).symm
    exact I1.fpOk lt (I1.hok.fresh lt)
  · obtain ⟨its, rv, pl, hz⟩ := I1.tuple hq
    refine wpAny_pyIter_tuple (show s1.heap.IsTuple a its.toArray from pl) ⟨_, rfl, ?_⟩
    have I2 : Inv X pins σ H1 { s1 with heap := s1.heap.push { cls := .type "tuple_iterator", data := .fields #[.ref a, .int 0 0] } } := I1.kept (t' := s1.toks) fun b o z => Heap.get?_push_of_some _ z
    have I3 : Inv X pins σ H1 { s1 with heap := (s1.heap.push { cls := .type "tuple_iterator", data := .fields #[.ref a, .int 0 0] }).push (enumO s1.heap.objs.size) } := I2.kept (t' := s1.toks) push
    have hz2 : (s1.heap.push { cls := .type "tuple_iterator", data := .fields #[.ref a, .int 0 0] }).objs.size = s1.heap.objs.size + 1 := Heap.size_push ..
    have hne : (s1.heap.push { cls := .type "tuple_iterator", data := .fields #[.ref a, .int 0 0] }).objs.size ≠ s1.heap.objs.size := by omega
    have itr : ((s1.heap.push { cls := .type "tuple_iterator", data := .fields #[.ref a, .int 0 0] }).push (enumO s1.heap.objs.size)).IsTupleIter s1.heap.objs.size a 0 := ⟨_, Heap.get?_push_of_some _ (Heap.get?_push_size _ rfl), rfl, rfl⟩
    refine wpAny_pyIter_enum isE ⟨_, [_, s1.heap.objs.size], _, _, H1, rfl, I3, turnT a _ s1.heap.objs.size, ⟨⟨.none, isE⟩, itr, hne⟩, fun b hb => ?_, q⟩
    have lt : s1.heap.objs.size ≤ b := by
      rcases List.mem_cons.mp hb with z | z
      · rw [z]
        show s1.heap.objs.size ≤ (s1.heap.push _).objs.size
        omega
      · exact Nat.le_of_eq (List.mem_singleton.mp z).symm
    exact I1.fpOk lt (I1.hok.fresh lt)
  · have hr1 : Room (k + 1) X.A.in1 := Room.in1 hr
    refine iter_ownT hs hf F hr1.in1 I1.env0.in1.in1 hb hx I1 h1 h2 h3 fun it s2 H2 I2 h0 sm e2 hn => ⟨it, rfl, ?_⟩
    have I3 : Inv X pins σ H2 { s2 with heap := s2.heap.push (enumO it) } := I2.kept (t' := s2.toks) push
    have e3 := e2
    unfold ItT at e3
    have hit : it < s2.heap.objs.size := by
      obtain ⟨_, z, _⟩ := itT_get I2 e2
      exact Heap.lt_size z
    have hne : s2.heap.objs.size ≠ it := Nat.ne_of_gt hit
    refine wpAny_pyIter_enum isE ⟨s2.heap.objs.size, [s2.heap.objs.size, it], _, _, dropH H2 it, rfl, inv_drop I3 e3, turnT t s2.heap.objs.size it, ⟨⟨.none, isE⟩, (itT_get I3 e2), hne⟩, fun b hb => ?_, q _ (drop_same h0 sm)⟩
    rcases List.mem_cons.mp hb with z | z
    · rw [z]
      exact I2.fpOk (Nat.le_refl _) (by
        rw [dropH_ne hne]
        exact I2.hok.fresh (Nat.le_refl _))
    · rw [List.mem_singleton.mp z]
      exact inv_fp I3 e2 hn
end
/-- the turns of an enumerate -/
theorem for_enum {G : Hp → List V → Prop} {xs : List V} {g : TG} {tb : TS} {D : Ends} {ρ : L2.St} {G0 : Hp} (P : Nat → L2.St → Hp → Prop) (first : P 0 ρ G0) (still : ∀ i σ H, i ≤ xs.length → P i σ H → G H xs)
    (step : ∀ i x T σ H H', xs[i]? = some x → P i σ H → H T = none → Same H H' → H' T = some (.tup [.int (i : Nat), x]) → g (.ref T) σ H' fun σ2 H2 => tb { D with nx := P (i + 1), ct := P (i + 1), bk := D.nx } σ2 H2) (last : ∀ σ H, P xs.length σ H → D.nx σ H) :
    ∃ W : Nat → Nat → L2.St → Hp → Prop, (∃ m, W 0 m ρ G0) ∧ ∀ i m σ H, W i m σ H → ((IteG G).stop i H ∧ D.nx σ H) ∨ ((IteG G).go i H ∧ ∃ N : L2.St → Hp → Prop, (∀ σ' H', N σ' H' → ∃ m', m' < m ∧ W (i + 1) m' σ' H') ∧
      ∀ x H', (IteG G).yld i H x H' → g x σ H' fun σ2 H2 => tb { D with nx := N, ct := N, bk := D.nx } σ2 H2) := by
  refine ⟨fun i m σ H => m = xs.length - i ∧ i ≤ xs.length ∧ P i σ H, ⟨_, rfl, Nat.zero_le _, first⟩, ?_⟩
  rintro i m σ H ⟨rfl, hi, p⟩
  have gx := still i σ H hi p
  rcases Nat.lt_or_ge i xs.length with lt | ge
  · refine .inr ⟨⟨xs, xs[i], gx, List.getElem?_eq_getElem lt⟩, P (i + 1), fun σ' H' p' => ⟨_, Nat.sub_succ_lt_self _ _ lt, rfl, lt, p'⟩, fun x H' ⟨T, y, ex, hT, eH, hy⟩ => ?_⟩
    subst ex eH
    exact step i y T σ H _ (hy xs gx) p hT (same_new hT) upd_same
  · have e : i = xs.length := Nat.le_antisymm hi ge
    subst e
    exact .inl ⟨⟨xs, gx, rfl⟩, last σ H p⟩
end Tw
/-! Tw: repr of any data, get of a written dict, isinstance against a tuple of classes, tuples of the written part, the hook with tables. -/
namespace Tw
open PySem PySem.Spec PyProof.Rows L2 He
section
variable {X : Cx}
/-- repr(x), x any data -/
def rReprV (K : PySem.W.Frag) : List V → Hp → VK → Prop := fun xs H Q => ∃ (v : V) (d : PyData), xs = [v] ∧ Dx K H v d ∧ mild d = true ∧ d.depth ≤ 64 ∧ cap d ≤ 16777216 ∧ Q (.str d.shown) H
theorem call_reprV (hG : NoG X.A) (hu : X.A.units + 70 < cLine) : CallR X (.builtin "repr") (rReprV X.K) := by
  intro pins s σ H xs us Q I r h
  obtain ⟨v, d, rfl, hd, hm, hdp, hc, q⟩ := h
  have hl := Nat.le_trans (shown_le d hm) (show cap d ≤ sizeLine by rw [sizeLine_eq]; exact hc)
  cases v with
  | ref a => exact call_repr hG hu pins s σ H _ us Q I r ⟨a, d, rfl, hd, hm, hdp, hc, q⟩
  | non =>
    cases hd
    obtain ⟨u, rfl, ru⟩ := vals1 r
    cases ru
    exact PySem.P.repr_of_none ⟨.str _, H, I.tok _, ⟨_, rfl⟩, by simpa only [PyData.shown] using q⟩
  | bl b =>
    cases hd
    obtain ⟨u, rfl, ru⟩ := vals1 r
    cases ru
    exact PySem.P.repr_of_bool ⟨.str _, H, I.tok _, ⟨_, rfl⟩, by simpa only [PyData.shown] using q⟩
  | int i =>
    cases hd
    obtain ⟨u, rfl, t, rfl⟩ := vals1 r
    exact PySem.P.repr_of_int (by simpa [mild] using hm) ⟨.str _, H, I.tok _, ⟨_, rfl⟩, by simpa only [PyData.shown] using q⟩
  | str x =>
    cases hd
    obtain ⟨u, rfl, t, rfl⟩ := vals1 r
    exact PySem.P.repr_of_str ⟨.str _, H, I.tok _, ⟨_, rfl⟩, by simpa only [PyData.shown] using q⟩ (by simpa only [PyData.shown] using hl)
  | _ => cases hd
/-- isinstance(x, (C, D, ..)), x anything that is known, errors too -/
def rIsAT (K : PySem.W.Frag) : List V → Hp → VK → Prop := fun xs H Q => ∃ (x : V) (tp : Addr) (cs : List V) (t : Value) (us : List Value) (b : Bool), xs = [x, .ref tp] ∧ H tp = some (.tup cs) ∧ Paired ClsV cs us ∧
  (TyX K H x t ∨ ∃ (a C : Addr) (d : Addr) (fs : List (Str × V)), x = .ref a ∧ t = .ref C ∧ IsX H a C (some d) ∧ IsXd H d fs ∧ XC K C ∧ XO K) ∧ PySem.W.kitAny K t us = some b ∧ Q (.bl b) H
theorem call_isAT : CallR X (.builtin "isinstance") (rIsAT X.K) := by
  intro pins s σ H xs us Q I r h
  obtain ⟨x, tp, cs, t, ws, b, rfl, hT, k, ty, e, q⟩ := h
  obtain ⟨u1, u2, rfl, r1, r2⟩ := vals2 r
  cases (show u2 = Value.ref tp from r2)
  obtain ⟨_, its, rv, o, h1, h2, n, h3⟩ := (show ObjOk X.prog X.w H s.heap tp (.tup cs) from I.hok tp _ hT)
  have e3 := ClsV.all k rv
  subst e3
  obtain ⟨oc, od, dt, sl⟩ := o
  simp only at h2 h3
  subst h2 h3
  rcases ty with ty | ⟨a, C, d, fs, rfl, rfl, ia, idd, T, O⟩
  · obtain ⟨P, Z, p, hx⟩ := kit_of I r1 ty
    exact PySem.W.kia_tup Z I.kIn p h1 e hx fun tk => ⟨.bl b, H, I.tok tk, rfl, q⟩
  · cases (show u1 = Value.ref a from r1)
    obtain ⟨oe, vs, ho, hz, hdt⟩ := ia.get I.hok
    obtain ⟨mA, hns, hr⟩ := idd.get I.hok
    obtain ⟨od, hod, hlk⟩ := lookIn_ns hns
    have J : PySem.W.InstAt s.heap a oe C (some od) := ⟨ho, hz.1, by unfold PySem.W.notCls; rw [hdt] <;> rfl, by rw [hz.2]; exact hod⟩
    exact PySem.W.kia_tup (PySem.W.kitx_exc (od := some od) (oexC_cl T.ox) T.ga T.gg T.ox.exC T.ca O.hn O.ht T.cm) I.kIn J h1 e (fun z => nomatch z) fun tk => ⟨.bl b, H, I.tok tk, rfl, q⟩
end
/-- d.get(y, x), d a dict of the top with text keys -/
def tKGet2 (K : PySem.W.Frag) (d : Addr) (td ty tx : TE) : TE := fun σ H Q => td σ H fun x H1 => x = .ref d ∧ ty σ H1 fun y H2 => ∃ z, y = .str z ∧ tx σ H2 fun q H3 => ∃ (r : Option Value) (v : V), PySem.W.nsIn K d z = some r ∧ (∀ u, RelV q u → RelV v (r.getD u)) ∧ Q v H3
section
variable {X : Cx} {o e f : Expr} {apos cpos : Pos} {td ty tx : TE} {d : Addr} {es : Array DictEntry} {n : Nat}
theorem pe_kget2 (D : KDict X.K X.w d es n) (ho : PE X o td) (he : PE X e ty) (hf : PE X f tx) (m : M2 X o "get" apos e f cpos) : PE X (.Call (.Attribute o "get" apos) [e, f] [] cpos) (tKGet2 X.K d td ty tx) := by
  refine ⟨fun pins s σ H Q I h => ?_⟩
  refine wpAny_Call_method m.base m.few m.line PySem.F.plainAttrs_dict PySem.F.slot_dict_get PySem.F.type_dict_get (thn (ho.run pins s σ H _ I h) fun u s1 ⟨x, H1, I1, rx, ex, q1⟩ => ?_)
  subst ex
  obtain rfl : u = Value.ref d := rx
  refine ⟨kd_type D I1, fun b q => by cases q; exact ⟨_, I1.kIn _ _ D.at_, rfl⟩, ?_⟩
  rw [m.trees]
  refine Calls.callWith_builtin rfl (Calls.evalArgs_plain (Calls.spliced_cons (thn (he.run pins s1 σ H1 _ I1 q1) fun iv s2 ⟨y, H2, I2, ry, z, ez, q2⟩ =>
    Calls.spliced_cons (thn (hf.run pins s2 σ H2 _ I2 q2) fun fv s3 ⟨q, H3, I3, rq, r, v, er, hv, q3⟩ => Calls.spliced_nil ?_))))
  subst ez
  obtain ⟨t, rfl⟩ := ry
  refine call_meetsIn PySem.F.slot_dict_get (kd_type D I3) PySem.F.entry_dict_get (PySem.F.args_dict_get_3 _ _ _) (meets_dict_get_default (PySem.strKind X.prog X.w) d (PySem.strKind_is X.prog X.w z t) D.low fv) ⟨_, PySem.W.mapOf_K (prog := X.prog) I3.kIn D.at_ D.lit, ?_⟩
  rw [PySem.W.find_K D.at_ er]
  exact ⟨v, H3, I3.tok _, hv _ rq, q3⟩
end
/-! ### tuples of the written part -/
def tupB (K : Fg) (a : Addr) (vs : List V) : Bool := match K.lookup a with
  | some ⟨.type t, _, .seq its _, _⟩ => decide (t = "tuple") && (decide (its.size ≤ 1000) && relAll vs its.toList)
  | _ => false
theorem tupB_ok {K : Fg} {a : Addr} {vs : List V} (h : tupB K a vs = true) (H : Hp) : SqT K H a vs := by
  unfold tupB at h
  cases e : K.lookup a with
  | none =>
    rw [e] at h
    cases h
  | some o =>
    rw [e] at h
    obtain ⟨oc, od, dt, sl⟩ := o
    cases oc with
    | type t =>
      cases dt with
      | seq its n =>
        obtain ⟨h1, h⟩ := ba h
        obtain ⟨h2, h3⟩ := ba h
        have e1 := of_decide_eq_true h1
        subst e1
        exact .inr ⟨_, its, n, e, rfl, rfl, Nat.le_trans (of_decide_eq_true h2) (by decide), relAll_ok h3⟩
      | _ => cases h
    | _ => cases h
/-- C.f, a constant read off the class -/
def cvalB (K : Fg) (C : Addr) (f : Str) (v : V) : Bool := match PySem.W.findCls K (.ref C) (.type "type") f with
  | some (.val u) => relB v u
  | _ => false
theorem cvalB_ok {K : Fg} {C : Addr} {f : Str} {v : V} (h : cvalB K C f v = true) : ∃ u, ClX.CVal K C (.type "type") f v u := by
  unfold cvalB at h
  split at h
  · rename_i u e
    exact ⟨u, e, relB_ok h⟩
  · cases h
def creadB (K : Fg) (C : Addr) : Bool := PySem.W.readsIn K C (.type "type") && eqO (PySem.W.specialIn K (.ref C) "__getattribute__") (some (some (.builtin "type.__getattribute__")))
theorem creadB_ok {K : Fg} {C : Addr} (h : creadB K C = true) : ClX.CRead K C (.type "type") := by
  obtain ⟨h1, h2⟩ := ba h
  exact ⟨h1, eqO_ok h2⟩
/-! ### the hook with tables -/
abbrev AlYT : Type := AlD × List (Option (List (Option (Str × Int))))
def obsYT (fs : Fz) (fn : List DefD) (ts : List Tab) (K : Fg) : AlYT := (obsY fs fn K, ts.map fun t => dicW K (t.1 K))
def valYT (fn : List DefD) (ts : List Tab) (w : World) : AlYT := (valD fn, ts.map fun t => some (keysIn w.params t.2))
def obsYTG (n : Nat) (fs : Fz) (fn : List DefD) (ts : List Tab) (g : Addr → Option Obj) : AlYT := obsYT fs fn ts (frG g (asD g n ++ [cStatics]))
def SaysYT (fs : Fz) (fn : List DefD) (ts : List Tab) (w : World) (K : Fg) : Prop := obsYT fs fn ts K = valYT fn ts w
def hookYT (n : Nat) (fs : Fz) (fn : List DefD) (ts : List Tab) : PySem.W.Hook where
  α := AlYT
  obs := fun s => obsYTG n fs fn ts s.heap.get?
  val := fun w => valYT fn ts w
  says := fun w h => ∃ K : Fg, K.In h ∧ SaysYT fs fn ts w K
  of := fun _ _ e => ⟨_, frG_in, e⟩
  keeps := fun _ _ _ ⟨K, hK, c⟩ k => ⟨K, PySem.W.Frag.In.keeps hK k, c⟩
theorem obsYTG_eq {n : Nat} {fs : Fz} {fn : List DefD} {ts : List Tab} {g : Addr → Option Obj} {s : Shared} (h : ∀ a, g a = s.heap.get? a) : obsYTG n fs fn ts g = (hookYT n fs fn ts).obs s := by
  have e : g = s.heap.get? := funext h
  rw [e] <;> rfl
section
variable {fs : Fz} {fn : List DefD} {ts : List Tab} {w : World} {K : Fg}
theorem SaysYT.y (c : SaysYT fs fn ts w K) : SaysY fs fn K := congrArg (fun z : AlYT => z.1) c
theorem SaysYT.tab (c : SaysYT fs fn ts w K) (i : Nat) {t : Tab} (h : ts[i]? = some t := by rfl) : ∃ es n, KDict K w (t.1 K) es n := by
  have e : ts.map (fun t => dicW K (t.1 K)) = ts.map fun t => some (keysIn w.params t.2) := congrArg (fun z : AlYT => z.2) c
  have e2 : (ts.map fun t => dicW K (t.1 K))[i]? = (ts.map fun t => some (keysIn w.params t.2))[i]? := by rw [e]
  rw [List.getElem?_map, List.getElem?_map, h] at e2
  exact dicW_ok (Option.some.inj e2)
end
/-! ### small texts -/
/-- signs below 128, at most n -/
def Small (n : Nat) (z : Str) : Prop := z.length ≤ n ∧ ∀ c ∈ z.cps.toList, c < 128
theorem Small.app {m n : Nat} {x y : Str} (hx : Small m x) (hy : Small n y) : Small (m + n) (x ++ y) := by
  refine ⟨by rw [Str.length_append]; exact Nat.add_le_add hx.1 hy.1, fun c hc => ?_⟩
  rw [show (x ++ y).cps.toList = TL.tl (x ++ y) from rfl, TL.tl_append] at hc
  rcases List.mem_append.mp hc with q | q
  · exact hx.2 c q
  · exact hy.2 c q
theorem Small.cut {n : Nat} {x : Str} (hx : Small n x) (lo hi : Option Int) : Small n (cutS x lo hi) := by
  refine ⟨Nat.le_trans (cutS_length x lo hi) hx.1, fun c hc => hx.2 c ?_⟩
  unfold cutS at hc
  exact List.mem_of_mem_drop (List.mem_of_mem_take (by simpa using hc))
theorem Small.mono {m n : Nat} {x : Str} (hx : Small m x) (h : m ≤ n) : Small n x := ⟨Nat.le_trans hx.1 h, hx.2⟩
theorem Small.mild {n : Nat} {x : Str} (hx : Small n x) : Tw.mild (.str x) = true := by
  unfold Tw.mild
  rw [List.all_eq_true]
  exact fun c hc => decide_eq_true (Nat.lt_trans (hx.2 c hc) (by decide))
def smallB (n : Nat) (z : Str) : Bool := decide (z.length ≤ n) && z.cps.toList.all fun c => decide (c < 128)
theorem smallB_ok {n : Nat} {z : Str} (h : smallB n z = true) : Small n z := by
  obtain ⟨h1, h2⟩ := ba h
  exact ⟨of_decide_eq_true h1, fun c hc => of_decide_eq_true (List.all_eq_true.mp h2 c hc)⟩
theorem Small.strOk {n : Nat} {z : Str} (h : Small n z) : PyData.strOk z = true := by
  unfold PyData.strOk
  rw [← Array.all_toList, List.all_eq_true]
  exact fun c hc => decide_eq_true (Nat.lt_trans (h.2 c hc) (by decide))
/-! ### lists of texts -/
theorem dxStrs {K : PySem.W.Frag} {H : Hp} : ∀ zs : List Str, DxAll K H (zs.map V.str) (zs.map PyData.str)
  | [] => .nil
  | z :: zs => .cons (.str z) (dxStrs zs)
theorem dxBools {K : PySem.W.Frag} {H : Hp} : ∀ zs : List Bool, DxAll K H (zs.map V.bl) (zs.map PyData.bool)
  | [] => .nil
  | z :: zs => .cons (.bl z) (dxBools zs)
theorem dpStrs {K : PySem.W.Frag} {H : Hp} : ∀ zs : List Str, DpAll K H (zs.map V.str) (zs.map PyData.str)
  | [] => .nil
  | z :: zs => .cons (.str z) (dpStrs zs)
theorem mildStrs {n : Nat} : ∀ zs : List Str, (∀ z ∈ zs, Small n z) → mildAll (zs.map .str) = true ∧ capAll (zs.map .str) ≤ (12 * n + 100) * zs.length
  | [], _ => ⟨rfl, Nat.le_refl _⟩
  | z :: zs, h => by
    obtain ⟨h1, h2⟩ := mildStrs zs fun y hy => h y (List.mem_cons_of_mem _ hy)
    have h3 := h z List.mem_cons_self
    constructor
    · simp only [List.map_cons, mildAll, h3.mild, h1, Bool.and_self]
    · simp only [List.map_cons, capAll, List.length_cons]
      have h4 : cap (.str z) ≤ 12 * n + 90 := by
        have := h3.1
        simp only [cap]
        omega
      rw [Nat.mul_add]
      omega
theorem depthStrs : ∀ zs : List Str, PyData.depthAll (zs.map PyData.str) = 0
  | [] => rfl
  | z :: zs => by simp only [List.map_cons, PyData.depthAll, PyData.depth, depthStrs zs, Nat.max_self]
/-- what repr asks of a list of small texts -/
theorem reprStrs {n : Nat} (zs : List Str) (h : ∀ z ∈ zs, Small n z) (hn : n ≤ 1000) (hz : zs.length ≤ 1000) : mild (.list (zs.map .str)) = true ∧ (PyData.list (zs.map .str)).depth ≤ 64 ∧ cap (.list (zs.map .str)) ≤ 16777216 := by
  obtain ⟨h1, h2⟩ := mildStrs zs h
  have h3 : (12 * n + 100) * zs.length ≤ 12100 * 1000 := Nat.mul_le_mul (by omega) hz
  refine ⟨by simpa [mild] using h1, by simp only [PyData.depth, depthStrs]; decide, ?_⟩
  simp only [cap]
  omega
end Tw
/-! ### the defs of a text, by their number -/
namespace Tw
open PySem PySem.Spec PyProof.Rows L2 He
abbrev DefsAt (fn : List DefD) (K : Fg) (fd : Nat → FuncData) : Prop := ∀ (i : Nat) (d : DefD), fn[i]? = some d → FunD K d.name d.qual d.params d.body d.scope (d.dvs K) (d.kws K) (fAd K d.at_) (fd i)
theorem SaysY.defs {fs : Fz} {fn : List DefD} {K : Fg} (c : SaysY fs fn K) {d0 : DefD} (h0 : fn[0]? = some d0) : ∃ fd : Nat → FuncData, DefsAt fn K fd := by
  obtain ⟨u0, _⟩ := c.def_ 0 h0
  have h : ∀ i : Nat, ∃ u : FuncData, ∀ d : DefD, fn[i]? = some d → FunD K d.name d.qual d.params d.body d.scope (d.dvs K) (d.kws K) (fAd K d.at_) u := fun i => by
    cases e : fn[i]? with
    | none => exact ⟨u0, fun d z => nomatch z⟩
    | some d =>
      obtain ⟨u, hu⟩ := c.def_ i e
      exact ⟨u, fun d' z => by
        cases z
        exact hu⟩
  exact ⟨fun i => Classical.choose (h i), fun i d e => Classical.choose_spec (h i) d e⟩
/-- what the walk asks of the written part and of the module's names -/
structure TxtB (fs : Fz) (fn : List DefD) (K : Fg) (mg : Str → Option Value) : Prop where
  c : SaysY fs fn K
  gl : ∀ x, (Fa.glo x).ok K = true → mg x = some (.ref (ga K x))
  fr : ∀ x, (Fa.free x).ok K = true → mg x = none
  nt : ∀ x i, (Fa.int x i).ok K = true → ∃ t, mg x = some (.int i t)
  tx : ∀ x z, (Fa.str x z).ok K = true → ∃ t, mg x = some (.str z t)
end Tw
namespace Tw
open PySem PySem.Spec PyProof.Rows L2 He
/-! ### errors of one field -/
/-- C.__init__ that stores one value -/
def spIni (C : Addr) (f : Str) : Sp := fun vs H Q _ => ∃ (a : Addr) (v : V), vs = [.ref a, v] ∧ H a = some (exo a C none) ∧ ∀ (d : Addr) (H' : Hp), H d = none → d ≠ a → H' a = some (exo a C (some d)) → H' d = some (exd d [(f, v)]) → But a H H' → Q .non H'
theorem bad_out {H : Hp} {C : Addr} {f : Str} {v : V} {Q : XK} {E : XK} (k : ∀ (d : Addr) (H' : Hp), Same H H' → H' d = some (.xd [(f, v)]) → Q (.ref C) (some d) H') :
    ([v] : List V).length ≤ 1000 ∧ ∀ a, H a = none → spIni C f (.ref a :: (([v] : List V) ++ [])) (upd H a (exo a C none)) (fun v H2 => v = .non ∧ ∃ (d : Addr) (fs : List (Str × V)), H2 a = some (exo a C (some d)) ∧ H2 d = some (exd d fs) ∧ H d = none ∧ Q (.ref C) (some d) (upd (del H2 a) d (.xd fs))) E := by
  refine ⟨(by show 1 ≤ 1000; decide), fun a ha => ⟨a, v, rfl, upd_same, fun d H' hd hda e1 e2 e3 => ?_⟩⟩
  rw [upd_ne hda] at hd
  refine ⟨rfl, d, _, e1, e2, hd, k d _ (fun b o hb => ?_) upd_same⟩
  have hba : b ≠ a := ne_of_none hb ha
  rw [upd_ne (ne_of_none hb hd), del_ne hba]
  exact e3 b o (by rw [upd_ne hba]; exact hb) hba
theorem same_but {H H1 H2 : Hp} {a : Addr} (s : Same H H1) (b : But a H1 H2) (h : H a = none) : Same H H2 := fun c o e => b c o (s c o e) (ne_of_none e h)
theorem same_made {H : Hp} {a dx : Addr} {o u : HO} (hd : H dx = none) (ha : H a = none) (hda : dx ≠ a) : Same H (upd (upd H dx o) a u) := (same_new hd).trans (same_new (by rw [upd_ne hda.symm]; exact ha))
theorem atI_gen {α : Type} {xs : List α} {i : Int} {v : α} (h0 : 0 ≤ i) (h : xs[i.toNat]? = some v) : atI xs i = some v := by
  have e : i = (i.toNat : Int) := (Int.toNat_of_nonneg h0).symm
  rw [e]
  exact atI_nat h
theorem dec_i {i j : Int} : decide (V.int i = V.int j) = decide (i = j) := by
  by_cases h : i = j
  · rw [h]
    simp
  · rw [decide_eq_false h, decide_eq_false fun z => h (V.int.inj z)]
theorem dec_s {i j : Str} : decide (V.str i = V.str j) = decide (i = j) := by
  by_cases h : i = j
  · rw [h]
    simp
  · rw [decide_eq_false h, decide_eq_false fun z => h (V.str.inj z)]
theorem inStrs (z : Str) : ∀ zs : List Str, inV (.str z) (zs.map V.str) = decide (z ∈ zs)
  | [] => rfl
  | y :: ys => by
    have ih := inStrs z ys
    unfold inV at ih ⊢
    rw [List.map_cons, List.any_cons, ih]
    show ((y == z) || _) = _
    by_cases h : y = z
    · subst h
      simp
    · rw [beq_eq_false_iff_ne.mpr h, Bool.false_or]
      exact decide_eq_decide.2 ⟨fun q => List.mem_cons_of_mem _ q, fun q => (List.mem_cons.mp q).resolve_left fun e => h e.symm⟩
theorem flatStrs : ∀ zs : List Str, (zs.map V.str).all flatV = true
  | [] => rfl
  | _ :: zs => by
    rw [List.map_cons, List.all_cons, flatStrs zs]
    rfl
end Tw
/-! Tw: own operators: x + y of one class, x * 3, 3 * x, -x, x += y. -/
namespace Tw
open PySem PySem.Spec PyProof.Rows L2 He
/-- the class at C answers to name by the def at f -/
structure OwnB (K : PySem.W.Frag) (C : Addr) (name : Str) (f : Addr) : Prop where
  self1 : PySem.W.selfFirst K C = true
  at_ : PySem.W.findIn K (.ref C) name = some (some (.ref f))
  fn : PySem.W.isFn K (.ref f) = true
def ownB (K : PySem.W.Frag) (x m : Str) : Bool := PySem.W.selfFirst K (ga K x) && (eqO (PySem.W.findIn K (.ref (ga K x)) m) (some (some (.ref (ma K (ga K x) m)))) && PySem.W.isFn K (.ref (ma K (ga K x) m)))
theorem ownB_ok {K : PySem.W.Frag} {x m : Str} (h : ownB K x m = true) : OwnB K (ga K x) m (ma K (ga K x) m) := by
  obtain ⟨h1, h⟩ := ba h
  obtain ⟨h2, h3⟩ := ba h
  exact ⟨h1, eqO_ok h2, h3⟩
section
variable {X : Cx} {CX : CXT} {k : Nat} {f C : Addr} {fd : FuncData} {ps : List Str} {sp : Sp} {E : XK} {op : Operator} {T : String}
/-- x op y, both of the class at C -/
def rBinOwn (C : Addr) (sp : Sp) (E : XK) : R2 := fun x y H Q => ∃ (a b dx dy : Addr) (fs gs : List (Str × V)), x = .ref a ∧ y = .ref b ∧ H a = some (.ins C dx fs) ∧ H b = some (.ins C dy gs) ∧ sp [x, y] H Q E
theorem op_binOwn (c : OwnB X.K C (PySem.dunder op.info.2) f) (F : FnOk X.prog X.w X.K X.mg X.base CX k f fd ps sp) (hr : Room k X.A) (hb : Binds X.K fd ps []) (hx : Passes CX X E) : OpR X (binaryOp op) (rBinOwn C sp E) := by
  intro pins s σ H x y v u Q I rx ry h
  obtain ⟨a, b, dx, dy, fs, gs, rfl, rfl, ea, eb, q⟩ := h
  cases (show v = Value.ref a from rx)
  cases (show u = Value.ref b from ry)
  obtain ⟨od, ox, J⟩ := inst_at I ea
  obtain ⟨od2, oy, J2⟩ := inst_at I eb
  obtain ⟨m, fr⟩ := I.fr
  refine PySem.W.binop_K fr I.ok.mod.kin J J2.type c.self1 c.at_ c.fn ?_
  refine wpAny_mono (run_fn (dvs := []) (ds := []) (us := [.ref a, .ref b]) (vs := [.ref a, .ref b]) F hr hb .nil hx I (.cons rfl (.cons rfl .nil)) q) (fun w s' z => ?_) fun _ _ x => x
  obtain ⟨z', H', I', rz, qz⟩ := z
  exact SlX.cmpback rz ⟨z', H', I', rz, qz⟩
/-- what is asked of a built-in class beside it -/
structure BinT (K : PySem.W.Frag) (C : Addr) (op : Operator) (T : String) : Prop where
  l : ∃ fo, PySem.W.findIn K (.type T) (PySem.dunder op.info.2) = some fo
  r : ∃ ro, PySem.W.findIn K (.type T) (PySem.dunderR op.info.2) = some ro
  sub : PySem.W.subIn K (.type T) (.ref C) = some false
  rc : ∃ rc, PySem.W.findIn K (.ref C) (PySem.dunderR op.info.2) = some rc ∧ (rc = none ∨ ∃ g : Addr, rc = some (.ref g))
def refOrNone : Option (Option Value) → Bool
  | some none => true
  | some (some (.ref _)) => true
  | _ => false
theorem refOrNone_ok {o : Option (Option Value)} (h : refOrNone o = true) : ∃ rc, o = some rc ∧ (rc = none ∨ ∃ g : Addr, rc = some (.ref g)) := by
  unfold refOrNone at h
  split at h
  · exact ⟨_, rfl, .inl rfl⟩
  · rename_i g
    exact ⟨_, rfl, .inr ⟨g, rfl⟩⟩
  · cases h
def binTB (K : PySem.W.Frag) (x : Str) (op : Operator) (T : String) : Bool := (PySem.W.findIn K (.type T) (PySem.dunder op.info.2)).isSome && ((PySem.W.findIn K (.type T) (PySem.dunderR op.info.2)).isSome && (decide (PySem.W.subIn K (.type T) (.ref (ga K x)) = some false) && refOrNone (PySem.W.findIn K (.ref (ga K x)) (PySem.dunderR op.info.2))))
theorem binTB_ok {K : PySem.W.Frag} {x : Str} {op : Operator} {T : String} (h : binTB K x op T = true) : BinT K (ga K x) op T := by
  obtain ⟨h1, h⟩ := ba h
  obtain ⟨h2, h⟩ := ba h
  obtain ⟨h3, h4⟩ := ba h
  exact ⟨Option.isSome_iff_exists.mp h1, Option.isSome_iff_exists.mp h2, of_decide_eq_true h3, refOrNone_ok h4⟩
/-- y is a value of the built-in class T -/
def ofT (H : Hp) (y : V) (T : String) : Prop := match y with
  | .int _ => T = "int"
  | .bl _ => T = "bool"
  | .str _ => T = "str"
  | _ => False
theorem ofT_type {H : Hp} {y : V} {u : Value} (r : RelV y u) (h : ofT H y T) : typeOf u = pure (.type T) := by
  cases y with
  | int i =>
    obtain ⟨t, rfl⟩ := r
    cases (show T = "int" from h)
    rfl
  | bl b =>
    cases (show u = Value.bool b from r)
    cases (show T = "bool" from h)
    rfl
  | str z =>
    obtain ⟨t, rfl⟩ := r
    cases (show T = "str" from h)
    rfl
  | _ => exact h.elim
/-- x op y, x of the class at C, y a number or a text -/
def rBinT (C : Addr) (T : String) (sp : Sp) (E : XK) : R2 := fun x y H Q => ∃ (a dx : Addr) (fs : List (Str × V)), x = .ref a ∧ H a = some (.ins C dx fs) ∧ ofT H y T ∧ sp [x, y] H Q E
theorem op_binT (c : OwnB X.K C (PySem.dunder op.info.2) f) (t : BinT X.K C op T) (F : FnOk X.prog X.w X.K X.mg X.base CX k f fd ps sp) (hr : Room k X.A) (hb : Binds X.K fd ps []) (hx : Passes CX X E) : OpR X (binaryOp op) (rBinT C T sp E) := by
  intro pins s σ H x y v u Q I rx ry h
  obtain ⟨a, dx, fs, rfl, ea, ht, q⟩ := h
  cases (show v = Value.ref a from rx)
  obtain ⟨od, ox, J⟩ := inst_at I ea
  obtain ⟨m, fr⟩ := I.fr
  obtain ⟨fo, h1⟩ := t.l
  obtain ⟨ro, h2⟩ := t.r
  obtain ⟨rc, h3, h4⟩ := t.rc
  refine PySem.W.ksp_binT fr I.ok.mod.kin J (ofT_type ry ht) c.self1 c.at_ c.fn h3 h4 h1 h2 t.sub ?_
  refine wpAny_mono (run_fn (dvs := []) (ds := []) (us := [.ref a, u]) (vs := [.ref a, y]) F hr hb .nil hx I (.cons rfl (.cons ry .nil)) q) (fun w s' z => ?_) fun _ _ x => x
  obtain ⟨z', H', I', rz, qz⟩ := z
  exact SlX.cmpback rz ⟨z', H', I', rz, qz⟩
/-- -x -/
def rNegOwn (C : Addr) (sp : Sp) (E : XK) : V → Hp → VK → Prop := fun x H Q => ∃ (a dx : Addr) (fs : List (Str × V)), x = .ref a ∧ H a = some (.ins C dx fs) ∧ sp [x] H Q E
theorem un_negOwn (c : OwnB X.K C "__neg__" f) (F : FnOk X.prog X.w X.K X.mg X.base CX k f fd ps sp) (hr : Room k X.A) (hb : Binds X.K fd ps []) (hx : Passes CX X E) : UnR X (unaryOp .USub) (rNegOwn C sp E) := by
  intro pins s σ H x v Q I rx h
  obtain ⟨a, dx, fs, rfl, ea, q⟩ := h
  cases (show v = Value.ref a from rx)
  obtain ⟨od, ox, J⟩ := inst_at I ea
  obtain ⟨m, fr⟩ := I.fr
  refine PySem.W.ksp_neg fr I.ok.mod.kin J c.at_ c.fn ?_
  exact run_fn (dvs := []) (ds := []) (us := [.ref a]) (vs := [.ref a]) F hr hb .nil hx I (.cons rfl .nil) q
/-- x op= y by an own in-place method -/
def rInOwn (C : Addr) (sp : Sp) (E : XK) : R2 := fun x y H Q => ∃ (a dx : Addr) (fs : List (Str × V)), x = .ref a ∧ H a = some (.ins C dx fs) ∧ sp [x, y] H Q E
theorem in_own (c : OwnB X.K C (PySem.dunderI op.info.2) f) (F : FnOk X.prog X.w X.K X.mg X.base CX k f fd ps sp) (hr : Room k X.A) (hb : Binds X.K fd ps []) (hx : Passes CX X E) : OpR X (inplaceOp op) (rInOwn C sp E) := by
  intro pins s σ H x y v u Q I rx ry h
  obtain ⟨a, dx, fs, rfl, ea, q⟩ := h
  cases (show v = Value.ref a from rx)
  obtain ⟨od, ox, J⟩ := inst_at I ea
  obtain ⟨m, fr⟩ := I.fr
  refine PySem.W.ksp_inplace fr I.ok.mod.kin J c.self1 c.at_ c.fn ?_
  refine wpAny_mono (run_fn (dvs := []) (ds := []) (us := [.ref a, u]) (vs := [.ref a, y]) F hr hb .nil hx I (.cons rfl (.cons ry .nil)) q) (fun w s' z => ?_) fun _ _ x => x
  obtain ⟨z', H', I', rz, qz⟩ := z
  exact SlX.cmpback rz ⟨z', H', I', rz, qz⟩
end
end Tw
namespace Tw
open PySem PySem.Spec PyProof.Rows L2 He
/-! ### a staticmethod called by its class -/
structure CSta (K : PySem.W.Frag) (C : Addr) (m : Str) (p g : Addr) : Prop where
  at_ : PySem.W.findCls K (.ref C) (.type "type") m = some (.get (.builtin "staticmethod.__get__") (.ref p) .none (.ref C))
  rc : ∃ rest, PySem.W.recIn K p "staticmethod" = some (.ref g :: rest)
  kp : PySem.W.keepIn K (.ref g) = true
/-- the def behind the record of C.m -/
def rcAt (K : PySem.W.Frag) (x m T : Str) : Addr := match PySem.W.recIn K (ma K (ga K x) m) T.toString with
  | some (.ref g :: _) => g
  | _ => 0
def cstaB (K : PySem.W.Frag) (x m : Str) : Bool := (match PySem.W.findCls K (.ref (ga K x)) (.type "type") m with
  | some (.get (.builtin b) (.ref p) .none (.ref C)) => decide (b = "staticmethod.__get__") && (decide (p = ma K (ga K x) m) && decide (C = ga K x))
  | _ => false) && ((match PySem.W.recIn K (ma K (ga K x) m) "staticmethod" with
  | some (.ref g :: _) => decide (g = rcAt K x m "staticmethod")
  | _ => false) && PySem.W.keepIn K (.ref (rcAt K x m "staticmethod")))
theorem cstaB_ok {K : PySem.W.Frag} {x m : Str} (h : cstaB K x m = true) : CSta K (ga K x) m (ma K (ga K x) m) (rcAt K x m "staticmethod") := by
  obtain ⟨h1, h⟩ := ba h
  obtain ⟨h2, h3⟩ := ba h
  refine ⟨?_, ?_, h3⟩
  · split at h1
    · rename_i b p C e
      obtain ⟨a1, a⟩ := ba h1
      obtain ⟨a2, a3⟩ := ba a
      rw [e, of_decide_eq_true a1, of_decide_eq_true a2, of_decide_eq_true a3]
    · cases h1
  · split at h2
    · rename_i g rest e
      exact ⟨rest, by rw [e, of_decide_eq_true h2]⟩
    · cases h2
section
variable {X : Cx} {CX : CXT} {k : Nat} {C p g : Addr} {fd : FuncData} {ps : List Str} {sp : Sp} {dvs : List V} {ds : List Value} {E : XK} {o e : Expr} {es : List Expr} {m : Str} {pos apos : Pos} {ta : TE} {t : TA} {pl : Sem Bool}
theorem typ_of {K : PySem.W.Frag} {mc : Value} (h : PySem.W.readsIn K C mc = true) : PySem.W.typeIn K (.ref C) = some mc := by
  simp only [PySem.W.readsIn, Bool.and_eq_true, beq_iff_eq] at h
  exact h.1.1.1.2
theorem pe_smeth (he : PE X o ta) (r : ClX.CRead X.K C (.type "type")) (c : CSta X.K C m p g) (F : FnOk X.prog X.w X.K X.mg X.base CX k g fd ps sp) (hr : Room k X.A) (hb : Binds X.K fd ps ds) (hd : Vals dvs ds) (hx : Passes CX X E) (ha : PA X (e :: es) t)
    (hst : starEach (e :: es) X.env = (false, eval e X.env) :: starEach es X.env := by rfl) (hpl : (backTo pos (starEach es X.env)).any (·.1) = false := by rfl)
    (ht : eval (.Call (.Attribute o m apos) (e :: es) [] pos) X.env = (do
      let ov ← eval o X.env
      standAt apos.atName
      let (f, first) ← holding [ov] (getMethod ov m pl)
      callWith pos f first (backTo pos (starEach (e :: es) X.env)) (backToKw pos (keywordEach [] X.env))) := by rfl) :
    PE X (.Call (.Attribute o m apos) (e :: es) [] pos) (fun σ H Q => ta σ H fun x H1 => x = .ref C ∧ t σ H1 fun vs H2 => sp (vs ++ dvs) H2 Q E) := by
  refine ⟨fun pins s σ H Q I h => ?_⟩
  refine PySem.W.methodCall_KW (pl := pl) (thn (he.run pins s σ H _ I h) fun u s1 ⟨x, H1, I1, rx, ex, q⟩ => ?_) ht
  subst ex
  obtain rfl : u = Value.ref C := rx
  obtain ⟨m', fr⟩ := I1.fr
  obtain ⟨rest, hp⟩ := c.rc
  refine PySem.W.method_cls I1.kIn r.ga (PySem.W.cls_sm fr I1.ok.mod.kin (typ_of r.rd) r.rd c.at_ hp rfl ?_)
  have I2 := I1.tok (s1.toks + 1)
  exact PySem.W.callWith_K (h₀ := X.base) I2.ok.mod.kin c.kp (thn (ha.run pos pins _ σ H1 _ I2 q) fun us s3 ⟨vs, H2, I3, rv, q2⟩ => ⟨I3.kIn, run_fn F hr hb hd hx I3 rv q2⟩) hst hpl
end
end Tw
/-! Tw: a staticmethod called within try; == of two lists of one and the same thing; slices and == within a comprehension. -/
namespace Tw
open PySem PySem.Spec PyProof.Rows L2 He
section
variable {X : Cx} {CX : CXT} {k : Nat} {C m' p g : Addr} {fd : FuncData} {ps : List Str} {sp : Sp} {E : L2.St → XK} {m : Str} {o e : Expr} {es : List Expr} {pos apos : Pos} {ta : TE} {t : TA}
theorem pe_smethS {pl : Sem Bool} (he : PE X o ta) (r : ClX.CRead X.K C (.type "type")) (c : CSta X.K C m p g) (F : FnOk X.prog X.w X.K X.mg X.base CX k g fd ps sp) (hr : Room k X.A) (hb : Binds X.K fd ps []) (hx : ∀ σ, PassesAt CX X σ (E σ)) (ha : PA X (e :: es) t)
    (hst : starEach (e :: es) X.env = (false, eval e X.env) :: starEach es X.env := by rfl) (hpl : (backTo pos (starEach es X.env)).any (·.1) = false := by rfl)
    (ht : eval (.Call (.Attribute o m apos) (e :: es) [] pos) X.env = (do
      let ov ← eval o X.env
      standAt apos.atName
      let (f, first) ← holding [ov] (getMethod ov m pl)
      callWith pos f first (backTo pos (starEach (e :: es) X.env)) (backToKw pos (keywordEach [] X.env))) := by rfl) :
    PE X (.Call (.Attribute o m apos) (e :: es) [] pos) (fun σ H Q => ta σ H fun x H1 => x = .ref C ∧ t σ H1 fun vs H2 => sp vs H2 Q (E σ)) := by
  refine ⟨fun pins s σ H Q I h => ?_⟩
  refine PySem.W.methodCall_KW (pl := pl) (thn (he.run pins s σ H _ I h) fun u s1 ⟨x, H1, I1, rx, ex, q⟩ => ?_) ht
  subst ex
  obtain rfl : u = Value.ref C := rx
  obtain ⟨m', fr⟩ := I1.fr
  obtain ⟨rest, hp⟩ := c.rc
  refine PySem.W.method_cls I1.kIn r.ga (PySem.W.cls_sm fr I1.ok.mod.kin (typ_of r.rd) r.rd c.at_ hp rfl ?_)
  have I2 := I1.tok (s1.toks + 1)
  exact PySem.W.callWith_K (h₀ := X.base) I2.ok.mod.kin c.kp (thn (ha.run pos pins _ σ H1 _ I2 q) fun us s3 ⟨vs, H2, I3, rv, q2⟩ => ⟨I3.kIn, L2.run_fnS F hr hb (hx σ) I3 rv q2⟩) hst hpl
end
section
variable {X : Cx}
/-- xs == ys: data, or two lists of one and the same object -/
def rEqSame (K : PySem.W.Frag) : R2 := fun x y H Q => rEqD K x y H Q ∨ ∃ a b c : Addr, x = .ref a ∧ y = .ref b ∧ H a = some (.lst [.ref c]) ∧ H b = some (.lst [.ref c]) ∧ Q (.bl true) H
theorem op_eqSame (hu : X.A.units + 64 < cLine) : OpR X (compareOp .Eq) (rEqSame X.K) := by
  intro pins s σ H x y v u Q I rx ry h
  rcases h with h | ⟨a, b, c, rfl, rfl, ha, hb, q⟩
  · exact op_eqD hu pins s σ H x y v u Q I rx ry h
  · obtain rfl : v = Value.ref a := rx
    obtain rfl : u = Value.ref b := ry
    obtain ⟨i1, r1, p1, _⟩ := I.list (SqL.of ha)
    obtain ⟨i2, r2, p2, _⟩ := I.list (SqL.of hb)
    obtain ⟨u1, rfl, e1⟩ := vals1 r1
    obtain ⟨u2, rfl, e2⟩ := vals1 r2
    cases (show u1 = Value.ref c from e1)
    cases (show u2 = Value.ref c from e2)
    refine SeqAt.eq_listAt (e := fun _ => true) p1.isList p2.isList rfl (by omega) (fun j h1 h2 => ?_) ?_
    · have e : j = 0 := by
        have : j < 1 := h1
        omega
      subst e
      exact SeqAt.EqAt.same _
    · exact ⟨.bl true, H, I, rfl, q⟩
end
theorem eqDK {X : Cx} (K : PySem.W.Frag) (hu : X.A.units + 64 < cLine) (h : X.K = K := by rfl) : OpR X (compareOp .Eq) (rEqD K) := by
  subst h
  exact op_eqD hu
/-- a[lo:hi] of a list, the new list in an abstract heap -/
def rSlN (K : PySem.W.Frag) : V → Option Int → Option Int → Hp → VK → Prop := fun x lo hi H Q => ∃ a xs, x = .ref a ∧ SqL K H a xs ∧ ∀ (p : Addr) (H' : Hp), H p = none → Same H H' → H' p = some (.lst (cutV xs lo hi)) → Q (.ref p) H'
theorem sl_listN {X : Cx} : SlR X (rSlN X.K) := by
  intro pins s σ H x v vl vu lo hi sl Q I rx hs pl pu h
  obtain ⟨a, xs, ex, hx, q⟩ := h
  exact sl_list pins s σ H x v vl vu lo hi sl Q I rx hs pl pu ⟨a, xs, ex, hx, fun p hp => q p _ hp (same_new hp) upd_same⟩
theorem slK {X : Cx} (K : PySem.W.Frag) (h : X.K = K := by rfl) : SlR X (rSlN K) := by
  subst h
  exact sl_listN
theorem But.free {p q : Addr} {H H' : Hp} (B : But p H H') (h : H' q = none) (hq : q ≠ p) : H q = none := by
  cases e : H q with
  | none => rfl
  | some o =>
    have z := B q o e hq
    rw [h] at z
    cases z
end Tw
/-! Tw: 3 * x, x of an own class. -/
namespace Tw
open PySem PySem.Spec PyProof.Rows L2 He
theorem int_mul_inst (a : Int) (t : Tok) (y : Addr) (ox : Obj) (hd : ox.data = .plain) :
    Meets (Builtin.«int.__mul__» ⟨[.int a t, .ref y], []⟩) (fun _ R s => s.heap.get? y = some ox ∧ R (.ok (.ret Value.notImplemented)) s) :=
  .of_wp fun prog w A R s h => by
    obtain ⟨hp, g, d, tk, os⟩ := s
    obtain ⟨hl, h⟩ := h
    obtain ⟨oc, od, dt, sl⟩ := ox
    cases hd
    wp_walk
    exact ⟨_, rfl, h⟩
theorem int_mul_dec {prog : Program} {w : World} {A : Around} {E : Value → Shared → Prop} {s : Shared} {a : Int} {t : Tok} {y : Addr} {oy : Obj} {Q : Value → Shared → Prop} (J : s.heap.get? y = some oy) (hd : oy.data = .plain) (h : Q .notImplemented s) :
    wpAny (model prog w) A (call (.builtin "int.__mul__") [.int a t, .ref y]) Q E s := by
  refine call_meets (T := "int") (name := PySem.dunder "mul") (id := "int.__mul__") (self := .int a t) (rest := [.ref y]) F.slot_int_mul (typeIs_int s a t) F.entry_int_mul (F.args_int_mul_2 (.int a t) (.ref y)) (int_mul_inst a t y oy hd) ?_
  exact ⟨J, h⟩
theorem int_try {prog : Program} {w : World} {A : Around} {E : Value → Shared → Prop} {s : Shared} {a : Int} {t : Tok} {y : Addr} (nm : Str) (sl : Slot "int" nm "int.__mul__")
    (h0 : wpAny (model prog w) A (call (.builtin "int.__mul__") [.int a t, .ref y]) (fun v s' => v = .notImplemented ∧ (none : Option Value) = none ∧ s' = s) E s) :
    wpAny (model prog w) A (tryMethod (.int a t) nm (.ref y)) (fun r s' => r = none ∧ s' = s) E s := by
  exact wpAny_tryMethod_declines (T := "int") (id := "int.__mul__") (Q := fun r s' => r = none ∧ s' = s) (typeIs_int s a t) sl h0
open PySem.W in
theorem bin_reflI {prog : Program} {w : World} {A : Around} {E : Value → Shared → Prop} {s : Shared} {K : Frag} {y C f f0 : Addr} {oy : Obj} {od : Option Obj} {a : Int} {t : Tok} {ro : Option Value} {Q : Value → Shared → Prop}
    (Y : K.In s.heap) (J : InstAt s.heap y oy C od) (hd : oy.data = .plain) (c : OwnB K C (PySem.dunderR "mul") f) (hm0 : findIn K (.ref C) (PySem.dunder "mul") = some (some (.ref f0)))
    (h2 : findIn K (.type "int") (PySem.dunderR "mul") = some ro) (hsub : subIn K (.ref C) (.type "int") = some false)
    (h : wpAny (model prog w) A (call (.ref f) [.ref y, .int a t]) (PySem.W.CmpBack Q) E s) : wpAny (model prog w) A (binaryOp .Mult (.int a t) (.ref y)) Q E s := by
  obtain ⟨cd, rest, hcd, hm⟩ := ksp_first c.self1
  have one := ksp_try Y J c.at_ c.fn h
  have dec : wpAny (model prog w) A (tryMethod (.int a t) (PySem.dunder "mul") (.ref y)) (fun r s' => r = none ∧ s' = s) E s := int_try (PySem.dunder "mul") F.slot_int_mul (int_mul_dec J.1 hd ⟨rfl, rfl, rfl⟩)
  obtain ⟨hh, g, d, tt, os⟩ := s
  have L1 : Looks (model prog w) hh (typeOf (.ref y)) (.ref C) := J.type
  have L2 : Looks (model prog w) hh (typeOf (.int a t)) (.type "int") := Looks.of_pure rfl
  have L3 : Looks (model prog w) hh (fillsNumberSlot (.ref C) "mul") true := fills_K Y hcd hm hm0
  have L4 : Looks (model prog w) hh (fillsNumberSlot (.type "int") "mul") true := Looks.of_pure F.fills_int_mul
  have L5 : Looks (model prog w) hh (isSubtype (.ref C) (.type "int")) false := looks_subIn Y hsub
  have L7 : Looks (model prog w) hh (numberSlotInPython (.type "int") "mul") false := Looks.of_pure rfl
  have hne : (Value.type "int" == Value.ref C) = false := Bool.eq_false_iff.mpr fun q => by cases beq_iff_eq.mp q
  have hi : Operator.Mult.info = ("*", "mul") := rfl
  simp only [binaryOp, hi]
  refine wpAny_holding (wpAny_bind ?_)
  unfold binaryOp1
  refine wpAny_bind (L2.at (wpAny_bind (L1.at (wpAny_bind (L4.at ?_)))))
  simp only [hne, Bool.false_eq_true, if_false]
  ksp_lk
  refine wpAny_mono dec (fun r s' hr' => ?_) fun _ _ e => e
  obtain ⟨rfl, rfl⟩ := hr'
  ksp_lk
  refine wpAny_mono one (fun r s' hr' => ?_) fun _ _ e => e
  obtain ⟨v, rfl, hq⟩ := hr'
  ksp_lk
  exact hq

section
variable {X : Cx} {CX : CXT} {k : Nat} {f C : Addr} {fd : FuncData} {ps : List Str} {sp : Sp} {E : XK}
/-- 3 * x -/
def rBinRI (C : Addr) (sp : Sp) (E : XK) : R2 := fun x y H Q => ∃ (i : Int) (a dx : Addr) (fs : List (Str × V)), x = .int i ∧ y = .ref a ∧ H a = some (.ins C dx fs) ∧ sp [y, x] H Q E
theorem op_binRI {f0 : Addr} (c : OwnB X.K C (PySem.dunderR "mul") f) (c0 : OwnB X.K C (PySem.dunder "mul") f0) (t : BinT X.K C .Mult "int") (hsub : PySem.W.subIn X.K (.ref C) (.type "int") = some false)
    (F : FnOk X.prog X.w X.K X.mg X.base CX k f fd ps sp) (hr : Room k X.A) (hb : Binds X.K fd ps []) (hx : Passes CX X E) : OpR X (binaryOp .Mult) (rBinRI C sp E) := by
  intro pins s σ H x y v u Q I rx ry h
  obtain ⟨i, a, dx, fs, rfl, rfl, ea, q⟩ := h
  cases (show u = Value.ref a from ry)
  obtain ⟨tk, rfl⟩ := rx
  obtain ⟨ox, od, J, hd⟩ := StX.insC_at I (C := C) (.inr ⟨dx, fs, ea⟩)
  obtain ⟨ro, h2⟩ := t.r
  refine bin_reflI I.kIn J hd c c0.at_ h2 hsub ?_
  refine wpAny_mono (run_fn (dvs := []) (ds := []) (us := [.ref a, .int i tk]) (vs := [.ref a, .int i]) F hr hb .nil hx I (.cons rfl (.cons ⟨tk, rfl⟩ .nil)) q) (fun w s' z => ?_) fun _ _ x => x
  obtain ⟨z', H', I', rz, qz⟩ := z
  exact SlX.cmpback rz ⟨z', H', I', rz, qz⟩
end
end Tw
/-! Tw: lambdas: a try whose clause knows how many names there are; the head's hook with tables of code objects. -/
namespace Tw
open PySem PySem.Spec PyProof.Rows L2 He
/-- what the clause wishes: its error stands tracked behind the suite -/
def wAsL (K : PySem.W.Frag) (c : Value) (i : Nat) (ts : Addr → Value → Option Addr → TS) (Wout : WX) (n : Nat) (D : Ends) : WX := fun cls d σ H => σ.length = n →
  ∃ (C : Addr) (b : Bool), cls = .ref C ∧ PySem.W.exmOne K cls c = some b ∧ (b = true → ∀ a, H a = none → ts a cls d { nx := fun σ' H' => D.nx (σ'.set i none) (upd H' a (exT a C d)), rt := D.rt, bk := fun σ' H' => D.bk (σ'.set i none) H', ct := fun σ' H' => D.ct (σ'.set i none) H' } (σ.set i (some (.ref a))) H) ∧
    (b = false → Wout cls d σ H)
section
variable {X : Cx} {x n : Str} {c : Value} {i : Nat} {body suite : List Stmt} {b₀ : Stmt} {np pos pos' : Pos} {tb : WX → TS} {ts : Addr → Value → Option Addr → TS} {Wout : WX}
theorem ps_tryL (hex : X.ex = []) (hs : X.stack = X.env :: X.outer) (hf : X.env.frame = some X.env.locals) (hN : X.N.Nodup) (hi : X.N[i]? = some n) (hln : X.env.kindOf n = some .local) (hc : Names X x c) (tk : Takes X Wout)
    (hb : ∀ (W : WX) (pn : List (Addr × Obj)) (xe : Value → Shared → Prop), Takes (X.tr pn xe) W → PassesOwn (model X.prog X.w) X.A X.env xe → PSs (X.tr pn xe) body (tb W))
    (hsu : ∀ (a : Addr) (oe : Obj) (cls : Value) (d : Option Addr) (pn : List (Addr × Obj)), Zc cls d oe → (∃ vs, oe.data = .fields vs) → PSs (X.suite a ((a, oe) :: pn)) (b₀ :: suite) (ts a cls d)) :
    PS X (.Try body [.ExceptHandler (some (.Name x np)) (some n) (b₀ :: suite) pos'] [] [] pos) (fun D σ H => tb (wAsL X.K c i ts Wout X.N.length D) D σ H) := by
  refine ⟨fun pins s σ H D I h => ?_⟩
  have ok := I.ok
  have hfr : X.A.frames = some (X.env :: X.outer) := by rw [ok.frames, hs]
  have hloc : Loc X.env.scope n := .inl hln
  refine wpAny_Try_except ?_
  refine wpAny_mono ((hb (wAsL X.K c i ts Wout X.N.length D) (X.pn ++ pins) (fun e s₁ => wpAny (model X.prog X.w) X.A (noteFrame e X.env) (fun _ s₂ => wpAny (model X.prog X.w) X.A (setFlight e none) (fun _ s₃ =>
    wpAny (model X.prog X.w) X.A (handleBy e X.env [.ExceptHandler (some (.Name x np)) (some n) (b₀ :: suite) pos']) (SP X pins D) X.xe s₃) X.xe s₂) X.xe s₁) (fun u s' xx => ?_) PassesOwn.looking).run [] s σ H D (I.toTry _) h) (fun f s1 hsp => ?_) (fun e s1 he => he)
  · obtain ⟨a, B, sI, pins', σ', H', cls, d, rfl, J', nb, up, sky, na, os, ag, hw⟩ := xx
    obtain ⟨C, b, hcls, hb1, hyes, hno⟩ := hw J'.len
    have J : Inv X pins σ' H' sI := J'.ofTry ok
    have sky' : Sky B (X.env :: X.outer) a (Zc cls d) X.env.locals s'.heap := by rw [← hs]; exact sky
    show wpAny (model X.prog X.w) X.A (noteFrame (.ref a) X.env) _ _ _
    refine Sky.land Zc.steady hfr hf sky' fun h3 fl3 up3 => ?_
    have J3 : Inv X pins σ' H' { s' with heap := h3 } := J.landed nb fl3.1 (up.trans up3) os ag
    obtain ⟨oe3, vs3, he3, hz3, hd3⟩ := fl3.there
    have notFr : ∀ {h : Heap} {o : Obj} {vs : Array Value}, h.FunFrames B (X.env :: X.outer) → h.get? a = some o → o.data = .fields vs → a ∉ frs (X.env :: X.outer) := fun {h o vs} ff e dd hm => by
      obtain ⟨_, o', e', hnf⟩ := ff.mem hm
      rw [e] at e'
      cases e'
      exact hnf _ dd
    have nfr := notFr fl3.2.2.1 he3 hd3
    have nL : a ≠ X.env.locals := fun z => nfr (List.mem_filterMap.mpr ⟨X.env, List.mem_cons_self, by rw [hf, z]⟩)
    have nF : a ∉ X.fs := fun hm => by
      obtain ⟨e, he, q⟩ := List.mem_filterMap.mp hm
      exact nfr (List.mem_filterMap.mpr ⟨e, List.mem_cons_of_mem _ he, q⟩)
    -- the error is new to this def
    have nI : sI.heap.get? a = none := by
      cases e : sI.heap.get? a with
      | none => rfl
      | some o =>
        have z := nb a o e (by rw [hs]; exact nfr)
        have z2 : B.get? a = none := fl3.2.1
        rw [z2] at z
        cases z
    have n0 : X.s_0.heap.get? a = none := by
      cases e : X.s_0.heap.get? a with
      | none => rfl
      | some o =>
        obtain ⟨o', z⟩ := J.base.there a o e (by rw [hex]; exact fun z => nomatch z)
        rw [nI] at z
        cases z
    have npin : ∀ p ∈ X.pn ++ pins, p.1 ≠ a := fun p hp z => by
      obtain ⟨e, _⟩ := J.pin p hp
      rw [z, nI] at e
      cases e
    have S3 := J3.suite he3 hd3 na nL nF
    refine wpAny_handleBy_cons (codeAny_handlers_test ?_) (by intro q; cases q)
    have LT : PySem.W.Looks (model X.prog X.w) h3 (typeOf (.ref a)) cls := fun A Q E s k q => wpAny_typeOf_ref (k _ _ he3) (by rw [hz3.1]; exact q)
    have LM := PySem.W.exm_one (M := model X.prog X.w) (J3.kIn) LT hb1
    have test : ∀ {Q : Value → Shared → Prop} {E : Value → Shared → Prop}, Q c { s' with heap := h3 } → wpAny (model X.prog X.w) (X.A.mark (some (.ref a))) (eval (.Name x np) X.env) Q E { s' with heap := h3 } := fun {Q E} q => by
      obtain ⟨hg, hdbg, hm | ⟨hm, hv, hnn⟩⟩ := hc
      · exact ld_glob (X := X.suite a ((a, oe3) :: (X.pn ++ pins))) S3 hg hm q hdbg
      · exact ld_blt (X := X.suite a ((a, oe3) :: (X.pn ++ pins))) S3 hg hm hv q hnn hdbg
    refine test (LM.here ?_)
    cases b with
    | true =>
      refine codeAny_handlers_suite_as ?_
      refine HandSPX.lands_againZ fl3 fun h4 fl4 up4 => ?_
      have J4 : Inv X pins σ' H' { s' with heap := h4 } := J.landed nb fl4.1 ((up.trans up3).trans up4) os ag
      obtain ⟨oe4, vs4, he4, hz4, hd4⟩ := fl4.there
      have S4 := J4.suite he4 hd4 na nL nF
      refine store_ok (X := X.suite a ((a, oe4) :: (X.pn ++ pins))) (v := .ref a) S4 hN hi hloc rfl (fun s5 S5 => ?_) (.inr hln)
      refine wpAny_mono ((hsu a oe4 cls d (X.pn ++ pins) hz4 ⟨_, hd4⟩).run [] s5 _ H' _ S5 (hyes rfl a na)) (fun f s6 hsp => ?_) (fun _ _ z => False.elim z)
      have end_ : ∀ {σ6 : L2.St} {H6 : Hp} {Q : Shared → Prop}, Inv (X.suite a ((a, oe4) :: (X.pn ++ pins))) [] σ6 H6 s6 → (∀ s7, Inv X ((a, oe4) :: pins) (σ6.set i none) H6 s7 → Q s7) →
          wpAny (model X.prog X.w) X.A (do bindName X.env n .none; unbindBehindTheSuite X.env n pos') (fun _ s7 => Q s7) X.xe s6 := fun {σ6 H6 Q} S6 hq => by
        have J6 : Inv X ((a, oe4) :: pins) σ6 H6 s6 := (S6.unsuite ok).pins_of fun p hp => S6.pin p (List.mem_append_left _ (by
          rcases List.mem_cons.mp hp with z | z
          · exact List.mem_cons.mpr (.inl z)
          · exact List.mem_cons_of_mem _ (List.mem_append_right _ z)))
        exact gone_ok J6 hN hi hln hq
      have drop : ∀ {σ7 : L2.St} {H7 : Hp} {s7 : Shared}, Inv X ((a, oe4) :: pins) σ7 H7 s7 → Inv X pins σ7 H7 s7 := fun J7 => J7.pins_of fun p hp => J7.pin p (List.mem_append_right _ (List.mem_cons_of_mem _ hp))
      subst hcls
      cases f with
      | next =>
        obtain ⟨σ6, H6, S6, q6⟩ := hsp
        exact end_ S6 fun s7 J7 => ⟨_, _, track J7 n0 npin hz4 hd4, q6⟩
      | brk =>
        obtain ⟨σ6, H6, S6, q6⟩ := hsp
        exact end_ S6 fun s7 J7 => ⟨_, _, drop J7, q6⟩
      | cont =>
        obtain ⟨σ6, H6, S6, q6⟩ := hsp
        exact end_ S6 fun s7 J7 => ⟨_, _, drop J7, q6⟩
      | ret u =>
        obtain ⟨v6, σ6, H6, S6, r6, q6⟩ := hsp
        exact end_ S6 fun s7 J7 => ⟨_, _, _, drop J7, r6, q6⟩
    | false =>
      show wpAny _ X.A (handleBy (.ref a) X.env []) _ _ _
      refine wpAny_handleBy_nil ?_
      obtain ⟨k1, k2, k3, oe, vs, T, oT, ts', he, hz, hd, h1, hr⟩ := id fl3
      unfold PySem.passOn
      refine wpAny_bind (wpAny_field he hd h1 ?_)
      rw [if_neg (show ¬ ((Value.ref T == Value.none) = true) from by simp)]
      have fin : wpAny (model X.prog X.w) X.A (setFlight (.ref a) X.env.frame) (fun _ s4 => wpAny (model X.prog X.w) X.A (throw (.ref a) : Sem Flow) (SP X pins D) X.xe s4) X.xe { s' with heap := h3 } := by
        rw [hf]
        refine HandSPX.setFlight_upZ fl3 fun h4 hh4 up4 => wpAny_throw (tk _ _ ?_)
        exact ⟨a, B, sI, pins, σ', H', cls, d, rfl, J, nb, (up.trans up3).trans up4, .inr (.inr (by rw [hs]; exact hh4)), na, os, ag, hno rfl⟩
      first
        | exact wpAny_bind (wpAny_pure (wpAny_bind fin))
        | exact wpAny_bind fin
  · cases f with
    | next =>
      obtain ⟨σ', H', J', q⟩ := hsp
      exact wpAny_execs_nil ⟨σ', H', J'.ofTry ok, q⟩
    | brk =>
      obtain ⟨σ', H', J', q⟩ := hsp
      exact ⟨σ', H', J'.ofTry ok, q⟩
    | cont =>
      obtain ⟨σ', H', J', q⟩ := hsp
      exact ⟨σ', H', J'.ofTry ok, q⟩
    | ret u =>
      obtain ⟨v, σ', H', J', r, q⟩ := hsp
      exact ⟨v, σ', H', J'.ofTry ok, r, q⟩
end

/-! ### the hook with empty tables of code objects -/
def codeAt (K : Fg) (f : Addr) : Addr := match K.lookup f with
  | some ⟨_, _, .func fd, _⟩ => (match fd.code with
    | .ref c => c
    | _ => 0)
  | _ => 0
def tabAt (K : Fg) (f : Addr) : Addr := match K.lookup (codeAt K f) with
  | some ⟨_, _, .fields vs, _⟩ => (match (vs[11]? : Option Value) with
    | some (.ref P) => P
    | _ => 0)
  | _ => 0
def isTab : Option Obj → Bool
  | some ⟨.none, none, .fields vs, sl⟩ => vs.isEmpty && sl.isEmpty
  | _ => false
theorem isTab_ok {o : Option Obj} (h : isTab o = true) : o = some { cls := .none, data := .fields #[] } := by
  unfold isTab at h
  split at h
  · rename_i vs sl
    obtain ⟨h1, h2⟩ := ba h
    have e1 : vs = #[] := by simpa using h1
    have e2 : sl = #[] := by simpa using h2
    rw [e1, e2]
  · cases h
/-- the def at f: its code object and the table of it -/
def tabB (K : Fg) (f : Addr) : Bool := PySem.W.codeHdIn K (codeAt K f) (tabAt K f) && (K.lookup (tabAt K f)).isNone
abbrev AlL : Type := AlD × List Bool
def obsL (n : Nat) (fs : Fz) (fn : List DefD) (ls : List (Fg → Addr)) (g : Addr → Option Obj) : AlL := (obsYG n fs fn g, ls.map fun f => isTab (g (tabAt (frG g (asD g n)) (f (frG g (asD g n))))))
def hookL (n : Nat) (fs : Fz) (fn : List DefD) (ls : List (Fg → Addr)) : PySem.W.Hook where
  α := AlL
  obs := fun s => obsL n fs fn ls s.heap.get?
  val := fun _ => (valD fn, ls.map fun _ => true)
  says := fun _ h => ∃ K : Fg, K.In h ∧ SaysY fs fn K ∧ ∀ f ∈ ls, isTab (h.get? (tabAt K (f K))) = true
  of := fun _ s e => ⟨_, frG_in, congrArg (fun z : AlL => z.1) e, fun f hf => List.map_inj_left.mp (congrArg (fun z : AlL => z.2) e) f hf⟩
  keeps := fun _ _ _ ⟨K, hK, c, t⟩ k => ⟨K, PySem.W.Frag.In.keeps hK k, c, fun f hf => by
    have e := isTab_ok (t f hf)
    rw [k _ _ e]
    rfl⟩
theorem obsL_eq {n : Nat} {fs : Fz} {fn : List DefD} {ls : List (Fg → Addr)} {g : Addr → Option Obj} {s : Shared} (h : ∀ a, g a = s.heap.get? a) : obsL n fs fn ls g = (hookL n fs fn ls).obs s := by
  have e : g = s.heap.get? := funext h
  rw [e] <;> rfl

/-! ### x[i] = v by an own __setitem__ -/
section
variable {X : Cx} {CX : CXT} {k : Nat} {f C : Addr} {fd : FuncData} {ps : List Str} {sp : Sp} {E : XK}
def setOwn (C : Addr) (sp : Sp) (E : XK) : V → V → V → Hp → (Hp → Prop) → Prop := fun o i v H Q => ∃ (a dx : Addr) (fs : List (Str × V)), o = .ref a ∧ H a = some (.ins C dx fs) ∧ sp [o, i, v] H (fun _ H' => Q H') E
theorem pset_own (hq : PySem.W.noSeq X.K C = true) (hs : PySem.W.findIn X.K (.ref C) "__setitem__" = some (some (.ref f))) (hf : PySem.W.isFn X.K (.ref f) = true) (F : FnOk X.prog X.w X.K X.mg X.base CX k f fd ps sp) (hr : Room k X.A) (hb : Binds X.K fd ps []) (hx : Passes CX X E) : PSet X (setOwn C sp E) := by
  intro pins s σ H o i v ov iv u Q I ro ri rv h
  obtain ⟨a, dx, fs, rfl, ea, q⟩ := h
  cases (show ov = Value.ref a from ro)
  obtain ⟨od, ox, J⟩ := inst_at I ea
  obtain ⟨m, fr⟩ := I.fr
  refine PySem.W.ksp_setItem fr I.ok.mod.kin J hq hs hf ?_
  refine wpAny_mono (run_fn (dvs := []) (ds := []) (us := [.ref a, iv, u]) (vs := [.ref a, i, v]) F hr hb .nil hx I (.cons rfl (.cons ri (.cons rv .nil))) q) (fun w s' z => ?_) fun _ _ x => x
  obtain ⟨z', H', I', rz, qz⟩ := z
  exact ⟨H', I', qz⟩
end
end Tw
/-! Tw: the head's hook with defs at any address (methods behind staticmethod, classmethod, property). -/
namespace Tw
open PySem PySem.Spec PyProof.Rows L2 He
abbrev DefA := He5.DefA
abbrev AlA : Type := (Bool × List FnW) × List (Option (List (Option (Str × Int))))
def obsA (fs : Fz) (fn : List DefA) (ts : List Tab) (K : Fg) : AlA := (((fs.all fun f => f K) && fn.all fun d => d.ok K, fn.map fun d => He5.fnA K (d.at_ K)), ts.map fun t => dicW K (t.1 K))
def valA (fn : List DefA) (ts : List Tab) (w : World) : AlA := ((true, fn.map He5.DefA.val), ts.map fun t => some (keysIn w.params t.2))
def obsAG (n : Nat) (fs : Fz) (fn : List DefA) (ts : List Tab) (g : Addr → Option Obj) : AlA := obsA fs fn ts (frG g (asD g n ++ [cStatics]))
def SaysA (fs : Fz) (fn : List DefA) (ts : List Tab) (w : World) (K : Fg) : Prop := obsA fs fn ts K = valA fn ts w
def hookA (n : Nat) (fs : Fz) (fn : List DefA) (ts : List Tab) : PySem.W.Hook where
  α := AlA
  obs := fun s => obsAG n fs fn ts s.heap.get?
  val := fun w => valA fn ts w
  says := fun w h => ∃ K : Fg, K.In h ∧ SaysA fs fn ts w K
  of := fun _ _ e => ⟨_, frG_in, e⟩
  keeps := fun _ _ _ ⟨K, hK, c⟩ k => ⟨K, PySem.W.Frag.In.keeps hK k, c⟩
theorem obsAG_eq {n : Nat} {fs : Fz} {fn : List DefA} {ts : List Tab} {g : Addr → Option Obj} {s : Shared} (h : ∀ a, g a = s.heap.get? a) : obsAG n fs fn ts g = (hookA n fs fn ts).obs s := by
  have e : g = s.heap.get? := funext h
  rw [e] <;> rfl
abbrev DefsA (fn : List DefA) (K : Fg) (fd : Nat → FuncData) : Prop := ∀ (i : Nat) (d : DefA), fn[i]? = some d → FunD K d.name d.qual d.params d.body d.scope (d.dvs K) (d.kws K) (d.at_ K) (fd i)
section
variable {fs : Fz} {fn : List DefA} {ts : List Tab} {w : World} {K : Fg}
theorem SaysA.fact (c : SaysA fs fn ts w K) (i : Nat) {f : Fg → Bool} (h : fs[i]? = some f) : f K = true := by
  have c1 := (ba (show ((fs.all fun f => f K) && fn.all fun d => d.ok K) = true from congrArg (fun z : AlA => z.1.1) c)).1
  exact List.all_eq_true.mp c1 f (List.mem_of_getElem? h)
theorem SaysA.def_ (c : SaysA fs fn ts w K) (i : Nat) {d : DefA} (h : fn[i]? = some d) : ∃ fd, FunD K d.name d.qual d.params d.body d.scope (d.dvs K) (d.kws K) (d.at_ K) fd := by
  have c2 := (ba (show ((fs.all fun f => f K) && fn.all fun d => d.ok K) = true from congrArg (fun z : AlA => z.1.1) c)).2
  have e : fn.map (fun d => He5.fnA K (d.at_ K)) = fn.map He5.DefA.val := congrArg (fun z : AlA => z.1.2) c
  have e2 : (fn.map fun d => He5.fnA K (d.at_ K))[i]? = (fn.map He5.DefA.val)[i]? := by rw [e]
  rw [List.getElem?_map, List.getElem?_map, h] at e2
  exact He5.DefA.funD (Option.some.inj e2) (List.all_eq_true.mp c2 d (List.mem_of_getElem? h))
theorem SaysA.tab (c : SaysA fs fn ts w K) (i : Nat) {t : Tab} (h : ts[i]? = some t) : ∃ es n, KDict K w (t.1 K) es n := by
  have e : ts.map (fun t => dicW K (t.1 K)) = ts.map fun t => some (keysIn w.params t.2) := congrArg (fun z : AlA => z.2) c
  have e2 : (ts.map fun t => dicW K (t.1 K))[i]? = (ts.map fun t => some (keysIn w.params t.2))[i]? := by rw [e]
  rw [List.getElem?_map, List.getElem?_map, h] at e2
  exact dicW_ok (Option.some.inj e2)
theorem SaysA.defs (c : SaysA fs fn ts w K) {d0 : DefA} (h0 : fn[0]? = some d0) : ∃ fd : Nat → FuncData, DefsA fn K fd := by
  obtain ⟨u0, _⟩ := c.def_ 0 h0
  have h : ∀ i : Nat, ∃ u : FuncData, ∀ d : DefA, fn[i]? = some d → FunD K d.name d.qual d.params d.body d.scope (d.dvs K) (d.kws K) (d.at_ K) u := fun i => by
    cases e : fn[i]? with
    | none => exact ⟨u0, fun d z => nomatch z⟩
    | some d =>
      obtain ⟨u, hu⟩ := c.def_ i e
      exact ⟨u, fun d' z => by
        cases z
        exact hu⟩
  exact ⟨fun i => Classical.choose (h i), fun i d e => Classical.choose_spec (h i) d e⟩
end
/-- what the walk asks of the written part and of the module's names -/
structure TxtA (fs : Fz) (fn : List DefA) (ts : List Tab) (w : World) (K : Fg) (mg : Str → Option Value) : Prop where
  c : SaysA fs fn ts w K
  gl : ∀ x, (Fa.glo x).ok K = true → mg x = some (.ref (ga K x))
  fr : ∀ x, (Fa.free x).ok K = true → mg x = none
  nt : ∀ x i, (Fa.int x i).ok K = true → ∃ t, mg x = some (.int i t)
  tx : ∀ x z, (Fa.str x z).ok K = true → ∃ t, mg x = some (.str z t)
theorem TxtA.fact {fs : Fz} {fn : List DefA} {ts : List Tab} {w : World} {K : Fg} {mg : Str → Option Value} (T : TxtA fs fn ts w K mg) (i : Nat) {f : Fg → Bool} (h : fs[i]? = some f := by rfl) : f K = true := T.c.fact i h
end Tw
/-! Tw: the head's hook for laws with lambdas: defs at any address, the tables of code objects left out of the fragment and told empty. -/
namespace Tw
open PySem PySem.Spec PyProof.Rows L2 He
def obsZ (fs : Fz) (fn : List DefA) (K : Fg) : AlD := ((fs.all fun f => f K) && fn.all fun d => d.ok K, fn.map fun d => He5.fnA K (d.at_ K))
def valZ (fn : List DefA) : AlD := (true, fn.map He5.DefA.val)
def SaysZ (fs : Fz) (fn : List DefA) (K : Fg) : Prop := obsZ fs fn K = valZ fn
section
variable {fs : Fz} {fn : List DefA} {K : Fg}
theorem SaysZ.fact (c : SaysZ fs fn K) (i : Nat) {f : Fg → Bool} (h : fs[i]? = some f := by rfl) : f K = true := by
  obtain ⟨c1, _⟩ := ba (congrArg (fun z : AlD => z.1) (show obsZ fs fn K = valZ fn from c))
  exact of_all (f := fun f : Fg → Bool => f K) c1 (List.mem_of_getElem? h)
theorem SaysZ.def_ (c : SaysZ fs fn K) (i : Nat) {d : DefA} (h : fn[i]? = some d) : ∃ fd, FunD K d.name d.qual d.params d.body d.scope (d.dvs K) (d.kws K) (d.at_ K) fd := by
  obtain ⟨_, c2⟩ := ba (congrArg (fun z : AlD => z.1) (show obsZ fs fn K = valZ fn from c))
  have e2 : fn.map (fun d => He5.fnA K (d.at_ K)) = fn.map He5.DefA.val := congrArg (fun z : AlD => z.2) c
  have e3 := congrArg (fun l : List FnW => l[i]?) e2
  simp only [List.getElem?_map, h, Option.map_some] at e3
  exact He5.DefA.funD (Option.some.inj e3) (of_all (f := fun d : DefA => d.ok K) c2 (List.mem_of_getElem? h))
theorem SaysZ.defs (c : SaysZ fs fn K) {d0 : DefA} (h0 : fn[0]? = some d0) : ∃ fd : Nat → FuncData, DefsA fn K fd := by
  obtain ⟨u0, _⟩ := c.def_ 0 h0
  have h : ∀ i : Nat, ∃ u : FuncData, ∀ d : DefA, fn[i]? = some d → FunD K d.name d.qual d.params d.body d.scope (d.dvs K) (d.kws K) (d.at_ K) u := fun i => by
    by_cases hi : ∃ d, fn[i]? = some d
    · obtain ⟨d, hd⟩ := hi
      obtain ⟨u, hu⟩ := c.def_ i hd
      refine ⟨u, fun d' z => ?_⟩
      rw [hd] at z
      rw [← Option.some.inj z]
      exact hu
    · exact ⟨u0, fun d z => absurd ⟨d, z⟩ hi⟩
  obtain ⟨fd, hf⟩ := Classical.axiomOfChoice h
  exact ⟨fd, fun i d e => hf i d e⟩
end
/-- the written part without the tables of these defs -/
def frZ (n : Nat) (ls : List (Fg → Addr)) (g : Addr → Option Obj) : Fg := frG g ((asD g n ++ [cStatics]).filter fun a => !((ls.map fun f => tabAt (frG g (asD g n)) (f (frG g (asD g n)))).contains a))
def obsZG (n : Nat) (fs : Fz) (fn : List DefA) (ls : List (Fg → Addr)) (g : Addr → Option Obj) : AlL := (obsZ fs fn (frZ n ls g), ls.map fun f => isTab (g (tabAt (frZ n ls g) (f (frZ n ls g)))))
def hookZ (n : Nat) (fs : Fz) (fn : List DefA) (ls : List (Fg → Addr)) : PySem.W.Hook where
  α := AlL
  obs := fun s => obsZG n fs fn ls s.heap.get?
  val := fun _ => (valZ fn, ls.map fun _ => true)
  says := fun _ h => ∃ K : Fg, K.In h ∧ SaysZ fs fn K ∧ ∀ f ∈ ls, isTab (h.get? (tabAt K (f K))) = true
  of := fun _ s e => by
    have e2 : (ls.map fun f => isTab (s.heap.get? (tabAt (frZ n ls s.heap.get?) (f (frZ n ls s.heap.get?))))) = ls.map fun _ => true := congrArg (fun z : AlL => z.2) e
    exact ⟨_, frG_in, congrArg (fun z : AlL => z.1) e, fun f hf => List.map_inj_left.mp e2 f hf⟩
  keeps := fun _ _ _ ⟨K, hK, c, t⟩ k => ⟨K, PySem.W.Frag.In.keeps hK k, c, fun f hf => by
    rw [k _ _ (isTab_ok (t f hf))]
    rfl⟩
theorem obsZG_eq {n : Nat} {fs : Fz} {fn : List DefA} {ls : List (Fg → Addr)} {g : Addr → Option Obj} {s : Shared} (h : ∀ a, g a = s.heap.get? a) : obsZG n fs fn ls g = (hookZ n fs fn ls).obs s := by
  rw [show g = s.heap.get? from funext h]
  rfl
/-- what the walk asks of the written part and of the module's names -/
structure TxtZ (fs : Fz) (fn : List DefA) (K : Fg) (mg : Str → Option Value) : Prop where
  c : SaysZ fs fn K
  gl : ∀ x, (Fa.glo x).ok K = true → mg x = some (.ref (ga K x))
  fr : ∀ x, (Fa.free x).ok K = true → mg x = none
  nt : ∀ x i, (Fa.int x i).ok K = true → ∃ t, mg x = some (.int i t)
  tx : ∀ x z, (Fa.str x z).ok K = true → ∃ t, mg x = some (.str z t)
theorem txtZ {fs : Fz} {fn : List DefA} {K : Fg} {h : Heap} {mg : Str → Option Value} (X : K.In h) (G : h.Ns mainGlobals mg) (c : SaysZ fs fn K) : TxtZ fs fn K mg :=
  ⟨c, fun x hx => He.glo_ok X G hx, fun x hx => He.free_ok X G hx, fun x i hx => He.int_ok X G hx, fun x z hx => He.str_ok X G hx⟩
theorem TxtZ.fact {fs : Fz} {fn : List DefA} {K : Fg} {mg : Str → Option Value} (T : TxtZ fs fn K mg) (i : Nat) {f : Fg → Bool} (h : fs[i]? = some f := by rfl) : f K = true := T.c.fact i h
/-- the code objects and tables of the defs that make lambdas -/
def csZ (ls : List (Fg → Addr)) (K : Fg) : List (Addr × Addr) := ls.map fun f => (Tw.codeAt K (f K), tabAt K (f K))
end Tw
/-! Tw: a lambda as a value (tracked), and sorted(xs, key=lambda x: x.field). -/
namespace Tw
open PySem PySem.Spec PyProof.Rows L2 He LamX
/-- the function object of a lambda stands at f -/
def FunO (f : Addr) (q : Str) (ps : Arguments) (e : Expr) (sc : Scope) (cl : List (Str × Addr)) (c' : Addr) : HO := .ext fun h => ∃ pm ctv : Value, h.get? f = some (PySem.W.kla_obj "<lambda>" q ps e sc cl pm c' ctv)
theorem funO_ne {f c' : Addr} {q : Str} {ps : Arguments} {e : Expr} {sc : Scope} {cl : List (Str × Addr)} (xs : Array Value) : FunO f q ps e sc cl c' ≠ .tbl xs := fun z => by
  unfold FunO at z
  cases z
section
variable {X : Cx} {pins : List (Addr × Obj)} {σ : L2.St} {H : Hp} {s : Shared}
theorem funO_laid {h' : Heap} {tk : Nat} {q : Str} {ps : Arguments} {e : Expr} {sc : Scope} {cl : List (Str × Addr)} {pm ctv : Value} {c' : Addr} (I : Inv X pins σ H s) (k : ∀ b o, s.heap.get? b = some o → h'.get? b = some o) (hp : s.heap.objs.size ≤ h'.objs.size) :
    Inv X pins σ (upd H h'.objs.size (FunO h'.objs.size q ps e sc cl c')) { s with heap := h'.push (PySem.W.kla_obj "<lambda>" q ps e sc cl pm c' ctv), toks := tk } := by
  have hz : (h'.push (PySem.W.kla_obj "<lambda>" q ps e sc cl pm c' ctv)).get? h'.objs.size = some (PySem.W.kla_obj "<lambda>" q ps e sc cl pm c' ctv) := Heap.get?_push_size _ rfl
  refine I.laid (fun b o z => Heap.get?_push_of_some _ (k b o z)) hp ?_
  exact ⟨⟨pm, ctv, hz⟩, ⟨_, hz⟩, fun h1 h2 ⟨pm, ctv, z⟩ st => ⟨pm, ctv, st _ z⟩⟩
/-- a lambda is made: its function object tracked -/
theorem lam_laid {T : List (Addr × Str)} {c P : Addr} {ps : Arguments} {e : Expr} {sc : Scope} {pos : Pos} {E : Value → Shared → Prop} {Q : Value → Shared → Prop} (I : Inv X pins σ H s) (TB : TabB X.base X.mg c P) (hcode : X.env.code = .ref c)
    (hm : (P, X.env.qual ++ "<lambda>") ∈ T) (hu : ∀ p ∈ T, p.1 = P → p.2 = X.env.qual ++ "<lambda>") (hT : Tabs T H) (hdef : defaultsOf ps X.env = ([], [])) (hfree : ∀ y ∈ sc.names, y.2 = .free → ∃ c, X.env.cells.lookup y.1 = some c)
    (h : ∀ (f c' : Addr) (H1 : Hp) (s' : Shared), Inv X pins σ H1 s' → ExtN H H1 → Tabs T H1 → H f = none → H1 f = some (FunO f (X.env.qual ++ "<lambda>") ps e sc (cloFrom X.env.cells sc.names []) c') → H1 c' = some (CodeO c' (X.env.qual ++ "<lambda>")) → Q (.ref f) s') :
    wpAny (model X.prog X.w) X.A (eval (.Lambda ps e sc pos) X.env) Q E s := by
  obtain ⟨tb, hP, ht, ha⟩ := hT _ hm
  have bP : s.heap.BuiltinsAt X.mg P := TB.bm.keeps I.bk
  have hP' := I.hok P _ hP
  have gl : s.heap.Ns mainGlobals X.mg := I.mod.glob.keeps I.bk
  have fin : ∀ {f c' : Addr} {H1 : Hp} {o : HO}, H1 f = none → ExtN H H1 → Tabs T H1 → ExtN H (upd H1 f o) ∧ Tabs T (upd H1 f o) := fun {f c' H1 o} n e t =>
    ⟨e.trans (ExtN.of (same_new n)), t.ext (same_new n)⟩
  refine PySem.W.kla_eval hdef ?_
  cases hc : codeAmong pos tb.toList with
  | none =>
    refine PySem.W.kla_makeFunction (c := c) (P := P) (ps := tb) (closure_ok hfree) I.ok.glob
      gl hcode (TB.code.keeps I.bk) hP' ht hc TB.gP bP fun c' ctv h' tk hx hge hlt hrec htb => ?_
    obtain ⟨c2, oc, vs, t, e2, hoc, hd, hv⟩ := hrec
    cases e2
    have nC : H c' = none := I.hok.fresh hge
    have nP : P ≠ c' := ne_of_none hP nC
    have I1 := inv_table (t' := tk) (more := #[rawInt pos.line, rawInt pos.col, .ref c']) I hP hx htb hge
      ⟨oc, vs, t, hoc, hd, hv⟩
    generalize hH1 : upd (upd H P (.tbl (tb ++ #[rawInt pos.line, rawInt pos.col, .ref c']))) c' (CodeO c' (X.env.qual ++ "<lambda>")) = H1 at I1
    have hE : ExtN H H1 := fun b o z n => by
      have n1 : b ≠ P := fun y => n tb (Option.some.inj (z.symm.trans (by rw [y]; exact hP)))
      rw [← hH1, upd_ne (ne_of_none z nC), upd_ne n1]
      exact z
    have atC : H1 c' = some (CodeO c' (X.env.qual ++ "<lambda>")) := by rw [← hH1, upd_same]
    have atP : H1 P = some (.tbl (tb ++ #[rawInt pos.line, rawInt pos.col, .ref c'])) := by rw [← hH1, upd_ne nP, upd_same]
    have eL : (tb ++ #[rawInt pos.line, rawInt pos.col, .ref c']).toList = tb.toList ++ [rawInt pos.line, rawInt pos.col, .ref c'] := by simp
    have T1 : Tabs T H1 := fun p hp => by
      by_cases hb : p.1 = P
      · rw [hu p hp hb, hb]
        refine ⟨_, atP, by rw [eL]; exact PySem.TriplesOk_snoc _ _ _ _ ht, fun p' cv z => ?_⟩
        rw [eL] at z
        rcases among_app _ ht z with y | y
        · obtain ⟨c0, z1, z2⟩ := ha p' cv y
          exact ⟨c0, z1, hE _ _ z2 codeO_ne⟩
        · exact ⟨c', y, atC⟩
      · obtain ⟨tb', a1, a2, a3⟩ := hT p hp
        refine ⟨tb', ?_, a2, fun p' cv z => ?_⟩
        · rw [← hH1, upd_ne (ne_of_none a1 nC), upd_ne hb]
          exact a1
        · obtain ⟨c0, z1, z2⟩ := a3 p' cv z
          exact ⟨c0, z1, hE _ _ z2 codeO_ne⟩
    have nf : H1 h'.objs.size = none := I1.hok.fresh (Nat.le_refl _)
    obtain ⟨f1, f2⟩ := fin (c' := c') (o := FunO h'.objs.size (X.env.qual ++ "<lambda>") ps e sc (cloFrom X.env.cells sc.names []) c') nf hE T1
    refine h h'.objs.size c' _ _ (funO_laid (s := { s with heap := h', toks := tk }) (tk := tk) I1 (fun _ _ z => z) (Nat.le_refl _)) f1 f2 (I.hok.fresh (Nat.le_trans hge (Nat.le_of_lt hlt))) upd_same ?_
    rw [upd_ne (Nat.ne_of_lt hlt)]
    exact atC
  | some cv =>
    obtain ⟨c', e', hco⟩ := ha pos cv hc
    subst e'
    refine PySem.W.kla_makeFunctionHit (c := c) (P := P) (ps := tb) (closure_ok hfree) I.ok.glob
      gl hcode (TB.code.keeps I.bk) hP' ht hc bP fun ctv h' tk hx hsz => ?_
    have nf : H h'.objs.size = none := I.hok.fresh hsz
    obtain ⟨f1, f2⟩ := fin (c' := c') (o := FunO h'.objs.size (X.env.qual ++ "<lambda>") ps e sc (cloFrom X.env.cells sc.names []) c') nf (ExtN.refl H) hT
    refine h h'.objs.size c' _ _ (funO_laid I hx hsz) f1 f2 nf upd_same ?_
    rw [upd_ne (ne_of_none hco nf)]
    exact hco
/-- what is said of a lambda made -/
def tLamV (T : List (Addr × Str)) (q : Str) (ps : Arguments) (e : Expr) (sc : Scope) (cl : List (Str × Addr)) : TE := fun _ H Q => Tabs T H ∧ ∀ (f c' : Addr) (H1 : Hp), ExtN H H1 → Tabs T H1 → H f = none → H1 f = some (FunO f q ps e sc cl c') → H1 c' = some (CodeO c' q) → Q (.ref f) H1
theorem pe_lambda {T : List (Addr × Str)} {c P : Addr} {ps : Arguments} {e : Expr} {sc : Scope} {pos : Pos} (TB : TabB X.base X.mg c P) (hcode : X.env.code = .ref c)
    (hm : (P, X.env.qual ++ "<lambda>") ∈ T) (hu : ∀ p ∈ T, p.1 = P → p.2 = X.env.qual ++ "<lambda>") (hdef : defaultsOf ps X.env = ([], [])) (hfree : ∀ y ∈ sc.names, y.2 = .free → X.env.scope.names.lookup y.1 = some .cell ∨ X.env.scope.names.lookup y.1 = some .free) :
    PE X (.Lambda ps e sc pos) (tLamV T (X.env.qual ++ "<lambda>") ps e sc (cloFrom X.env.cells sc.names [])) := by
  refine ⟨fun pins s σ H Q I h => ?_⟩
  obtain ⟨hT, h⟩ := h
  refine lam_laid I TB hcode hm hu hT hdef (fun y hy z => (hfree y hy z).elim (fun k => I.ok.has _ (.inl k)) fun k => I.ok.has _ (.inr k)) fun f c' H1 s' I1 e1 t1 n1 f1 c1 => ?_
  exact ⟨.ref f, H1, I1, rfl, h f c' H1 e1 t1 n1 f1 c1⟩
/-- a lambda's parameter and its body: x.fld -/
structure KeyL (sc : Scope) (x : Str) : Prop where
  kind : sc.kind = .function
  co : sc.isCoroutine = false
  gen : sc.isGenerator = false
  own : ∀ y ∈ sc.names, y.2 ≠ .cell
  loc : sc.names.lookup x = some .local
  clo : cloFrom [] sc.names [] = []
theorem key_call {f c' a C dx : Addr} {q x fld : Str} {ps : Arguments} {sc : Scope} {p1 p2 : Pos} {fs : List (Str × V)} {k : Int} {A : Around} (I : Inv X pins σ H s) (hf : H f = some (FunO f q ps (.Attribute (.Name x p1) fld p2) sc [] c')) (hc : H c' = some (CodeO c' q)) (L : KeyL sc x) (hd : A.depth < recursionLimit)
    (hbind : ∀ pm cv ctv u, bindArgs (PySem.W.kla_fn "<lambda>" q ps (.Attribute (.Name x p1) fld p2) sc [] pm cv ctv) ⟨[u], []⟩ = pure [(x, u)]) (hb : ∀ env : Env, attributeBase (.Name x p1) fld env (eval (.Name x p1) env) = eval (.Name x p1) env) (hx : (x == ("__debug__" : Str)) = false)
    (ha : H a = some (.ins C dx fs)) (cl : Cls X.K C) (na : NoAttr X.K C fld) (lk : fs.lookup fld = some (.int k)) (h : Heap) (tk : Nat) (up : ∀ b o, s.heap.get? b = some o → h.get? b = some o) :
    wpAny (model X.prog X.w) A (call (.ref f) [.ref a]) (PySem.W.KeyPure (.int k) { s with heap := h, toks := tk }) (fun _ _ => False) { s with heap := h, toks := tk } := by
  obtain ⟨⟨pm, ctv, hfo⟩, _, _⟩ := I.hok f _ hf
  obtain ⟨⟨oc, vs, t, hoc, hdc, hvc⟩, _, _⟩ := I.hok c' _ hc
  obtain ⟨mA, O, r, _, _, _⟩ := ins_get I.hok ha
  obtain ⟨u, hu, ru⟩ := RelO.some_of (v := .int k) (o := mA fld) (by rw [← lk]; exact r fld)
  obtain ⟨tu, rfl⟩ := ru
  refine wpAny_call (codeAny_mono (R := fun r s' => ∃ v, r = .ok (.ret v) ∧ PySem.W.KeyPure (.int k) { s with heap := h, toks := tk } v s') ?_ fun r s' hq => ?_)
  · refine PySem.W.kla_callFunE hd (up _ _ hfo) rfl L.co L.gen rfl ⟨c', oc, vs, t, rfl, up _ _ hoc, hdc, hvc⟩ ?_
    rw [hbind]
    refine wpAny_pure (wpAny_newFunctionEnv L.own (fun y hy => ?_) (fun h₁ hns hsb => ⟨?_, ?_⟩) L.kind)
    · cases List.mem_singleton.mp hy
      exact L.loc
    · exact ((I.nolimit.keeps up)).fresh _ hsb
    · have kp : ∀ b o, h.get? b = some o → h₁.get? b = some o := fun b o e => (hsb.2 b (Nat.ne_of_lt (Heap.lt_size e))).trans (Heap.get?_push_of_some _ e)
      have kp2 : ∀ b o, s.heap.get? b = some o → h₁.get? b = some o := fun b o e => kp b o (up b o e)
      refine PySem.W.kla_codeExpr (attr_of (hb _) (wpAny_Name (wpAny_loadName_local L.kind L.loc hns (v := .ref a) ?_ ?_) hx))
      · simp
      · refine get_map (K := X.K) (mA := mA) ?_ ⟨kp2 _ _ O.obj, O.ns.at fun o q => kp2 _ _ q, O.ne⟩ (cl.get fld) cl.hd na hu (handed_of (v := .int k) ⟨tu, rfl⟩) ?_
        · exact PySem.W.Frag.In.keeps I.kIn kp2
        · exact ⟨_, rfl, _, _, rfl, kp, .int k tu⟩
  · obtain ⟨v, rfl, hv⟩ := hq
    exact hv
/-- y is an instance whose field is the number k -/
def KeyedAt (K : Fg) (H : Hp) (fld : Str) (y : V) (k : Int) : Prop := ∃ (a C dx : Addr) (fs : List (Str × V)), y = .ref a ∧ H a = some (.ins C dx fs) ∧ Cls K C ∧ NoAttr K C fld ∧ fs.lookup fld = some (.int k)
/-- sorted(xs, key=lambda x: x.fld) -/
def rSortedFld (K : Fg) (x fld q : Str) (ps : Arguments) (sc : Scope) (p1 p2 : Pos) : List V → List V → Hp → VK → Prop := fun vs zs H Q => ∃ (l f c' : Addr) (ys : List V) (ks : List Int), vs = [.ref l] ∧ zs = [.ref f] ∧ SqL K H l ys ∧
  H f = some (FunO f q ps (.Attribute (.Name x p1) fld p2) sc [] c') ∧ H c' = some (CodeO c' q) ∧ Paired (KeyedAt K H fld) ys ks ∧
  ∀ p, H p = none → Q (.ref p) (upd H p (.lst (((ys.zip ks).mergeSort fun a b => decide (a.2 ≤ b.2)).map (·.1))))
theorem zip_each {K : Fg} {H : Hp} {fld : Str} : ∀ {ys : List V} {ks : List Int} {its : List Value}, Vals ys its → Paired (KeyedAt K H fld) ys ks → PySem.W.EachIs (fun (v : Value) (b : V × Int) => RelV b.1 v ∧ KeyedAt K H fld b.1 b.2) its (ys.zip ks)
  | _, _, _, .nil, .nil => .nil
  | _, _, _, .cons r rs, .cons k ks => .cons ⟨r, k⟩ (zip_each rs ks)
theorem vals_each {K : Fg} {H : Hp} {fld : Str} : ∀ {out : List Value} {bs : List (V × Int)}, PySem.W.EachIs (fun (v : Value) (b : V × Int) => RelV b.1 v ∧ KeyedAt K H fld b.1 b.2) out bs → Vals (bs.map (·.1)) out
  | _, _, .nil => .nil
  | _, _, .cons h t => .cons h.1 (vals_each t)
theorem cr_sortedFld {q x fld : Str} {ps : Arguments} {sc : Scope} {p1 p2 : Pos} (hr : Room 1 X.A) (L : KeyL sc x)
    (hbind : ∀ pm cv ctv u, bindArgs (PySem.W.kla_fn "<lambda>" q ps (.Attribute (.Name x p1) fld p2) sc [] pm cv ctv) ⟨[u], []⟩ = pure [(x, u)]) (hb : ∀ env : Env, attributeBase (.Name x p1) fld env (eval (.Name x p1) env) = eval (.Name x p1) env) (hx : (x == ("__debug__" : Str)) = false) :
    CallRK X (.builtin "sorted") [Str.ofString "key"] (rSortedFld X.K x fld q ps sc p1 p2) := by
  intro pins s σ H vs zs us ws Q I r rz h
  obtain ⟨l, f, c', ys, ks, rfl, rfl, hs, hf, hc, pr, qk⟩ := h
  obtain rfl := Vals.ref1 r
  obtain ⟨w1, rfl, e1⟩ := vals1 rz
  obtain rfl : w1 = Value.ref f := e1
  obtain ⟨its, rv, hl, hz⟩ := I.list hs
  have ln : ys.length = ks.length := Paired.length pr
  have lz : (ys.zip ks).length = ys.length := by rw [List.length_zip, ← ln, Nat.min_self]
  refine PySem.W.sorted_key_data (β := V × Int) (b := false) (R := fun v b => RelV b.1 v ∧ KeyedAt X.K H fld b.1 b.2) (vs := its) (bs := ys.zip ks) (fun b => .int b.2) hl.isList (zip_each rv pr)
    (PySem.W.AllAlike.of fun _ _ => by simp [PySem.W.alike]) (PySem.W.Sortable.others fun _ => ⟨(fun z => nomatch z), fun _ z => nomatch z⟩) (by rw [lz]; exact hz) (fun b _ => ?_) (PyProof.Rows.ksk_s1 _ _) (fun _ => PyProof.Rows.ksk_l1 _ _) (fun _ => PyProof.Rows.ksk_t1 _ _) (fun v b hR _ h tk up => ?_) fun out c h' tk up hn hD hlen he => ?_
  · have := hr.un
    show X.A.units + 2 + 0 < cLine
    omega
  · obtain ⟨hv, a, C, dx, fs, e, ha, cl, na, lk⟩ := hR
    rw [e] at hv
    obtain rfl : v = Value.ref a := hv
    refine key_call I hf hc L ?_ hbind hb hx ha cl na lk h tk up
    have := hr.dp
    show X.A.depth < recursionLimit
    omega
  · rw [PySem.W.dataLe_int (fun b : V × Int => b.2)] at he
    have hl2 : (((ys.zip ks).mergeSort fun a b => decide (a.2 ≤ b.2)).map (·.1)).length ≤ sizeLine := by
      rw [List.length_map, List.length_mergeSort, lz]
      exact hz
    exact ⟨.ref _, upd H (s.heap.objs.size + 1) (.lst (((ys.zip ks).mergeSort fun a b => decide (a.2 ≤ b.2)).map (·.1))), I.laid up (Nat.le_succ _) ⟨hl2, out, c, vals_each he, hD⟩, rfl, qk _ (I.hok.fresh (Nat.le_succ _))⟩
end
end Tw
/-! Tw: classmethods: their facts as a Bool, C.m(), cls(e), cls(*e). -/
namespace Tw
open PySem PySem.Spec PyProof.Rows L2 He LamX
/-- the def behind the classmethod C.m -/
abbrev cmAt (K : Fg) (x m : Str) : Addr := He5.wf K (ga K x) "classmethod" m
def clsmB (K : Fg) (x m : Str) : Bool := He5.wrapB K (ga K x) "classmethod" "classmethod.__get__" m && PySem.W.fnIn K (cmAt K x m)
theorem clsmB_ok {K : Fg} {x m : Str} (h : clsmB K x m = true) : ClX.CMet K (ga K x) (.type "type") m (ma K (ga K x) m) (cmAt K x m) := by
  obtain ⟨h1, h2⟩ := ba h
  exact He5.cmet_of h1 h2
/-- a def behind a classmethod, as the head's data -/
def dCl (cls : Stmt) (j : Nat) (c m : Str) : DefA := ⟨fun K => cmAt K c m, m, c ++ "." ++ m, defArgs (inClass cls j), defBody (inClass cls j), defScope (inClass cls j), [], []⟩
theorem hfree_by {sc sc' : Scope} (h : (sc.names.all fun y => !decide (y.2 = NameKind.free) || (decide (sc'.names.lookup y.1 = some .cell) || decide (sc'.names.lookup y.1 = some .free))) = true) :
    ∀ y ∈ sc.names, y.2 = .free → sc'.names.lookup y.1 = some .cell ∨ sc'.names.lookup y.1 = some .free := fun y hy e => by
  have z := List.all_eq_true.mp h y hy
  rw [decide_eq_true e, Bool.not_true, Bool.false_or, Bool.or_eq_true] at z
  exact z.imp of_decide_eq_true of_decide_eq_true
section
variable {X : Cx} {CX : CXT} {k i : Nat} {C p g f : Addr} {mc : Value} {sp : Sp} {E : XK} {x m : Str} {o e : Expr} {es : List Expr} {pos apos np : Pos} {ta te : TE} {t : TA}
/-- o.m(), o the class at C -/
theorem pe_cmeth0 {pl : Sem Bool} (he : PE X o ta) (r : ClX.CRead X.K C mc) (c : ClX.CMet X.K C mc m p g) (F : FnR X.prog X.w X.K X.mg X.base CX k g sp) (hr : Room k X.A) (hx : Passes CX X E)
    (ht : eval (.Call (.Attribute o m apos) [] [] pos) X.env = (do
      let ov ← eval o X.env
      standAt apos.atName
      let (f, first) ← holding [ov] (getMethod ov m pl)
      callWith pos f first (backTo pos (starEach [] X.env)) (backToKw pos (keywordEach [] X.env))) := by rfl) :
    PE X (.Call (.Attribute o m apos) [] [] pos) (fun σ H Q => ta σ H fun x H1 => x = .ref C ∧ sp [.ref C] H1 Q E) := by
  refine ⟨fun pins s σ H Q I h => PySem.W.methodCall_KW (pl := pl) (thn (he.run pins s σ H _ I h) fun u s1 ⟨x, H1, I1, rx, ex, q⟩ => ?_) ht⟩
  subst ex
  obtain rfl : u = Value.ref C := rx
  refine ClX.getmethcm_ok I1 r c fun s2 I2 => ?_
  exact PySem.W.callWith_M0 (first := []) ⟨ClX.pin_at I2, I2.kIn⟩ c.fi (ClX.run_cm (us := []) (vs := []) F hr hx I2 .nil q)
/-- x(e, ..), x a local name that holds the class at C -/
theorem pe_makeV (M : Mk X.K C f) (F : FnR X.prog X.w X.K X.mg X.base CX k f sp) (hr : Room (k + 1) X.A) (hx : Passes CX X E) (hN : X.N[i]? = some x) (hv : Vis X.env.scope x) (ha : PA X (e :: es) t)
    (hd : (x == ("__debug__" : Str)) = false := by decide) (hcd : (x == ("__classdict__" : Str)) = false := by decide)
    (he : starEach (e :: es) X.env = (false, eval e X.env) :: starEach es X.env := by rfl) (hpl : (backTo pos (starEach es X.env)).any (·.1) = false := by rfl) :
    PE X (.Call (.Name x np) (e :: es) [] pos) (fun σ H Q => σ[i]? = some (some (.ref C)) ∧ StX.tMakeR C sp E t σ H Q) := by
  refine ⟨fun pins s σ H Q I h => wpAny_Call_Name_kw (thn ((pe_var (pos := np) (i := i) hN hv hd hcd).run pins s σ H (fun v H1 => v = .ref C ∧ H1 = H) I ⟨.ref C, h.1, rfl, rfl⟩) fun u s1 ⟨v, H1, I1, r1, ev, eH⟩ => ?_)⟩
  subst ev eH
  cases r1
  exact PySem.W.callWith_K (h₀ := X.base) I1.ok.mod.kin M.kp (thn (ha.run pos pins s1 σ _ _ I1 h.2) fun us s2 ⟨vs, H2, I2, r, q⟩ => ⟨I2.kIn, StX.run_makeR M F hr hx I2 r q⟩) he hpl
/-- x(*y), x a local name that holds the class at C -/
theorem pe_makeVS (M : Mk X.K C f) (F : FnR X.prog X.w X.K X.mg X.base CX k f sp) (hr : Room (k + 1) X.A) (hx : Passes CX X E) (hN : X.N[i]? = some x) (hv : Vis X.env.scope x) (he : PE X e te)
    (hd : (x == ("__debug__" : Str)) = false := by decide) (hcd : (x == ("__classdict__" : Str)) = false := by decide)
    (hst : starEach [.Starred e apos] X.env = [(true, eval e X.env)] := by rfl) :
    PE X (.Call (.Name x np) [.Starred e apos] [] pos) (fun σ H Q => σ[i]? = some (some (.ref C)) ∧ te σ H fun y H1 => ∃ a xs, y = V.ref a ∧ (SqT X.K H1 a xs ∨ SqL X.K H1 a xs) ∧ ∀ z dx, H1 z = none → H1 dx = none → dx ≠ z →
      sp (V.ref z :: xs) (upd (upd H1 dx (.own z)) z (.ins C dx [])) (fun v H2 => v = .non ∧ Q (.ref z) H2) E) := by
  refine ⟨fun pins s σ H Q I h => wpAny_Call_Name_kw (thn ((pe_var (pos := np) (i := i) hN hv hd hcd).run pins s σ H (fun v H1 => v = .ref C ∧ H1 = H) I ⟨.ref C, h.1, rfl, rfl⟩) fun u s1 ⟨v, H1, I1, r1, ev, eH⟩ => ?_)⟩
  subst ev eH
  cases r1
  refine PySem.W.callWith_S (h₀ := X.base) I1.ok.mod.kin M.kp (thn (he.run pins s1 σ _ _ I1 h.2) fun v s2 ⟨y, H2, I2, ry, a, xs, ey, hxs, q⟩ => ?_) hst
  subst ey
  obtain rfl : v = Value.ref a := ry
  exact StX.star_any I2 hxs fun us s3 I3 rv => ⟨I3.kIn, StX.run_makeR M F hr hx I3 rv q⟩
/-- x(*y), x a global class -/
theorem pe_makeGS (M : Mk X.K C f) (F : FnR X.prog X.w X.K X.mg X.base CX k f sp) (hr : Room (k + 1) X.A) (hx : Passes CX X E) (hg : Gl X x) (hm : X.mg x = some (.ref C)) (he : PE X e te) (hd : (x == ("__debug__" : Str)) = false := by decide)
    (hst : starEach [.Starred e apos] X.env = [(true, eval e X.env)] := by rfl) :
    PE X (.Call (.Name x np) [.Starred e apos] [] pos) (fun σ H Q => te σ H fun y H1 => ∃ a xs, y = V.ref a ∧ (SqT X.K H1 a xs ∨ SqL X.K H1 a xs) ∧ ∀ z dx, H1 z = none → H1 dx = none → dx ≠ z →
      sp (V.ref z :: xs) (upd (upd H1 dx (.own z)) z (.ins C dx [])) (fun v H2 => v = .non ∧ Q (.ref z) H2) E) := by
  refine ⟨fun pins s σ H Q I h => wpAny_Call_Name_kw (ld_glob I hg hm ?_ hd)⟩
  refine PySem.W.callWith_S (h₀ := X.base) I.ok.mod.kin M.kp (thn (he.run pins s σ _ _ I h) fun v s2 ⟨y, H2, I2, ry, a, xs, ey, hxs, q⟩ => ?_) hst
  subst ey
  obtain rfl : v = Value.ref a := ry
  exact StX.star_any I2 hxs fun us s3 I3 rv => ⟨I3.kIn, StX.run_makeR M F hr hx I3 rv q⟩
end
end Tw
/-! Tw: what stands while lambdas are made beside a pen; slices as take and drop. -/
namespace Tw
open PySem PySem.Spec PyProof.Rows L2 He LamX
/-- all but the tables and what stands at p stay -/
def ButN (p : Addr) (H H' : Hp) : Prop := ∀ b o, H b = some o → b ≠ p → (∀ ps, o ≠ .tbl ps) → H' b = some o
theorem ButN.refl (p : Addr) (H : Hp) : ButN p H H := fun _ _ e _ _ => e
theorem ButN.of {p : Addr} {H H' : Hp} (e : ExtN H H') : ButN p H H' := fun b o h _ n => e b o h n
theorem ButN.but {p : Addr} {H H' : Hp} (e : But p H H') : ButN p H H' := fun b o h n _ => e b o h n
theorem ButN.trans {p : Addr} {H H1 H2 : Hp} (a : ButN p H H1) (b : ButN p H1 H2) : ButN p H H2 := fun c o e h n => b c o (a c o e h n) h n
theorem tabs_but {T : List (Addr × Str)} {p : Addr} {H H' : Hp} (h : Tabs T H) (e : But p H H') (hp : ∀ ps, H p ≠ some (.tbl ps)) (hc : ∀ c q, H p ≠ some (CodeO c q)) : Tabs T H' := fun q hq => by
  obtain ⟨ps, h1, h2, h3⟩ := h q hq
  have n1 : q.1 ≠ p := fun z => hp ps (z ▸ h1)
  refine ⟨ps, e _ _ h1 n1, h2, fun pos cv hcv => ?_⟩
  obtain ⟨c, e1, e2⟩ := h3 pos cv hcv
  have n2 : c ≠ p := fun z => hc c q.2 (by rw [z] at e2 ⊢; exact e2)
  exact ⟨c, e1, e _ _ e2 n2⟩
theorem penN {H H' : Hp} {p l : Addr} {c : Nat} (P : PenL H p l c) (e : ExtN H H') : PenL H' p l c := by
  obtain ⟨ns, i, g, e1, e2, r⟩ := P
  exact ⟨ns, i, g, e _ _ e1 (fun _ z => nomatch z), e _ _ e2 (fun _ z => nomatch z), r⟩
theorem tabs_pen {T : List (Addr × Str)} {p l : Addr} {c : Nat} {H H' : Hp} (h : Tabs T H) (e : But p H H') (P : PenL H p l c) : Tabs T H' := by
  obtain ⟨ns, i, g, e1, _⟩ := P
  exact tabs_but h e (fun ps z => by rw [e1] at z; cases z) (fun c q z => by rw [e1] at z; exact nomatch z)
/-- the tables T, the pen at p; all else as it was at H0 -/
structure Lx (T : List (Addr × Str)) (H0 H : Hp) (p l : Addr) (c : Nat) : Prop where
  t : Tabs T H
  P : PenL H p l c
  b : ButN p H0 H
theorem Lx.same {T : List (Addr × Str)} {H0 H H' : Hp} {p l : Addr} {c : Nat} (S : Lx T H0 H p l c) (e : Same H H') : Lx T H0 H' p l c := ⟨S.t.ext e, S.P.same e, S.b.trans (ButN.but (But.of e))⟩
theorem Lx.ext {T : List (Addr × Str)} {H0 H H' : Hp} {p l : Addr} {c : Nat} (S : Lx T H0 H p l c) (e : ExtN H H') (t : Tabs T H') : Lx T H0 H' p l c := ⟨t, penN S.P e, S.b.trans (ButN.of e)⟩
theorem Lx.pen {T : List (Addr × Str)} {H0 H H' : Hp} {p l : Addr} {c c' : Nat} (S : Lx T H0 H p l c) (e : But p H H') (P : PenL H' p l c') : Lx T H0 H' p l c' := ⟨tabs_pen S.t e S.P, P, S.b.trans (ButN.but e)⟩
theorem Lx.mono {T : List (Addr × Str)} {H0 H : Hp} {p l : Addr} {c c' : Nat} (S : Lx T H0 H p l c) (h : c ≤ c') : Lx T H0 H p l c' := ⟨S.t, S.P.mono h, S.b⟩
theorem Lx.from {T : List (Addr × Str)} {H0 H1 H : Hp} {p l : Addr} {c : Nat} (b : ButN p H0 H1) (S : Lx T H1 H p l c) : Lx T H0 H p l c := ⟨S.t, S.P, b.trans S.b⟩
/-- a heap with one object changed that is no table and not the pen -/
theorem Lx.upd {T : List (Addr × Str)} {H0 H : Hp} {p l q : Addr} {c : Nat} {o : HO} {xs : List V} (S : Lx T H0 H p l c) (h0 : H0 q = none) (hq : H q = some (.lst xs)) (n1 : q ≠ p) (n2 : q ≠ l) : Lx T H0 (L2.upd H q o) p l c := by
  refine ⟨tabs_but (p := q) S.t But.upd (fun ps z => by rw [hq] at z; cases z) (fun c q' z => by rw [hq] at z; exact nomatch z), S.P.upd n1 n2, fun b u e hb ht => ?_⟩
  rw [upd_ne (ne_of_none e h0)]
  exact S.b b u e hb ht
theorem cutTake (xs : List V) (n : Nat) : cutV xs none (some ((n : Nat) : Int)) = xs.take n := by
  unfold cutV
  rw [HT.sIx_none, HT.sIx_nat, List.drop_zero, Nat.sub_zero]
  rcases Nat.le_total n xs.length with h | h
  · rw [Nat.min_eq_left h]
  · rw [Nat.min_eq_right h, List.take_of_length_le h, List.take_of_length_le (Nat.le_refl _)]
theorem cutDrop (xs : List V) (n : Nat) : cutV xs (some ((n : Nat) : Int)) none = xs.drop n := by
  unfold cutV
  rw [HT.sIx_none, HT.sIx_nat, List.take_of_length_le (by rw [List.length_drop]; exact Nat.le_refl _)]
  rcases Nat.le_total n xs.length with h | h
  · rw [Nat.min_eq_left h]
  · rw [Nat.min_eq_right h, List.drop_of_length_le h, List.drop_of_length_le (Nat.le_refl _)]
end Tw
/-! Tw: set comprehensions with one clause, whatever the set holds; those of ints. -/
namespace Tw
open PySem PySem.Spec PyProof.Rows L2 He
/-- an empty set is laid as o0 tells -/
def NewSet (P : Program) (w : World) (o0 : Addr → HO) : Prop := ∀ (H : Hp) (h : Heap), ObjOk P w (upd H h.objs.size (o0 h.objs.size)) (h.push { cls := .type "set", dict := none, data := .set #[] 0 (.fresh 0 0 (!w.params.followText "set-order")) }) h.objs.size (o0 h.objs.size)
/-- a member is put in as ad tells -/
def AddSet (P : Program) (w : World) (ad : V → Addr → Hp → (Hp → Prop) → Prop) : Prop := ∀ (Z : Cx) (_ : Z.prog = P) (_ : Z.w = w) {pins : List (Addr × Obj)} {σ : L2.St} {H : Hp} {s : Shared} {D : Addr} {y : V} {u : Value} {Nx : Hp → Prop} {Q E : Value → Shared → Prop},
  (∀ e s, Z.xe e s → E e s) → Inv Z pins σ H s → RelV y u → ad y D H Nx → (∀ H' s', Inv Z pins σ H' s' → Nx H' → Q .none s') → wpAny (model Z.prog Z.w) Z.A (call (.builtin "set.add") [.ref D, u]) Q E s
/-- {elt for target in iter if ..}: D the new set -/
def tSetC (o0 : Addr → HO) (ad : V → Addr → Hp → (Hp → Prop) → Prop) (wi : TI) (g : TG) (tt : TT) (te : TE) (vs : List Nat) : TE := fun σ H Q => wi σ H fun J H1 => ∀ D, H1 D = none →
  ∃ W : Nat → Nat → Hp → Prop, (∃ m, W 0 m (upd H1 D (o0 D))) ∧ ∀ i m H, W i m H → (J.stop i H ∧ Q (.ref D) H) ∨ (J.go i H ∧ ∃ Nx : Hp → Prop, (∀ H', Nx H' → ∃ m', m' < m ∧ W (i + 1) m' H') ∧
    ∀ x H', J.yld i H x H' → g x (wipe σ vs) H' fun σ2 H2 => wipe σ2 vs = wipe σ vs ∧ tt σ2 H2 fun b H3 => if b = true then te σ2 H3 fun y H4 => ad y D H4 Nx else Nx H3)
section
variable {X : Cx}
theorem setc_core {o0 : Addr → HO} {ad : V → Addr → Hp → (Hp → Prop) → Prop} (hnew : NewSet X.prog X.w o0) (hadd : AddSet X.prog X.w ad) {pins : List (Addr × Obj)} {s : Shared} {σ : L2.St} {H : Hp} {Q : VK} {elt tg iter : Expr} {ifs : List Expr} {scope : Scope} {own : List (PySem.Str × Nat)} {pos pos' : Pos} {wi : TI} {g : TG} {tt : TT} {te : TE} {use : Option (Value → Sem Unit)} {Qf : Value → Shared → Prop}
    (hc : X.calm = true) (hN : X.N.Nodup) (I : Inv X pins σ H s) (hi : PI X tg iter wi) (ok : BlkOk X.N X.env.scope scope own)
    (hg : ∀ (s : Shared) (H : Hp) (C : Addr) (cl : List (PySem.Str × Addr)) (fp : List Addr), PG (X.blk s H scope (compEnvC scope cl C X.env) fp) tg g) (ht : ∀ (s : Shared) (H : Hp) (C : Addr) (cl : List (PySem.Str × Addr)) (fp : List Addr), PTs (X.blk s H scope (compEnvC scope cl C X.env) fp) ifs tt)
    (he : ∀ (s : Shared) (H : Hp) (C : Addr) (cl : List (PySem.Str × Addr)) (fp : List Addr), PE (X.blk s H scope (compEnvC scope cl C X.env) fp) elt te) (hs : ∀ x, foldedSetIterable iter X.env x = pure x)
    (h : tSetC o0 ad wi g tt te (own.map (·.2)) σ H Q)
    (hRR : ∀ D C s' m H', Inv X pins σ H' s' → Q (.ref D) H' → s'.heap.Ns C m → FpOk X pins H' C → compPost (model X.prog X.w) X.A X.xe use Qf (.ref D) C (.ok .next) s') :
    wpAny (model X.prog X.w) X.A (comprehension (.SetComp elt [⟨tg, iter, ifs, 0⟩] scope pos) scope X.env pos' (newSet (.type "set")) false (eval iter X.env) use) Qf X.xe s := by
  have free1 : ∀ y ∈ scope.names, y.2 = .free → ∃ c, X.env.cells.lookup y.1 = some c := fun y hy e => (ok.free y hy e).elim (fun k => I.ok.has _ (.inl k)) fun k => I.ok.has _ (.inr k)
  refine wpAny_comprehension_free (use := use) rfl hs (closure_ok free1) ok.kind (fun y hy e => by rw [ok.uniq y hy, e])
    (thn (hi.run pins s σ H _ I h) fun xv u1 hx => thn hx fun itv u2 h2 => ?_)
  obtain ⟨it, fp, tn, J, G2, e, J2, T, q2, fa2, q⟩ := h2
  subst e
  refine PpSet.newSet_ok (newEnv_comp ?_)
  generalize eD : u2.heap.objs.size = D
  have nD : G2 D = none := J2.hok.fresh (Nat.le_of_eq eD)
  obtain ⟨W, ⟨m0, w00⟩, step1⟩ := q D nD
  -- the new list
  generalize es3 : ({ u2 with heap := u2.heap.push { cls := .type "set", dict := none, data := .set #[] 0 (.fresh 0 0 (!X.w.params.followText "set-order")) } } : Shared) = u3
  have J3 : Inv X pins σ (upd G2 D (o0 D)) u3 := by
    rw [← es3]
    refine J2.laid (t' := u2.toks) (fun b o e => Heap.get?_push_of_some _ e) (Nat.le_of_eq eD) ?_
    rw [← eD]
    exact hnew G2 u2.heap
  have e3 : u3.heap = u2.heap.push { cls := .type "set", dict := none, data := .set #[] 0 (.fresh 0 0 (!X.w.params.followText "set-order")) } := by rw [← es3]
  have szl : ∀ b ∈ fp, b < u2.heap.objs.size := fun b hb => by
    obtain ⟨o, e, _⟩ := T.obj _ _ q2 b hb
    exact Heap.lt_size e
  have fa3 : ∀ b ∈ fp, FpOk X pins (upd G2 D (o0 D)) b ∧ b < u3.heap.objs.size := fun b hb => by
    have hlt := szl b hb
    refine ⟨⟨?_, (fa2 b hb).2⟩, by rw [e3, Heap.size_push]; exact Nat.lt_succ_of_lt hlt⟩
    rw [upd_ne (by rw [← eD]; exact Nat.ne_of_lt hlt)]
    exact (fa2 b hb).1
  have q3 : tn 0 u3.heap := T.keep _ _ _ q2 fun b _ o e => by rw [e3]; exact Heap.get?_push_of_some _ e
  have J4 := block_start J3 ok hN fa3
  have tg1 := hg u3 (upd G2 D (o0 D)) u3.heap.objs.size (cellsFrom (u3.heap.objs.size + 1) scope.names (cloFrom X.env.cells scope.names [])) fp
  have tt1 := ht u3 (upd G2 D (o0 D)) u3.heap.objs.size (cellsFrom (u3.heap.objs.size + 1) scope.names (cloFrom X.env.cells scope.names [])) fp
  have te1 := he u3 (upd G2 D (o0 D)) u3.heap.objs.size (cellsFrom (u3.heap.objs.size + 1) scope.names (cloFrom X.env.cells scope.names [])) fp
  show codeAny _ _ (.compStart (.SetComp elt [⟨tg, iter, ifs, 0⟩] scope pos) 0 (.ref it) (.ref D) (compEnvC scope (cellsFrom (u3.heap.objs.size + 1) scope.names (cloFrom X.env.cells scope.names [])) u3.heap.objs.size X.env)) (compPost (model X.prog X.w) X.A X.xe use Qf (.ref D) u3.heap.objs.size) { u3 with heap := pushCells (u3.heap.push { cls := .type "dict", data := .dict #[] }) scope.names }
  have zfp : ∀ b ∈ fp, (upd G2 D (o0 D)) b = none := fun b hb => (fa3 b hb).1.1
  generalize ece : compEnvC scope (cellsFrom (u3.heap.objs.size + 1) scope.names (cloFrom X.env.cells scope.names [])) u3.heap.objs.size X.env = ce at J4 tg1 tt1 te1 ⊢
  have lc : ce.locals = u3.heap.objs.size := by subst ece; rfl
  generalize eG3 : upd G2 D (o0 D) = G3 at J3 J4 tg1 tt1 te1 w00 zfp fa3
  generalize es4 : ({ u3 with heap := pushCells (u3.heap.push { cls := .type "dict", data := .dict #[] }) scope.names } : Shared) = u4 at J4 ⊢
  have q4 : tn 0 u4.heap := T.keep _ _ _ q3 fun b _ o e => by rw [← es4]; exact pushCells_keeps _ _ _ _ (Heap.get?_push_of_some _ e)
  have fpo : ∀ {σ' : L2.St} {H' : Hp} {s' : Shared}, Inv (X.blk u3 G3 scope ce fp) [] σ' H' s' → (∀ b ∈ fp, H' b = none) → ∀ b ∈ fp, FpOk (X.blk u3 G3 scope ce fp) [] H' b := fun {σ' H' s'} I' hn b hb =>
    ⟨hn b hb, (I'.ok.exf b hb).1, I'.ok.exfs b hb, .inl hb, fun x c e => (I'.ok.exf b hb).2 x c e, fun p hp => absurd (show p ∈ ([] : List (Addr × Obj)) ++ [] from hp) (by simp)⟩
  have go1 : codeAny (model X.prog X.w) X.A (.compLoop (.SetComp elt [⟨tg, iter, ifs, 0⟩] scope pos) 0 (.ref it) (.ref D) ce) (compPost (model X.prog X.w) X.A X.xe use Qf (.ref D) u3.heap.objs.size) u4 := by
    refine PpSet.compLoopS_any (fun n s' => ∃ i H', Inv (X.blk u3 G3 scope ce fp) [] (wipe σ (own.map (·.2))) H' s' ∧ tn i s'.heap ∧ (∀ b ∈ fp, H' b = none) ∧ W i n H') ?_ m0 ⟨0, G3, J4, q4, zfp, w00⟩
    rintro n u5 ⟨i, G5, J5, q5, n5, w5⟩
    rcases step1 i n G5 w5 with ⟨stop, qq⟩ | ⟨go, Nx, hNx, step⟩
    · have dn := T.done (X.blk u3 G3 scope ce fp) rfl rfl rfl hc i [] u5 _ G5 (fun _ _ => False) J5 (fpo J5 n5) q5 stop
      refine thnF dn fun r u6 ⟨hr, J6⟩ => ?_
      subst hr
      -- back in the def's context
      have J7 : Inv X pins σ G5 u6 := J3.call' (ch := fp) J6.os J6.base J6.hok J6.bare fun b hb => ⟨(fa3 b hb).1.2.2.2.1, (fa3 b hb).1.2.1, (fa3 b hb).1.2.2.2.2.1, (fa3 b hb).1.2.2.2.2.2⟩
      have nC : G5 u3.heap.objs.size = none := by
        have z : G5 ce.locals = none := J6.free
        rw [lc] at z
        exact z
      obtain ⟨m, hn, _⟩ := J6.loc
      have hn : u6.heap.Ns ce.locals m := hn
      rw [lc] at hn
      exact hRR D u3.heap.objs.size u6 m G5 J7 qq hn (J3.fpOk (Nat.le_refl _) nC)
    · have it1 := T.item (X.blk u3 G3 scope ce fp) rfl rfl rfl hc i [] u5 _ G5 (fun _ _ => False) J5 (fpo J5 n5) q5 go
      refine thnF it1 fun r u6 ⟨u, hr, h6⟩ => ?_
      subst hr
      refine thnF h6 fun _ u7 ⟨x, G7, J7, r7, y7, q7, n7⟩ => ?_
      have J7' := J7.pinned (fpo J7 n7) (T.obj _ _ q7)
      refine thnF (tg1.run _ u7 _ G7 x u _ J7' r7 (step x G7 y7)) fun _ u8 ⟨σ8, G8, J8, hw8, q8⟩ => ?_
      refine thnF (tt1.run _ u8 σ8 G8 _ J8 q8) fun b u9 ⟨G9, J9, q9⟩ => ?_
      -- the turn's end
      have endt : ∀ {s' : Shared} {H' : Hp}, Inv (X.blk u3 G3 scope ce fp) ([] ++ pinsAt fp u7.heap) σ8 H' s' → Nx H' → ∃ m, m < n ∧ ∃ i H', Inv (X.blk u3 G3 scope ce fp) [] (wipe σ (own.map (·.2))) H' s' ∧ tn i s'.heap ∧ (∀ b ∈ fp, H' b = none) ∧ W i m H' := fun {s' H'} I' nx => by
        obtain ⟨m', hm, w'⟩ := hNx H' nx
        have pin' : ∀ b ∈ fp, ∀ o, u7.heap.get? b = some o → s'.heap.get? b = some o ∧ H' b = none := fun b hb o e =>
          let z := I'.pin (b, o) (List.mem_append_right _ (List.mem_append_right _ (mem_pinsAt hb e)))
          ⟨z.1, z.2.1⟩
        have hl : (wipe σ (own.map (·.2))).length = σ8.length := by rw [← hw8, wipe_length]
        refine ⟨m', hm, i + 1, H', (I'.unpinned (pins := [])).weak hl (fun j v e => ?_), T.keep _ _ _ q7 fun b hb o e => (pin' b hb o e).1, fun b hb => ?_, w'⟩
        · rw [← hw8] at e
          exact (wipe_some e).1
        · obtain ⟨o, e, _⟩ := T.obj _ _ q7 b hb
          exact (pin' b hb o e).2
      cases b with
      | false =>
        simp only [Bool.false_eq_true, if_false] at q9 ⊢
        exact endt J9 q9
      | true =>
        simp only [if_true] at q9 ⊢
        refine thnF (te1.run _ u9 σ8 G9 _ J9 q9) fun z u10 ⟨yv, G10, J10, r10, nx⟩ => ?_
        exact hadd (X.blk u3 G3 scope ce fp) rfl rfl (fun _ _ z => False.elim z) J10 r10 nx fun H' u11 J11 nx' => endt J11 nx'
  exact PpSet.codeAny_compStart_set go1 (T.self X.A 0 _ _ _ q4 go1)
/-- as a value -/
theorem pe_setc {o0 : Addr → HO} {ad : V → Addr → Hp → (Hp → Prop) → Prop} {elt tg iter : Expr} {ifs : List Expr} {scope : Scope} {own : List (PySem.Str × Nat)} {pos : Pos} {wi : TI} {g : TG} {tt : TT} {te : TE} (hnew : NewSet X.prog X.w o0) (hadd : AddSet X.prog X.w ad) (hc : X.calm = true) (hN : X.N.Nodup) (hi : PI X tg iter wi) (ok : BlkOk X.N X.env.scope scope own)
    (hg : ∀ (s : Shared) (H : Hp) (C : Addr) (cl : List (PySem.Str × Addr)) (fp : List Addr), PG (X.blk s H scope (compEnvC scope cl C X.env) fp) tg g)
    (ht : ∀ (s : Shared) (H : Hp) (C : Addr) (cl : List (PySem.Str × Addr)) (fp : List Addr), PTs (X.blk s H scope (compEnvC scope cl C X.env) fp) ifs tt)
    (he : ∀ (s : Shared) (H : Hp) (C : Addr) (cl : List (PySem.Str × Addr)) (fp : List Addr), PE (X.blk s H scope (compEnvC scope cl C X.env) fp) elt te)
    (hs : ∀ x, foldedSetIterable iter X.env x = pure x := by intro _; rfl) : PE X (.SetComp elt [⟨tg, iter, ifs, 0⟩] scope pos) (tSetC o0 ad wi g tt te (own.map (·.2))) := by
  refine ⟨fun pins s σ H Q I h => ?_⟩
  rw [PpSet.eval_SetComp]
  refine setc_core hnew hadd hc hN I hi ok hg ht he hs h fun D C s' m H' I' q hn f => ⟨m, hn, fun h'' sb => ?_⟩
  obtain ⟨z0, z1, z2, z3, z4, z5⟩ := f
  exact ⟨.ref D, H', I'.turned (t' := s'.toks) (fun b o hb e => (sb.2 b hb).trans e) z0 z1 z3 z4 z5, rfl, q⟩
/-- over a sequence that the block leaves as it is -/
theorem setc_tup {o0 : Addr → HO} {ad : V → Addr → Hp → (Hp → Prop) → Prop} {K : PySem.W.Frag} {a : Addr} {xs : List V} {g : TG} {tt : TT} {te : TE} {vs : List Nat} {σ : L2.St} {H1 : Hp} {D : Addr} {Qd : Hp → Prop} (Pv : Nat → Hp → Prop) (h0 : Pv 0 (upd H1 D (o0 D))) (hl : ∀ i H, i ≤ xs.length → Pv i H → SqT K H a xs)
    (hs : ∀ i x H, xs[i]? = some x → Pv i H → g x (wipe σ vs) H fun σ2 H2 => wipe σ2 vs = wipe σ vs ∧ tt σ2 H2 fun b H3 => if b = true then te σ2 H3 fun y H4 => ad y D H4 (Pv (i + 1)) else Pv (i + 1) H3) (hd : ∀ H, Pv xs.length H → Qd H) :
    ∃ W : Nat → Nat → Hp → Prop, (∃ m, W 0 m (upd H1 D (o0 D))) ∧ ∀ i m H, W i m H → ((Itt K a).stop i H ∧ Qd H) ∨ ((Itt K a).go i H ∧ ∃ Nx : Hp → Prop, (∀ H', Nx H' → ∃ m', m' < m ∧ W (i + 1) m' H') ∧
      ∀ x H', (Itt K a).yld i H x H' → g x (wipe σ vs) H' fun σ2 H2 => wipe σ2 vs = wipe σ vs ∧ tt σ2 H2 fun b H3 => if b = true then te σ2 H3 fun y H4 => ad y D H4 Nx else Nx H3) := by
  refine ⟨fun i m H => m = xs.length - i ∧ i ≤ xs.length ∧ Pv i H, ⟨xs.length, by omega, Nat.zero_le _, h0⟩, fun i m H ⟨em, hi, p⟩ => ?_⟩
  subst em
  have q := hl i H hi p
  rcases Nat.lt_or_eq_of_le hi with hlt | e
  · refine .inr ⟨⟨xs, xs[i], q, List.getElem?_eq_getElem hlt⟩, Pv (i + 1), fun H' p' => ⟨xs.length - (i + 1), by omega, rfl, hlt, p'⟩, fun x H' y => ?_⟩
    obtain ⟨e, y⟩ := y
    subst e
    exact hs i x _ (y xs q) p
  · subst e
    exact .inl ⟨⟨xs, q, Nat.le_refl _⟩, hd H p⟩
end
/-! ### sets of ints -/
theorem newInts {P : Program} {w : World} : NewSet P w (fun D => SetO w D (fun _ => false) 0) := fun H h => setO_new (setR_fresh w)
def adInt (w : World) : V → Addr → Hp → (Hp → Prop) → Prop := fun y D H Nx => ∃ (k : Int) (S : Int → Bool) (n : Nat), y = .int k ∧ H D = some (SetO w D S n) ∧ n + 1 < scanBound ∧ Nx (upd H D (SetO w D (fun j => S j || decide (j = k)) (if S k = true then n else n + 1)))
theorem addInts {P : Program} {w : World} : AddSet P w (adInt w) := by
  intro Z e1 e2 pins σ H s D y u Nx Q E hE I r h k
  subst e1 e2
  obtain ⟨i, S, n, rfl, hD, hn, nx⟩ := h
  refine wpAny_mono (mt_sadd (X := Z) pins s σ H (.ref D) [.int i] (.ref D) [u] (fun v H' => v = .non ∧ Nx H') I rfl (.cons r .nil) ⟨D, i, S, n, rfl, rfl, hD, hn, rfl, nx⟩) (fun v s' z => ?_) hE
  obtain ⟨v', H', I', rv, rfl, nx'⟩ := z
  cases (show v = Value.none from rv)
  exact k H' s' I' nx'
end Tw
/-! Tw: the head's hook for laws with lambdas and written dicts. -/
namespace Tw
open PySem PySem.Spec PyProof.Rows L2 He
def keyIs (v : Value) (z : Str) : Bool := match v with
  | .str y _ => decide (y = z)
  | _ => false
theorem keyIs_ok {v : Value} {z : Str} (h : keyIs v z = true) : ∃ t, v = .str z t := by
  unfold keyIs at h
  split at h
  · exact ⟨_, by rw [of_decide_eq_true h]⟩
  · cases h
def keysL : List DictEntry → List Str → Bool
  | [], [] => true
  | e :: es, z :: zs => keyIs e.key z && (!e.refKey && keysL es zs)
  | _, _ => false
/-- the written dict at d has just these keys -/
def keysB (K : Fg) (d : Addr) (zs : List Str) : Bool := match K.lookup d with
  | some ⟨_, _, .dict es _, _⟩ => keysL es.toList zs
  | _ => false
theorem keysL_ok : ∀ {es : List DictEntry} {zs : List Str}, keysL es zs = true → (es.any (·.refKey)) = false ∧ ∀ z, z ∉ zs → es.find? (·.key.isStr z) = none
  | [], [], _ => ⟨rfl, fun _ _ => rfl⟩
  | e :: es, z :: zs, h => by
    obtain ⟨h1, h⟩ := ba h
    obtain ⟨h2, h3⟩ := ba h
    obtain ⟨a, b⟩ := keysL_ok h3
    have h2 : e.refKey = false := by simpa using h2
    refine ⟨by rw [List.any_cons, h2, a]; rfl, fun y hy => ?_⟩
    obtain ⟨t, e1⟩ := keyIs_ok h1
    have ne : y ≠ z := fun q => hy (by rw [q]; exact List.mem_cons_self)
    rw [List.find?_cons, e1]
    have : (Value.str z t).isStr y = false := by
      simp [Value.isStr, Ne.symm ne, ne]
    rw [this]
    exact b y fun q => hy (List.mem_cons_of_mem _ q)
  | [], _ :: _, h => by cases h
  | _ :: _, [], h => by cases h
theorem keysB_none {K : Fg} {d : Addr} {zs : List Str} (h : keysB K d zs = true) {z : Str} (hz : z ∉ zs) : PySem.W.nsIn K d z = some none := by
  unfold keysB at h
  unfold PySem.W.nsIn
  split at h
  · rename_i e
    obtain ⟨a, b⟩ := keysL_ok h
    simp only [e, b z hz, a]
    rfl
  · cases h
abbrev AlZT : Type := AlL × List (Option (List (Option (Str × Int))))
def obsZTG (n : Nat) (fs : Fz) (fn : List DefA) (ts : List Tab) (ls : List (Fg → Addr)) (g : Addr → Option Obj) : AlZT := (obsZG n fs fn ls g, ts.map fun t => dicW (frZ n ls g) (t.1 (frZ n ls g)))
def SaysZT (ts : List Tab) (w : World) (K : Fg) : Prop := ts.map (fun t => dicW K (t.1 K)) = ts.map fun t => some (keysIn w.params t.2)
def hookZT (n : Nat) (fs : Fz) (fn : List DefA) (ts : List Tab) (ls : List (Fg → Addr)) : PySem.W.Hook where
  α := AlZT
  obs := fun s => obsZTG n fs fn ts ls s.heap.get?
  val := fun w => ((valZ fn, ls.map fun _ => true), ts.map fun t => some (keysIn w.params t.2))
  says := fun w h => ∃ K : Fg, K.In h ∧ SaysZ fs fn K ∧ (∀ f ∈ ls, isTab (h.get? (tabAt K (f K))) = true) ∧ SaysZT ts w K
  of := fun _ s e => by
    have e1 : obsZG n fs fn ls s.heap.get? = (valZ fn, ls.map fun _ => true) := congrArg (fun z : AlZT => z.1) e
    have e2 : (ls.map fun f => isTab (s.heap.get? (tabAt (frZ n ls s.heap.get?) (f (frZ n ls s.heap.get?))))) = ls.map fun _ => true := congrArg (fun z : AlL => z.2) e1
    exact ⟨_, frG_in, congrArg (fun z : AlL => z.1) e1, fun f hf => List.map_inj_left.mp e2 f hf, congrArg (fun z : AlZT => z.2) e⟩
  keeps := fun _ _ _ ⟨K, hK, c, t, d⟩ k => ⟨K, PySem.W.Frag.In.keeps hK k, c, fun f hf => by
    rw [k _ _ (isTab_ok (t f hf))]
    rfl, d⟩
theorem obsZTG_eq {n : Nat} {fs : Fz} {fn : List DefA} {ts : List Tab} {ls : List (Fg → Addr)} {g : Addr → Option Obj} {s : Shared} (h : ∀ a, g a = s.heap.get? a) : obsZTG n fs fn ts ls g = (hookZT n fs fn ts ls).obs s := by
  rw [show g = s.heap.get? from funext h]
  rfl
theorem SaysZT.tab {ts : List Tab} {w : World} {K : Fg} (e : SaysZT ts w K) (i : Nat) {t : Tab} (h : ts[i]? = some t := by rfl) : ∃ es n, KDict K w (t.1 K) es n := by
  have e2 : (ts.map fun t => dicW K (t.1 K))[i]? = (ts.map fun t => some (keysIn w.params t.2))[i]? := by rw [show ts.map (fun t => dicW K (t.1 K)) = _ from e]
  rw [List.getElem?_map, List.getElem?_map, h] at e2
  exact dicW_ok (Option.some.inj e2)
end Tw
/-! Tw: lambdas with a parameter and captured names, as values that are handed on: the heap at hand as the base of what is called. -/
namespace Tw
open PySem PySem.Spec PyProof.Rows L2 He LamX
/-- the heap at hand without what is tracked and without the frames -/
def baseN (h : Heap) (H : Hp) (fs : List Addr) : Heap := PySem.W.hideAll (hidT h H) fs
theorem baseN_get {h : Heap} {H : Hp} {fs : List Addr} {b : Addr} {o : Obj} (e : h.get? b = some o) (n : H b = none) (f : b ∉ fs) : (baseN h H fs).get? b = some o := PySem.W.hideAll_get fs (hidT_get e n) f
theorem of_baseN {h : Heap} {H : Hp} {fs : List Addr} {b : Addr} {o : Obj} (e : (baseN h H fs).get? b = some o) : h.get? b = some o ∧ H b = none := of_hidT (PySem.W.of_hideAll fs e)
theorem baseN_frame {h : Heap} {H : Hp} {fs : List Addr} {b : Addr} (hb : b ∈ fs) : (baseN h H fs).get? b = none := PySem.W.hideAll_none fs hb
theorem frames_base {h base base' : Heap} : ∀ {l : List Env}, (∀ b ∈ frs l, base'.get? b = none) → h.FunFrames base l → h.FunFrames base' l
  | [], _, _ => trivial
  | env :: rest, hb, ⟨k, ⟨L, o, e1, e2, e3, e4⟩, r⟩ => by
    have hm : ∀ b ∈ frs rest, b ∈ frs (env :: rest) := fun b hb => by
      unfold frs at hb ⊢
      rw [List.filterMap_cons]
      split
      · exact hb
      · exact List.mem_cons_of_mem _ hb
    refine ⟨k, ⟨L, o, e1, hb L ?_, e3, e4⟩, frames_base (fun b q => hb b (hm b q)) r⟩
    unfold frs
    rw [List.filterMap_cons, e1]
    exact List.mem_cons_self
section
variable {X : Cx} {pins : List (Addr × Obj)} {σ : L2.St} {H : Hp} {s : Shared}
/-- what is called may take the heap at hand as its base -/
theorem env0_new (I : Inv X pins σ H s) : Env0 X.prog X.w X.K X.mg (baseN s.heap H (frs X.stack)) X.A X.stack s H := by
  have e0 := I.env0
  have kb : ∀ b o, X.base.get? b = some o → (baseN s.heap H (frs X.stack)).get? b = some o := fun b o e => by
    obtain ⟨h1, h2⟩ := e0.bs b o e
    refine baseN_get h1 h2 fun hb => ?_
    have := (e0.funs.mem hb).1
    rw [e] at this
    cases this
  obtain ⟨mb, hb1, hb2⟩ := e0.mod.blt
  exact ⟨e0.frames, ⟨e0.mod.kin.keeps kb, e0.mod.glob.keeps kb, ⟨mb, hb1.keeps kb, hb2⟩, e0.mod.nolimit.keeps kb⟩, fun b o e => of_baseN e, Nat.le_of_eq ((PySem.W.hideAll_size _ _).trans (hidT_size _ _)), frames_base (fun b hb => baseN_frame hb) e0.funs, e0.frf, e0.hok, e0.bare⟩
/-- a def called by a promise over any base -/
theorem run_fnB {CX : CXT} {k : Nat} {f : Addr} {sp : Sp} {E : XK} {Q : VK} {us : List Value} {vs : List V} (F : FnR X.prog X.w X.K X.mg (baseN s.heap H (frs X.stack)) CX k f sp) (hr : Room k X.A) (hx : Passes CX X E) (I : Inv X pins σ H s) (r : Vals vs us) (h : sp vs H Q E) :
    codeAny (model X.prog X.w) X.A (.call (.ref f) ⟨us, []⟩) (fun r s' => match r with | .ok (.ret v) => EP X pins σ Q v s' | .ok _ => False | .error e => X.xe e s') s := by
  refine codeAny_mono (F X.A X.stack s H us vs Q E hr (env0_new I) r h) fun r s' hq => ?_
  match r, hq with
  | .error e, hq => exact hx pins σ H s e s' I hq
  | .ok (.ret u), hq => exact I.after hq
end
/-! ### the lambda's body -/
/-- one parameter, no other name of its own: captured ones and globals -/
structure LamP (sc scope : Scope) (x : Str) : Prop where
  kind : scope.kind = .function
  co : scope.isCoroutine = false
  gen : scope.isGenerator = false
  par : scope.names.lookup x = some .local
  own : ∀ y ∈ scope.names, y.2 ≠ .cell
  free : ∀ y ∈ scope.names, y.2 = .free → sc.names.lookup y.1 = some .cell ∨ sc.names.lookup y.1 = some .free
def lamPB (sc scope : Scope) (x : Str) : Bool :=
  decide (scope.kind = .function) && (!scope.isCoroutine && (!scope.isGenerator && (decide (scope.names.lookup x = some .local) && scope.names.all fun y => !decide (y.2 = .cell) && (!decide (y.2 = .free) || (decide (sc.names.lookup y.1 = some .cell) || decide (sc.names.lookup y.1 = some .free))))))
theorem lamP_by {sc scope : Scope} {x : Str} (h : lamPB sc scope x = true) : LamP sc scope x := by
  unfold lamPB at h
  obtain ⟨h1, h⟩ := ba h
  obtain ⟨h2, h⟩ := ba h
  obtain ⟨h3, h⟩ := ba h
  obtain ⟨h4, h5⟩ := ba h
  refine ⟨of_decide_eq_true h1, by simpa using h2, by simpa using h3, of_decide_eq_true h4, fun y hy => ?_, fun y hy e => ?_⟩
  · have := (ba (List.all_eq_true.mp h5 y hy)).1
    simpa using this
  · have := (ba (List.all_eq_true.mp h5 y hy)).2
    rw [decide_eq_true e, Bool.not_true, Bool.false_or, Bool.or_eq_true] at this
    exact this.imp of_decide_eq_true of_decide_eq_true
/-- the context of the lambda's body -/
def lamC (X : Cx) (base : Heap) (N : List Str) (A : Around) (outer : List Env) (s : Shared) (H : Hp) (E : XK) (scope : Scope) (f c' : Addr) : Cx where
  prog := X.prog
  w := X.w
  K := X.K
  mg := X.mg
  base := base
  A := A.deeper (lamEnv X scope s.heap.objs.size f c')
  N := N
  s_0 := s
  H_0 := H
  env := lamEnv X scope s.heap.objs.size f c'
  outer := outer
  stack := lamEnv X scope s.heap.objs.size f c' :: outer
  ex := []
  fn := fun _ => false
  calm := true
  pn := []
  xe := fun e s' => wpAny (model X.prog X.w) (A.deeper (lamEnv X scope s.heap.objs.size f c')) (leaving (lamEnv X scope s.heap.objs.size f c') e) (fun _ s'' => L2.CX X.prog X.w outer H s E e s'') (fun e' s'' => L2.CX X.prog X.w outer H s E e' s'') s'
/-- what the lambda knows of its maker's names -/
def capS (σ : L2.St) (caps : List Nat) : L2.St := caps.map fun i => (σ[i]?).getD none
section
variable {X : Cx} {pins : List (Addr × Obj)} {σ : L2.St} {H HZ : Hp} {s s1 : Shared}
theorem lam_begin {A : Around} {outer : List Env} {E : XK} {scope : Scope} {f c' : Addr} {h₁ : Heap} {tk : Nat} {x : Str} {cs : List Str} {caps : List Nat} {u : V} {uv : Value} (I : Inv X pins σ H s) (hfn : ∀ y, X.fn y = true) (L : LamP X.env.scope scope x)
    (hcs : ∀ (j : Nat) (y : Str) (i : Nat), cs[j]? = some y → caps[j]? = some i → X.N[i]? = some y) (hl : cs.length = caps.length) (hfr : ∀ y ∈ cs, scope.names.lookup y = some .free)
    (e0 : Env0 X.prog X.w X.K X.mg (baseN s.heap H (frs X.stack)) A outer s1 HZ) (hd : A.handled = none) (ru : RelV u uv)
    (hns : h₁.Ns s1.heap.objs.size fun y => ([(x, uv)] : List (Str × Value)).reverse.lookup y) (kp : ∀ b o, s1.heap.get? b = some o → h₁.get? b = some o) :
    Inv (lamC X (baseN s.heap H (frs X.stack)) (x :: cs) A outer s1 HZ E scope f c') [] (some u :: capS σ caps) HZ { s1 with heap := h₁, toks := tk } := by
  have hfree : ∀ y ∈ scope.names, y.2 = .free → ∃ c, X.env.cells.lookup y.1 = some c := fun y hy e => by
    rcases L.free y hy e with k | k
    · exact I.ok.has _ (.inl k)
    · exact I.ok.has _ (.inr k)
  have cm : ∀ {y c}, (cloFrom X.env.cells scope.names []).lookup y = some c → X.env.cells.lookup y = some c := fun {y c} e => by
    rcases cloFrom_mem (PySem.mem_of_lookup e) with hm | ⟨h1, h2⟩
    · cases hm
    · obtain ⟨c1, hc⟩ := hfree _ h1 rfl
      have hc : X.env.cells.lookup y = some c1 := hc
      have e2 : c = c1 := by
        rw [h2, hc] <;> rfl
      rw [e2]
      exact hc
  have look : ∀ {y}, scope.names.lookup y = some .free → ∃ c, (cloFrom X.env.cells scope.names []).lookup y = some c := fun {y} hl => by
    have hy : (y, NameKind.free) ∈ scope.names := PySem.mem_of_lookup hl
    exact mem_lookup (cloFrom_has (cells := X.env.cells) (acc := []) hy)
  -- the cells stand as they stood
  have cellB : ∀ {y : Str} {c : Addr} {v : Option Value}, X.env.cells.lookup y = some c → s.heap.IsCell c v → h₁.IsCell c v ∧ HZ c = none := fun {y c v} ey ⟨o, ho, hdo⟩ => by
    have nf : c ∉ frs X.stack := fun hb => by
      have ge := I.ok.cab y c (hfn y) ey
      rcases List.mem_cons.mp (I.stkSub _ hb) with z | z
      · exact I.cne y c ey z
      · obtain ⟨_, o', ho', _⟩ := I.ok.funs.mem z
        exact Nat.lt_irrefl _ (Nat.lt_of_lt_of_le (Heap.lt_size ho') ge)
    obtain ⟨q1, q2⟩ := e0.bs c o (baseN_get ho (I.freeC y c ey) nf)
    exact ⟨⟨o, kp _ _ q1, hdo⟩, q2⟩
  have noA : ∀ b : Addr, b ∉ (lamC X (baseN s.heap H (frs X.stack)) (x :: cs) A outer s1 HZ E scope f c').ex := fun b z => absurd (show b ∈ ([] : List Addr) from z) (by simp)
  refine ⟨⟨e0.mod, L.kind, rfl, rfl, Nat.le_refl _, fun y z c e1 e2 => I.ok.inj y z c (cm e1) (cm e2), fun y hy => ?_, fun y c z _ => ?_, fun _ => hd, Around.frames_deeper e0.frames, .inr ⟨rfl, rfl⟩, fun b z => absurd z (noA b), e0.bs, e0.bsz, fun b _ _ => noA b,
      fun b z => absurd z (noA b), e0.funs, e0.frf⟩,
    rfl, e0.bare, Un.kept kp, ⟨_, hns, fun i y v e1 e2 e3 => ?_⟩, fun y c e => ?_, e0.hok.fresh (Nat.le_refl _), fun y c e => ?_, fun q hq => absurd (show q ∈ ([] : List (Addr × Obj)) ++ [] from hq) (by simp), e0.hok.kept kp, ?_⟩
  · have hy : scope.names.lookup y = some .cell ∨ scope.names.lookup y = some .free := hy
    rcases hy with hy | hy
    · exact absurd rfl (L.own _ (PySem.mem_of_lookup hy))
    · exact look hy
  · have z : false = true := z
    cases z
  · have e1 : (x :: cs)[i]? = some y := e1
    have e2 : (some u :: capS σ caps)[i]? = some (some v) := e2
    cases i with
    | zero =>
      cases e1
      cases e2
      exact ⟨uv, ru, .inl ⟨L.par, by show List.lookup x [(x, uv)] = some uv; simp⟩⟩
    | succ j =>
      have e1 : cs[j]? = some y := e1
      have e2 : (capS σ caps)[j]? = some (some v) := e2
      have hj : j < caps.length := by
        rw [← hl]
        exact (List.getElem?_eq_some_iff.mp e1).1
      have ec : caps[j]? = some caps[j] := List.getElem?_eq_getElem hj
      generalize caps[j] = i at ec
      have hN := hcs j y i e1 ec
      have e3 : σ[i]? = some (some v) := by
        unfold capS at e2
        rw [List.getElem?_map, ec] at e2
        have e2 : (σ[i]?).getD none = some v := Option.some.inj e2
        cases q : σ[i]? with
        | none =>
          rw [q] at e2
          cases e2
        | some o =>
          rw [q] at e2
          have e2 : o = some v := e2
          rw [e2]
      have kf := hfr y (List.mem_of_getElem? e1)
      obtain ⟨m, hn, hlo⟩ := I.loc
      have hvis : Vis X.env.scope y := (L.free _ (PySem.mem_of_lookup kf) rfl).elim (fun k => .inr (.inl k)) (fun k => .inr (.inr k))
      obtain ⟨w', r, q⟩ := hlo i y v hN e3 hvis
      obtain ⟨c2, h2⟩ := look kf
      refine ⟨w', r, .inr ⟨.inr kf, c2, h2, ?_⟩⟩
      have c1 := cm h2
      rcases q with ⟨k', _⟩ | ⟨_, c3, e', z⟩
      · have k' : X.env.scope.names.lookup y = some .local := k'
        rcases L.free _ (PySem.mem_of_lookup kf) rfl with k2 | k2 <;> rw [show X.env.scope.names.lookup y = _ from k2] at k' <;> cases k'
      · rw [c1] at e'
        cases e'
        exact (cellB c1 z).1
  · obtain ⟨w', z⟩ := I.cell y c (cm e)
    exact ⟨w', (cellB (cm e) z).1⟩
  · obtain ⟨v, z⟩ := I.cell y c (cm e)
    exact (cellB (cm e) z).2
  · show (some u :: capS σ caps).length = (x :: cs).length
    unfold capS
    rw [List.length_cons, List.length_cons, List.length_map, hl]
/-- what a lambda promises -/
def spLam (tb : XK → TE) (σc : L2.St) (c' : Addr) (q : Str) : Sp := fun vs HZ Q E => ∃ u, vs = [u] ∧ HZ c' = some (CodeO c' q) ∧ tb E (some u :: σc) HZ Q
theorem lam_fnR {f c' : Addr} {pm ctv : Value} {params : Arguments} {body : Expr} {scope : Scope} {k : Nat} {x : Str} {cs : List Str} {caps : List Nat} {tb : XK → TE} (I : Inv X pins σ H s) (hfn : ∀ y, X.fn y = true) (L : LamP X.env.scope scope x)
    (hcs : ∀ (j : Nat) (y : Str) (i : Nat), cs[j]? = some y → caps[j]? = some i → X.N[i]? = some y) (hl : cs.length = caps.length) (hfr : ∀ y ∈ cs, scope.names.lookup y = some .free)
    (hf : s.heap.get? f = some (PySem.W.kla_obj "<lambda>" (X.env.qual ++ "<lambda>") params body scope (cloFrom X.env.cells scope.names []) pm c' ctv)) (hf0 : H f = none) (hf1 : f ∉ frs X.stack)
    (hbind : ∀ u : Value, bindArgs (PySem.W.kla_fn "<lambda>" (X.env.qual ++ "<lambda>") params body scope (cloFrom X.env.cells scope.names []) pm (.ref c') ctv) ⟨[u], []⟩ = pure [(x, u)])
    (hbody : ∀ (A : Around) (outer : List Env) (s1 : Shared) (H1 : Hp) (E : XK), Room k (A.deeper (lamEnv X scope s1.heap.objs.size f c')) → PE (lamC X (baseN s.heap H (frs X.stack)) (x :: cs) A outer s1 H1 E scope f c') body (tb E)) :
    FnR X.prog X.w X.K X.mg (baseN s.heap H (frs X.stack)) (L2.CX X.prog X.w) (k + 1) f (spLam tb (capS σ caps) c' (X.env.qual ++ "<lambda>")) := by
  intro A outer s1 HZ us vs Q E hr e0 r hsp
  obtain ⟨u, rfl, hc, ht⟩ := hsp
  obtain ⟨uv, rfl, ru⟩ := vals1 r
  have of1 := (e0.bs f _ (baseN_get hf hf0 hf1)).1
  obtain ⟨⟨oc, vs, t, hoc, hdc, hvc⟩, _, _⟩ := e0.hok c' _ hc
  have lim : s1.heap.NoLimit := e0.mod.nolimit.keeps fun b o e => (e0.bs b o e).1
  refine PySem.W.kla_callFunE hr.depth of1 rfl L.co L.gen rfl ⟨c', oc, vs, t, rfl, hoc, hdc, hvc⟩ ?_
  rw [hbind]
  refine wpAny_pure (wpAny_newFunctionEnv (fun y hy => L.own y hy) (fun y hy => ?_) (fun h₁ hns hsb => ⟨lim.fresh _ hsb, ?_⟩) L.kind)
  · rw [List.mem_singleton.mp hy]
    exact L.par
  show codeAny _ _ (.expr body (lamEnv X scope s1.heap.objs.size f c')) _ _
  have kp : ∀ b o, s1.heap.get? b = some o → h₁.get? b = some o := fun b o e => hsb.extBut b o (Nat.ne_of_lt (Heap.lt_size e)) (Heap.get?_push_of_some _ e)
  have J : Inv (lamC X (baseN s.heap H (frs X.stack)) (x :: cs) A outer s1 HZ E scope f c') [] (some u :: capS σ caps) HZ { s1 with heap := h₁, toks := s1.toks + ([(x, uv)] : List (Str × Value)).length } :=
    lam_begin I hfn L hcs hl hfr e0 hr.hd ru hns kp
  refine PySem.W.kla_codeExpr (wpAny_mono ((hbody _ _ s1 HZ E (hr.deeper _)).run [] _ _ HZ Q J ht) (fun v s' hq => ?_) fun e s' hq => hq)
  obtain ⟨w', H', J', rv, q⟩ := hq
  exact ⟨w', H', J'.os, J'.bare, J'.base, J'.hok, rv, q⟩
end
/-! ### calls -/
section
variable {X : Cx} {CX : CXT} {k i : Nat} {f : Addr} {sp : Sp} {E : XK} {x : Str} {p pos : Pos} {e : Expr} {es : List Expr} {t : TA}
/-- x(e, ..), x a local name that holds a function of the base -/
theorem pe_callF (hN : X.N[i]? = some x) (hv : Vis X.env.scope x) (hf : PySem.W.FnAt f X.base) (F : FnR X.prog X.w X.K X.mg X.base CX k f sp) (hr : Room k X.A) (hx : Passes CX X E) (ha : PA X (e :: es) t)
    (hd : (x == ("__debug__" : Str)) = false := by decide) (hcd : (x == ("__classdict__" : Str)) = false := by decide)
    (he : starEach (e :: es) X.env = (false, eval e X.env) :: starEach es X.env := by rfl) (hpl : (backTo pos (starEach es X.env)).any (·.1) = false := by rfl) :
    PE X (.Call (.Name x p) (e :: es) [] pos) (fun σ H Q => σ[i]? = some (some (.ref f)) ∧ t σ H fun vs H1 => sp vs H1 Q E) := by
  have at_ : ∀ {pins σ H s}, Inv X pins σ H s → PySem.W.FnAt f s.heap := fun I => by
    obtain ⟨oc, od, fd, sl, h⟩ := hf
    exact ⟨oc, od, fd, sl, I.bk _ _ h⟩
  refine ⟨fun pins s σ H Q I h => wpAny_Call_Name_kw (thn ((pe_var (pos := p) (i := i) hN hv hd hcd).run pins s σ H (fun v H1 => v = .ref f ∧ H1 = H) I ⟨.ref f, h.1, rfl, rfl⟩) fun u s1 ⟨v, H1, I1, r1, ev, eH⟩ => ?_)⟩
  subst ev eH
  cases r1
  refine PySem.W.callWith_F (first := []) (at_ I1) (thn (ha.run pos pins s1 σ _ _ I1 h.2) fun us s2 ⟨vs, H2, I2, r, q⟩ => ⟨at_ I2, ?_⟩) he hpl
  exact wpAny_call (run_fnR F hr hx I2 r q)
end
section
variable {X : Cx} {CX : CXT} {kc k : Nat} {C g c P : Addr} {spB : Heap → Sp} {E : L2.St → XK} {fe : Expr} {tf : TE} {T : List (Addr × Str)} {params : Arguments} {body : Expr} {scope : Scope} {tb : XK → TE} {lpos pos : Pos} {x : Str} {cs : List Str} {caps : List Nat}
def tCallOL (P : Program) (w : World) (K : Fg) (mg : Str → Option Value) (C : Addr) (k : Nat) (T : List (Addr × Str)) (q : Str) (tb : XK → TE) (caps : List Nat) (spB : Heap → Sp) (E : L2.St → XK) (tf : TE) : TE := fun σ H Q => tf σ H fun y H0 => ∃ a, y = .ref a ∧ Tabs T H0 ∧ ∀ (f c' : Addr) (H1 : Hp) (base' : Heap), ExtN H0 H1 → Tabs T H1 → H1 c' = some (CodeO c' q) → PySem.W.FnAt f base' →
  FnR P w K mg base' (L2.CX P w) (k + 1) f (spLam tb (capS σ caps) c' q) → (∃ dx fs, H1 a = some (.ins C dx fs)) ∧ spB base' [.ref a, .ref f] H1 Q (E σ)
/-- o(lambda x: ..), o an instance of C whose __call__ is promised over any base -/
theorem pe_callOL {Pr : Program} {wo : World} {K : Fg} {mg : Str → Option Value} {qn : Str} (hf : PE X fe tf) (co : StX.CallO X.K C g) (F : ∀ base' : Heap, FnR X.prog X.w X.K X.mg base' CX kc g (spB base')) (hr : Room kc X.A) (hx : ∀ σ, PassesAt CX X σ (E σ))
    (TB : TabB X.base X.mg c P) (hcode : X.env.code = .ref c) (hmT : (P, X.env.qual ++ "<lambda>") ∈ T) (hu : ∀ p ∈ T, p.1 = P → p.2 = X.env.qual ++ "<lambda>") (hdef : defaultsOf params X.env = ([], []))
    (hfn : ∀ y, X.fn y = true) (L : LamP X.env.scope scope x) (hcs : ∀ (j : Nat) (y : Str) (i : Nat), cs[j]? = some y → caps[j]? = some i → X.N[i]? = some y) (hl : cs.length = caps.length) (hfr : ∀ y ∈ cs, scope.names.lookup y = some .free)
    (hbind : ∀ (u : Value) (q : Str) (cl : List (Str × Addr)) (pm cv ctv : Value), bindArgs (PySem.W.kla_fn "<lambda>" q params body scope cl pm cv ctv) ⟨[u], []⟩ = pure [(x, u)])
    (hbody : ∀ (base : Heap) (A : Around) (outer : List Env) (s1 : Shared) (H1 : Hp) (E : XK) (f c' : Addr), Room k (A.deeper (lamEnv X scope s1.heap.objs.size f c')) → PE (lamC X base (x :: cs) A outer s1 H1 E scope f c') body (tb E))
    (ht : eval (.Call fe [.Lambda params body scope lpos] [] pos) X.env = (do callWith pos (← eval fe X.env) [] (backTo pos (starEach [.Lambda params body scope lpos] X.env)) (backToKw pos (keywordEach [] X.env))) := by rfl) (hP : X.prog = Pr := by rfl) (hW : X.w = wo := by rfl) (hK : X.K = K := by rfl) (hM : X.mg = mg := by rfl) (hQ : X.env.qual ++ "<lambda>" = qn := by rfl) :
    PE X (.Call fe [.Lambda params body scope lpos] [] pos) (tCallOL Pr wo K mg C k T qn tb caps spB E tf) := by
  subst hP hW hK hM hQ
  refine ⟨fun pins s σ H Q I h => ?_⟩
  refine Call_ (thn (hf.run pins s σ H _ I h) fun u s1 ⟨y, H1, I1, ry, a, ey, hT, q⟩ => ?_) ht
  subst ey
  obtain rfl : u = Value.ref a := ry
  have hfree : ∀ y ∈ scope.names, y.2 = .free → ∃ c, X.env.cells.lookup y.1 = some c := fun y hy e => by
    rcases L.free y hy e with k | k
    · exact I.ok.has _ (.inl k)
    · exact I.ok.has _ (.inr k)
  refine StX.callO_with (Calls.spliced_cons (lam_make2 I1 TB hcode hmT hu hT hdef hfree fun f c' pm ctv H2 s2 I2 eN T2 hf2 hf0 hf1 hco => Calls.spliced_nil ?_)) (by rfl) (by rfl)
  have hfa : PySem.W.FnAt f (baseN s2.heap H2 (frs X.stack)) := ⟨_, _, _, _, baseN_get hf2 hf0 hf1⟩
  have FL := lam_fnR I2 hfn L hcs hl hfr hf2 hf0 hf1 (fun u => hbind u _ _ _ _ _) (fun A outer s1 H1 E hr => hbody _ A outer s1 H1 E f c' hr)
  obtain ⟨hi, q2⟩ := q f c' H2 _ eN T2 hco hfa FL
  obtain ⟨ox, od, J, hd⟩ := StX.insC_at I2 (.inr hi)
  refine ⟨⟨C, ox, od, J, hd⟩, wpAny_call (PySem.W.kco_code I2.kIn J hd co.at_ co.fn co.fi ?_)⟩
  refine codeAny_mono (F _ X.A X.stack s2 H2 [.ref a, .ref f] [.ref a, .ref f] Q (E σ) hr (env0_new I2) (.cons rfl (.cons rfl .nil)) q2) fun r s' hq => ?_
  match r, hq with
  | .error e, hq => exact hx σ pins H2 s2 e s' I2 hq
  | .ok (.ret u), hq => exact I2.after hq
end
end Tw
namespace K12
open PySem PySem.Spec PyProof.Rows L2 He Tw
def topS (i : Nat) : Stmt := PySem.Challenge.pw_twoheads_k12_words_asked.main.body.getD i (.Pass ⟨0, 0, 0, 0⟩)
def dM (c : Str) (i j : Nat) (m : Str) (dvs : List Dv) : DefA := ⟨fun K => ma K (ga K c) m, m, c ++ "." ++ m, defArgs (inClass (topS i) j), defBody (inClass (topS i) j), defScope (inClass (topS i) j), dvs, []⟩
def dF (x : Str) (i : Nat) : DefA := ⟨fun K => ga K x, x, x, defArgs (topS i), defBody (topS i), defScope (topS i), [], []⟩
def clss : List Str := ["HeadsError", "BadInput", "BadTest", "BadText", "Test"]
def fnames : List Str := ["is_lettered", "is_flag_name", "is_single_word", "is_word", "exchanged", "need_cases", "need_case", "is_pair", "is_true_case", "_law_pen", "_law_draw", "_law_pick", "_law_flags", "_law_cases", "_law_test", "_law_said", "_law_due", "_law_truths", "_law_exchanged", "_law_fall", "_law_falls", "_law_right", "law"]
def blts : List Str := ["list", "int", "len", "abs", "isinstance", "range", "str", "bool", "all", "enumerate", "tuple", "repr", "KeyError"]
def kinds : List String := ["NoneType", "bool", "int", "str", "list", "tuple", "dict"]
def letters : Str := "abcdefghijklmnopqrstuvwxyz"
def sides : List Str := ["left", "right"]
def orders : List Str := ["less", "equal", "more"]
def news : List Str := ["new left", "new right"]
def reserved : List Str := ["while", "if", "elif", "else", "break", "stop", "put", "step", "pairs", "set", "clear", "left", "right", "less", "equal", "more", "new", "not", "and", "or", "none"]
/-- the tuples of texts at the top -/
def tups : List (Str × List Str) := [("SIDES", sides), ("ORDERS", orders), ("NEWS", news), ("RESERVED", reserved)]
def exch : List (Str × Dv) := [("left", .str "right"), ("right", .str "left"), ("less", .str "more"), ("more", .str "less"), ("new left", .str "new right"), ("new right", .str "new left")]
def ts : List Tab := [(fun K => ga K "EXCHANGED", ["left", "right", "less", "more", "new left", "new right"])]
def fn : List DefA := [dM "BadTest" 4 0 "__init__" [], dM "Test" 29 0 "__init__" [], dM "Test" 29 3 "__eq__" [], dM "Test" 29 5 "turned" [],
  dF "is_lettered" 14, dF "is_flag_name" 15, dF "is_single_word" 16, dF "is_word" 17, dF "need_cases" 21, dF "need_case" 22, dF "is_pair" 23,
  dF "_law_pen" 32, dF "_law_draw" 33, dF "_law_pick" 34, dF "_law_flags" 35, dF "_law_cases" 36, dF "_law_test" 37, dF "_law_said" 38, dF "_law_due" 39, dF "_law_truths" 40, dF "_law_exchanged" 41, dF "_law_fall" 42, dF "_law_falls" 43, dF "_law_right" 44, dF "law" 45,
  dM "Test" 29 6 "__call__" [], dF "is_true_case" 30, dF "exchanged" 18]
def fs : Fz := [fun K => clss.all fun x => (Fa.glo x).ok K, fun K => fnames.all fun x => (Fa.glo x).ok K, fun K => blts.all fun x => (Fa.free x).ok K, fun K => (Fa.int "LONGEST" 8).ok K, fun K => (Fa.int "LIMIT" 4).ok K, fun K => (Fa.str "LETTERS" letters).ok K,
  fun K => tups.all fun t => (Fa.glo t.1).ok K && tupB K (ga K t.1) (t.2.map V.str),
  fun K => (Fy.xc "BadTest").ok K, fun K => Fy.xo.ok K, fun K => (Fy.ini "BadTest").ok K, fun K => (Fy.names "BadTest" ["at", "word"]).ok K,
  fun K => kinds.all fun t => decide (PySem.W.kitOne K (.type t) (.ref (ga K "Test")) = some false), fun K => (Fy.kit "Test" "Test" true).ok K,
  fun K => (Fa.cls "Test").ok K, fun K => (Fa.mkr "Test").ok K, fun K => (Fa.noat "Test" "cases").ok K, fun K => (["turned", "__eq__", "__call__"] : List Str).all fun m => (Fa.meth "Test" m).ok K,
  fun K => decide (PySem.W.mroIn K (ga K "Test") (.type "object") = some true) && eqO (PySem.W.findIn K (.ref (ga K "Test")) "__class__") (some (some (.builtin "object.__class__"))), fun K => PySem.W.notFirst K (ga K "Test") (.ref (ga K "Test")),
  fun K => tabB K (ga K "_law_right"), fun K => tabB K (ga K "_law_falls"),
  fun K => (Fa.glo "EXCHANGED").ok K, fun K => valsB K (ga K "EXCHANGED") exch, fun K => keysB K (ga K "EXCHANGED") (exch.map (·.1)), fun K => decide (tabAt K (ga K "_law_right") ≠ tabAt K (ga K "_law_falls"))]
/-- what the walk asks of the written part and of the module's names -/
structure Txt (K : Fg) (mg : Str → Option Value) : Prop where
  c : SaysZ fs fn K
  gl : ∀ x, (Fa.glo x).ok K = true → mg x = some (.ref (ga K x))
  fr : ∀ x, (Fa.free x).ok K = true → mg x = none
  nt : ∀ x i, (Fa.int x i).ok K = true → ∃ t, mg x = some (.int i t)
  tx : ∀ x z, (Fa.str x z).ok K = true → ∃ t, mg x = some (.str z t)
section
variable {K : Fg} {mg : Str → Option Value}
theorem Txt.cl (T : Txt K mg) {x : Str} (h : x ∈ clss) : mg x = some (.ref (ga K x)) := T.gl x (of_all (f := fun x => (Fa.glo x).ok K) (T.c.fact 0) h)
theorem Txt.fn (T : Txt K mg) {x : Str} (h : x ∈ fnames) : mg x = some (.ref (ga K x)) := T.gl x (of_all (f := fun x => (Fa.glo x).ok K) (T.c.fact 1) h)
theorem Txt.bl (T : Txt K mg) {x : Str} (h : x ∈ blts) : mg x = none := T.fr x (of_all (f := fun x => (Fa.free x).ok K) (T.c.fact 2) h)
theorem Txt.longest (T : Txt K mg) : ∃ t, mg "LONGEST" = some (.int 8 t) := T.nt _ _ (T.c.fact 3)
theorem Txt.limit (T : Txt K mg) : ∃ t, mg "LIMIT" = some (.int 4 t) := T.nt _ _ (T.c.fact 4)
theorem Txt.letters (T : Txt K mg) : ∃ t, mg "LETTERS" = some (.str K12.letters t) := T.tx _ _ (T.c.fact 5)
theorem Txt.tup (T : Txt K mg) {x : Str} {zs : List Str} (h : (x, zs) ∈ tups) : mg x = some (.ref (ga K x)) ∧ ∀ H, SqT K H (ga K x) (zs.map V.str) := by
  obtain ⟨h1, h2⟩ := ba (List.all_eq_true.mp (T.c.fact 6) (x, zs) h)
  exact ⟨T.gl _ h1, tupB_ok h2⟩
theorem Txt.xc (T : Txt K mg) : XC K (ga K "BadTest") := xc_ok (T.c.fact 7)
theorem Txt.xo (T : Txt K mg) : XO K := xo_ok (T.c.fact 8)
theorem Txt.ini (T : Txt K mg) : PySem.W.findIn K (.ref (ga K "BadTest")) "__init__" = some (some (.ref (ma K (ga K "BadTest") "__init__"))) ∧ PySem.W.typeIn K (.ref (ma K (ga K "BadTest") "__init__")) = some (.type "function") := ini_ok (T.c.fact 9)
theorem Txt.no (T : Txt K mg) {f : Str} (h : f ∈ (["at", "word"] : List Str)) : PySem.W.findIn K (.ref (ga K "BadTest")) f = some none := names_ok (T.c.fact 10) h
theorem Txt.kind (T : Txt K mg) {t : String} (h : t ∈ kinds) : PySem.W.kitOne K (.type t) (.ref (ga K "Test")) = some false := of_decide_eq_true (List.all_eq_true.mp (T.c.fact 11) t h)
theorem Txt.kitTT (T : Txt K mg) : PySem.W.kitOne K (.ref (ga K "Test")) (.ref (ga K "Test")) = some true := kit_ok (T.c.fact 12)
theorem Txt.clsT (T : Txt K mg) : Cls K (ga K "Test") := cls_ok (T.c.fact 13)
theorem Txt.mkT (T : Txt K mg) : Mk K (ga K "Test") (ma K (ga K "Test") "__init__") := mkr_ok (T.c.fact 14)
theorem Txt.naT (T : Txt K mg) : NoAttr K (ga K "Test") "cases" := noat_ok (T.c.fact 15)
theorem Txt.mtT (T : Txt K mg) {m : Str} (h : m ∈ (["turned", "__eq__", "__call__"] : List Str)) : Meth K (ga K "Test") m (ma K (ga K "Test") m) := meth_ok (List.all_eq_true.mp (T.c.fact 16) m h)
theorem Txt.ob (T : Txt K mg) : PySem.W.mroIn K (ga K "Test") (.type "object") = some true ∧ PySem.W.findIn K (.ref (ga K "Test")) "__class__" = some (some (.builtin "object.__class__")) := by
  obtain ⟨a, b⟩ := ba (T.c.fact 17)
  exact ⟨of_decide_eq_true a, eqO_ok b⟩
theorem Txt.nfT (T : Txt K mg) : PySem.W.notFirst K (ga K "Test") (.ref (ga K "Test")) = true := T.c.fact 18
theorem Txt.tab1 (T : Txt K mg) : tabB K (ga K "_law_right") = true := T.c.fact 19
theorem Txt.tab2 (T : Txt K mg) : tabB K (ga K "_law_falls") = true := T.c.fact 20
theorem Txt.gExch (T : Txt K mg) : mg "EXCHANGED" = some (.ref (ga K "EXCHANGED")) := T.gl _ (T.c.fact 21)
theorem Txt.exch (T : Txt K mg) {q : Str × Dv} (h : q ∈ K12.exch) : ∃ u, PySem.W.nsIn K (ga K "EXCHANGED") q.1 = some (some u) ∧ RelV (q.2.v K) u := valsB_ok (T.c.fact 22) h
theorem Txt.tabne (T : Txt K mg) : tabAt K (ga K "_law_right") ≠ tabAt K (ga K "_law_falls") := of_decide_eq_true (T.c.fact 24)
theorem Txt.exchN (T : Txt K mg) {z : Str} (h : z ∉ K12.exch.map (·.1)) : PySem.W.nsIn K (ga K "EXCHANGED") z = some none := keysB_none (T.c.fact 23) h
end
abbrev s_draw : Stmt := topS 33
abbrev N_draw : List Str := ["_law_pen_here", "_law_many", "_law_digit", "_law_at", "_law_cell", "_law_great", "_law_mixed"]
theorem sc_draw : FnScope N_draw ["_law_pen_here", "_law_many"] (defScope s_draw) := ⟨rfl, rfl, rfl, by decide +kernel, rfl, by decide +kernel, by decide +kernel⟩
section
variable {P : Program} {w : World} {K : Fg} {mg : Str → Option Value} {base : Heap}
theorem ok_draw {f : Addr} {fd : FuncData} (F : FnP K "_law_draw" "_law_draw" s_draw f fd) (T : Txt K mg) : FnOk P w K mg base CX0 1 f fd ["_law_pen_here", "_law_many"] spDrawL := by
  have zint : mg "int" = none := T.bl (by decide +kernel)
  have zlen : mg "len" = none := T.bl (by decide +kernel)
  have zabs : mg "abs" = none := T.bl (by decide +kernel)
  refine F.ok sc_draw (fun vs H Q E h => ?_) (fun cdv A outer s H vs Q E hr h => ?_)
  · obtain ⟨p, l, m, c, rfl, _⟩ := h
    rfl
  · obtain ⟨p, l, m, c, rfl, hm0, hm1, ⟨ns, i, g, hp, hl, hlp, hn, hi0, hic, hg0⟩, hc, k⟩ := h
    have hsp : SqL K H p [.ref l, .int i, .int g] := SqL.of hp
    have hsl : SqL K H l (ns.map V.int) := SqL.of hl
    refine ⟨_, PSs.nox (pss_cons (ps_if (pt_cmpR op_gt (pe_ix ix_list (pv 0) pe_int (fun _ _ => rfl)) pe_int (nomark _)) (pss_cons (ps_set (i := 2) sc_draw.nd rfl (Or.inl rfl) (pe_op op_mod (pe_callTy call_int1 (by rfl) zint (by decide +kernel) (pa_cons (pe_ix ix_list (pv 0) pe_int (fun _ _ => rfl)) pa_nil)) (pv 1)))
    (pss_cons (ps_asg (pe_op op_fdiv (pe_callTy call_int1 (by rfl) zint (by decide +kernel) (pa_cons (pe_ix ix_list (pv 0) pe_int (fun _ _ => rfl)) pa_nil)) (pv 1)) (pg_sub (pv 0) pe_int set_list))
    (pss_one (ps_ret (pv 2))))) pss_nil)
    (pss_cons (ps_set (i := 3) sc_draw.nd rfl (Or.inl rfl) (pe_ix ix_list (pv 0) pe_int (fun _ _ => rfl)))
    (pss_cons (ps_asg (pe_op op_add (pv 3) pe_int) (pg_sub (pv 0) pe_int set_list))
    (pss_cons (ps_set (i := 4) sc_draw.nd rfl (Or.inl rfl) (pe_op op_add (pe_op op_mul pe_int (pv 3)) pe_int))
    (pss_mid (ps_if (pt_cmpR (op_neD hr.units) (pe_ix ix_list (pv 0) pe_int (fun _ _ => rfl)) (pe_lst pa_nil) (nomark _)) (pss_one (ps_set (i := 4) sc_draw.nd rfl (Or.inl rfl) (pe_ix ix_list (pe_ix ix_list (pv 0) pe_int (fun _ _ => rfl)) (pe_op op_mod (pe_callTy call_int1 (by rfl) zint (by decide +kernel) (pa_cons (pv 3) pa_nil)) (pe_callB call_len (by rfl) zlen (by decide +kernel) (pa_cons (pe_ix ix_list (pv 0) pe_int (fun _ _ => rfl)) pa_nil))) (fun _ _ => rfl)))) pss_nil)
    (pss_mid (ps_if (PW.pt (pw_and (pt_cmpR op_lt (pv 3) (pe_callB call_len (by rfl) zlen (by decide +kernel) (pa_cons (pe_ix ix_list (pv 0) pe_int (fun _ _ => rfl)) pa_nil)) (nomark _)) (pw_and1 (pt_cmpR op_ge (pe_callB call_abs (by rfl) zabs (by decide +kernel) (pa_cons (pv 4) pa_nil)) (pe_op op_pow pe_int pe_int) (nomark _))))) (pss_cons (ps_set (i := 5) sc_draw.nd rfl (Or.inl rfl) (pe_op op_add (pe_op op_mul pe_int (pe_op op_sub (pe_callB call_abs (by rfl) zabs (by decide +kernel) (pa_cons (pv 4) pa_nil)) (pe_op op_pow pe_int pe_int))) (pe_callTy call_int1 (by rfl) zint (by decide +kernel) (pa_cons (pe_cmpR op_lt (pv 4) pe_int (nomark _)) pa_nil))))
    (pss_cons (ps_asg (pe_op op_fdiv (pe_callTy call_int1 (by rfl) zint (by decide +kernel) (pa_cons (pv 5) pa_nil)) (pv 1)) (pg_sub (pv 0) pe_int set_list))
    (pss_one (ps_ret (pe_op op_mod (pe_callTy call_int1 (by rfl) zint (by decide +kernel) (pa_cons (pv 5) pa_nil)) (pv 1)))))) pss_nil)
    (pss_mid (ps_set (i := 6) sc_draw.nd rfl (Or.inl rfl) (pe_op op_mod (pe_callTy call_int1 (by rfl) zint (by decide +kernel) (pa_cons (pe_op op_pow (pe_op op_add (pe_op op_add (pe_op op_mod (pe_callTy call_int1 (by rfl) zint (by decide +kernel) (pa_cons (pv 4) pa_nil)) pe_int) (pe_op op_mul pe_int (pv 3))) pe_int) pe_int) pa_nil)) pe_int))
    (pss_mid (ps_set (i := 6) sc_draw.nd rfl (Or.inl rfl) (pe_op op_mod (pe_callTy call_int1 (by rfl) zint (by decide +kernel) (pa_cons (pe_op op_pow (pe_op op_add (pe_op op_add (pe_op op_mul (pv 6) (pe_op op_add (pe_op op_mul pe_int (pv 3)) pe_int)) (pe_op op_mul (pe_op op_mul pe_int (pv 3)) (pv 3))) pe_int) pe_int) pa_nil)) pe_int))
    (pss_one (ps_ret (pe_op op_mod (pe_callTy call_int1 (by rfl) zint (by decide +kernel) (pa_cons (pe_op op_fdiv (pv 6) pe_int) pa_nil)) (pv 1)))))))))))), ?_⟩
    -- if pen[2] > 0
    refine ⟨_, rfl, p, _, 2, .int g, rfl, rfl, hsp, rfl, _, _, rfl, rfl, _, rfl, ?_⟩
    refine ite2 (fun hgt => ?_) (fun hle => ?_)
    · refine ⟨_, rfl, p, _, 2, .int g, rfl, rfl, hsp, rfl, .inl ⟨g, rfl, _, rfl, g, m, rfl, rfl, hm0, ?_⟩⟩
      refine ⟨_, rfl, p, _, 2, .int g, rfl, rfl, hsp, rfl, .inl ⟨g, rfl, _, rfl, g, m, rfl, rfl, ⟨hm0, hm1⟩, ?_⟩⟩
      refine ⟨_, rfl, p, _, 2, 2, rfl, rfl, hp, rfl, _, rfl, ?_⟩
      refine k (g % m) _ (Int.emod_nonneg _ (by omega)) (Int.emod_lt_of_pos _ hm0) ⟨ns, i, g / m, upd_same, by rw [upd_ne hlp]; exact hl, hlp, hn, hi0, by omega, Int.ediv_nonneg hg0 (by omega)⟩ But.upd
    · -- at = pen[1]; pen[1] = at + 1; cell = ..
      refine ⟨_, rfl, p, _, 1, .int i, rfl, rfl, hsp, rfl, ?_⟩
      refine ⟨_, rfl, i, 1, rfl, rfl, _, rfl, p, _, 1, 1, rfl, rfl, hp, rfl, ?_⟩
      refine ⟨_, rfl, _, i, rfl, rfl, .inl ⟨by decide, by decide⟩, _, _, rfl, rfl, ?_⟩
      have hp1 : (upd H p (.lst ([V.ref l, .int i, .int g].set 1 (.int (i + 1))))) p = some (.lst [.ref l, .int (i + 1), .int g]) := upd_same
      have hl1 : (upd H p (.lst ([V.ref l, .int i, .int g].set 1 (.int (i + 1))))) l = some (.lst (ns.map V.int)) := by rw [upd_ne hlp]; exact hl
      have b1 : But p H (upd H p (.lst ([V.ref l, .int i, .int g].set 1 (.int (i + 1))))) := But.upd
      generalize upd H p (.lst ([V.ref l, .int i, .int g].set 1 (.int (i + 1)))) = H1 at hp1 hl1 b1 ⊢
      -- if pen[0] != []
      refine ⟨fun σ' H' => ∃ z : Int, σ' = [some (.ref p), some (.int m), none, some (.int i), some (.int z), none, none] ∧ H' p = some (.lst [.ref l, .int (i + 1), .int g]) ∧ H' l = some (.lst (ns.map V.int)) ∧ But p H H', ?_, ?_⟩
      · refine ⟨_, rfl, p, _, 0, .ref l, rfl, rfl, SqL.of hp1, rfl, (by show 0 ≤ sizeLine; decide), fun q hq => ?_⟩
        have hq1 : p ≠ q := ne_of_none hp1 hq
        have hq2 : l ≠ q := ne_of_none hl1 hq
        have hp2 : (upd H1 q (.lst [])) p = some (.lst [.ref l, .int (i + 1), .int g]) := by rw [upd_ne hq1]; exact hp1
        have hl2 : (upd H1 q (.lst [])) l = some (.lst (ns.map V.int)) := by rw [upd_ne hq2]; exact hl1
        have hq3 : (upd H1 q (.lst [])) q = some (.lst []) := upd_same
        have b2 : But p H (upd H1 q (.lst [])) := b1.trans (But.of (same_new hq))
        generalize upd H1 q (.lst []) = H2 at hp2 hl2 hq3 b2 ⊢
        refine ⟨_, _, .lst (SqL.of hl2) (dp_ints ns), .lst (SqL.of hq3) .nil, shaped_ints ns, shaped_ints [], _, rfl, ?_⟩
        refine ite2 (fun hne => ?_) (fun _ => ⟨_, rfl, hp2, hl2, b2⟩)
        have hns : 0 < ns.length := by
          cases ns with
          | nil => exact absurd hne (by decide)
          | cons n r => exact Nat.succ_pos _
        have hz : (0 : Int) < ((ns.map V.int).length : Int) := by rw [List.length_map]; omega
        have j0 := Int.emod_nonneg i (Int.ne_of_gt hz)
        have j1 := Int.emod_lt_of_pos i hz
        obtain ⟨z, ez⟩ : ∃ z, (ns.map V.int)[(i % ((ns.map V.int).length : Int)).toNat]? = some (V.int z) := by
          rw [List.length_map] at j0 j1 ⊢
          have hlt : (i % (ns.length : Int)).toNat < ns.length := by omega
          exact ⟨ns[(i % (ns.length : Int)).toNat], by rw [List.getElem?_map, List.getElem?_eq_getElem hlt]; rfl⟩
        exact ⟨_, rfl, p, _, 0, .ref l, rfl, rfl, SqL.of hp2, rfl, _, rfl, .inl ⟨i, rfl, _, rfl, p, _, 0, .ref l, rfl, rfl, SqL.of hp2, rfl, _, _, rfl, .inl ⟨_, SqL.of hl2, rfl⟩, _, _, rfl, rfl, hz, l, _, _, .int z, rfl, rfl, SqL.of hl2, atI_of j0 ez, _, rfl, hp2, hl2, b2⟩⟩
      · rintro σ2 H2 ⟨z, rfl, hp2, hl2, b2⟩
        -- if at < len(pen[0]) and abs(cell) >= 10 ** 18
        refine ⟨fun σ' H' => σ' = [some (.ref p), some (.int m), none, some (.int i), some (.int z), none, none] ∧ H' = H2, ?_, ?_⟩
        · refine ⟨_, rfl, _, rfl, p, _, 0, .ref l, rfl, rfl, SqL.of hp2, rfl, _, _, rfl, .inl ⟨_, SqL.of hl2, rfl⟩, _, _, rfl, rfl, _, rfl, ?_⟩
          refine ite2 (fun _ => ?_) (fun _ => ⟨rfl, rfl⟩)
          refine ⟨_, rfl, _, rfl, _, _, rfl, rfl, ⟨by decide, by decide, by decide⟩, _, _, rfl, rfl, _, rfl, ?_⟩
          refine ite2 (fun hgr => ?_) (fun _ => ⟨rfl, rfl⟩)
          have hgr' := of_decide_eq_true hgr
          refine ⟨_, rfl, _, rfl, _, _, rfl, rfl, ⟨by decide, by decide, by decide⟩, _, _, rfl, rfl, _, _, rfl, rfl, .inl ⟨by decide, by decide⟩, _, rfl, _, _, rfl, rfl, .inr ⟨_, rfl, _, _, rfl, rfl, ?_⟩⟩
          refine ⟨_, rfl, .inl ⟨_, rfl, _, rfl, _, _, rfl, rfl, ⟨hm0, hm1⟩, _, rfl, p, _, 2, 2, rfl, rfl, hp2, rfl, ?_⟩⟩
          refine ⟨_, rfl, .inl ⟨_, rfl, _, rfl, _, _, rfl, rfl, hm0, ?_⟩⟩
          have hpos : (0 : Int) ≤ 2 * ((if z < 0 then -z else z) - 10 ^ (18 : Int).toNat) + (if decide (z < 0) = true then 1 else 0) := by
            have h2 : (0 : Int) ≤ (if decide (z < 0) = true then 1 else 0) := by split <;> decide
            omega
          exact k _ _ (Int.emod_nonneg _ (Int.ne_of_gt hm0)) (Int.emod_lt_of_pos _ hm0) ⟨ns, i + 1, _, upd_same, by rw [upd_ne hlp]; exact hl2, hlp, hn, by omega, by omega, Int.ediv_nonneg hpos (Int.le_of_lt hm0)⟩ (b2.trans But.upd)
        · rintro σ3 H3 ⟨rfl, rfl⟩
          -- the two mixings
          refine ⟨fun σ' H' => ∃ x : Int, σ' = [some (.ref p), some (.int m), none, some (.int i), some (.int z), none, some (.int x)] ∧ H' = H3 ∧ 0 ≤ x ∧ x < 2147483648, ?_, ?_⟩
          · refine ⟨_, rfl, .inl ⟨_, rfl, _, _, rfl, rfl, (by show (0 : Int) < _; decide), _, rfl, _, _, rfl, rfl, .inl ⟨by decide, by decide⟩, _, _, rfl, rfl, _, _, rfl, rfl, _, _, rfl, rfl, ⟨by decide, by decide, ?_⟩, .inl ⟨_, rfl, _, _, rfl, rfl, (by show (0 : Int) < _; decide), _, rfl, rfl, Int.emod_nonneg _ (by decide), Int.lt_trans (Int.emod_lt_of_pos _ (by decide)) (by decide)⟩⟩⟩
            apply pow_ok <;> omega
          rintro σ4 H4 ⟨x, rfl, rfl, x0, x1⟩
          have hi6 : i ≤ 1000000 := by omega
          have q1 := mul_le' x0 (Int.le_of_lt x1) (show (0 : Int) ≤ 2 * i by omega) (show 2 * i ≤ 2000000 by omega)
          have q2 := mul_le' hi0 hi6 hi0 hi6
          refine ⟨fun σ' H' => ∃ y : Int, σ' = [some (.ref p), some (.int m), none, some (.int i), some (.int z), none, some (.int y)] ∧ H' = H4, ?_, ?_⟩
          · refine ⟨_, rfl, _, rfl, _, _, rfl, rfl, .inl ⟨by decide, by decide⟩, _, _, rfl, rfl, _, _, rfl, rfl, .inl ⟨by omega, by omega⟩, _, rfl, _, _, rfl, rfl, .inl ⟨by decide, by decide⟩, _, rfl, _, _, rfl, rfl, .inl ⟨by omega, by omega⟩, _, _, rfl, rfl, _, _, rfl, rfl, _, _, rfl, rfl, ⟨by decide, by decide, ?_⟩, .inl ⟨_, rfl, _, _, rfl, rfl, (by show (0 : Int) < _; decide), _, rfl, rfl⟩⟩
            rw [Int.mul_add, Int.mul_assoc _ i i]
            apply pow_ok <;> omega
          rintro σ5 H5 ⟨y, rfl, rfl⟩
          refine ⟨_, rfl, _, _, rfl, rfl, ⟨by decide, by decide⟩, .inl ⟨_, rfl, _, rfl, _, _, rfl, rfl, hm0, ?_⟩⟩
          exact k _ _ (Int.emod_nonneg _ (Int.ne_of_gt hm0)) (Int.emod_lt_of_pos _ hm0) ⟨ns, i + 1, g, hp2, hl2, hlp, hn, by omega, by omega, hg0⟩ b2
end
abbrev s_pen : Stmt := topS 32
abbrev N_pen : List Str := ["_law_script"]
theorem sc_pen : FnScope N_pen ["_law_script"] (defScope s_pen) := ⟨rfl, rfl, rfl, by decide +kernel, rfl, by decide +kernel, by decide +kernel⟩
abbrev s_pick : Stmt := topS 34
abbrev N_pick : List Str := ["_law_pen_here", "_law_some"]
theorem sc_pick : FnScope N_pick ["_law_pen_here", "_law_some"] (defScope s_pick) := ⟨rfl, rfl, rfl, by decide +kernel, rfl, by decide +kernel, by decide +kernel⟩
section
variable {P : Program} {w : World} {K : Fg} {mg : Str → Option Value} {base : Heap}
theorem ok_pen {f : Addr} {fd : FuncData} (F : FnP K "_law_pen" "_law_pen" s_pen f fd) (T : Txt K mg) : FnOk P w K mg base CX0 1 f fd ["_law_script"] (spPenL K) := by
  have zlist : mg "list" = none := T.bl (by decide +kernel)
  refine F.ok sc_pen (fun vs H Q E h => ?_) (fun cdv A outer s H vs Q E hr h => ?_)
  · obtain ⟨a, ns, rfl, _⟩ := h
    rfl
  · obtain ⟨a, ns, rfl, hS, hn, k⟩ := h
    obtain ⟨ms, em, hm⟩ := cut_ints ns none (some 63)
    refine ⟨_, PSs.nox (pss_one (ps_ret (pe_lst (pa_cons (pe_callTy call_list_of (by rfl) zlist (by decide +kernel) (pa_cons (pe_slice sl_list (pv 0) po_none (po_some pe_int)) pa_nil)) (pa_cons pe_int (pa_cons pe_int pa_nil)))))), ?_⟩
    refine ⟨_, rfl, _, rfl, a, _, rfl, hS, fun q hq => ⟨q, _, rfl, .inl (SqL.of upd_same), fun l hl => ⟨sz1000 (by show 3 ≤ 1000; decide), fun p hp => ?_⟩⟩⟩
    rw [em] at hl hp ⊢
    have s1 := same_new (o := .lst (ms.map V.int)) hq
    have s2 := same_new (o := .lst (ms.map V.int)) hl
    have s3 := same_new (o := .lst [.ref l, .int 0, .int 0]) hp
    have hl' : (upd (upd H q (.lst (ms.map V.int))) l (.lst (ms.map V.int))) l = some (.lst (ms.map V.int)) := upd_same
    exact k p l _ ((s1.trans s2).free hp) ⟨ms, 0, 0, upd_same, s3 _ _ hl', ne_of_none hl' hp, by omega, by decide, by decide, by decide⟩ ((s1.trans s2).trans s3)
theorem ok_pick {f fD : Addr} {fd fdD : FuncData} (F : FnP K "_law_pick" "_law_pick" s_pick f fd) (FD : FnP K "_law_draw" "_law_draw" s_draw fD fdD) (gD : mg "_law_draw" = some (.ref fD)) (T : Txt K mg) : FnOk P w K mg base CX0 2 f fd ["_law_pen_here", "_law_some"] (spPickL K) := by
  have zlen : mg "len" = none := T.bl (by decide +kernel)
  have G_draw : FnOk P w K mg base CX0 1 fD fdD ["_law_pen_here", "_law_many"] spDrawL := ok_draw FD T
  have b_draw : Binds K fdD ["_law_pen_here", "_law_many"] [] := FD.bindsN fun _ _ _ _ _ _ us hl => match us, hl with | [_, _], _ => rfl
  refine F.ok sc_pick (fun vs H Q E h => ?_) (fun cdv A outer s H vs Q E hr h => ?_)
  · obtain ⟨p, l, q, xs, c, rfl, _⟩ := h
    rfl
  · obtain ⟨p, l, q, xs, c, rfl, hS, hqp, hx0, hx1, hP, hc, k⟩ := h
    refine ⟨_, PSs.nox (pss_one (ps_ret (pe_ix ix_list (pv 1) (pe_call G_draw (hr.mono (by decide)) rfl gD FD.kp b_draw .nil pass0 (pa_cons (pv 0) (pa_cons (pe_callB call_len (by rfl) zlen (by decide +kernel) (pa_cons (pv 1) pa_nil)) pa_nil))) (fun _ _ => rfl)))), ?_⟩
    refine ⟨_, rfl, _, rfl, _, rfl, _, _, rfl, .inl ⟨xs, hS, rfl⟩, p, l, (xs.length : Int), c, rfl, by omega, by omega, hP, hc, fun r H' h0 h1 hP' hB => ?_⟩
    have hlt : r.toNat < xs.length := by omega
    exact ⟨q, xs, r, _, rfl, rfl, hB.seq hqp hS, atI_of h0 (List.getElem?_eq_getElem hlt), k _ H' (List.getElem_mem hlt) hP' hB⟩
end
end K12
namespace Tw
open PySem PySem.Spec PyProof.Rows L2 He
/-- t + u, a tuple of both -/
def rCatU (K : Fg) : R2 := fun x y H Q => ∃ a b xs ys, x = .ref a ∧ y = .ref b ∧ SqT K H a xs ∧ SqT K H b ys ∧ xs.length + ys.length ≤ sizeLine ∧ ∀ (c : Addr) (H' : Hp), Same H H' → SqT K H' c (xs ++ ys) → Q (.ref c) H'
theorem op_catU {X : Cx} : OpR X (binaryOp .Add) (rCatU X.K) := by
  intro pins s σ H x y v u Q I rx ry h
  obtain ⟨a, b, xs, ys, e1, e2, ha, hb, hz, q⟩ := h
  have rf : Same H H := fun _ _ e => e
  refine op_catA pins s σ H x y v u Q I rx ry ⟨a, b, xs, ys, e1, e2, ha, hb, hz, fun z => ?_, fun _ z => ?_, fun _ _ p hp => q p _ (same_new hp) (SqT.of upd_same)⟩
  · subst z
    exact q b H rf hb
  · subst z
    refine q a H rf ?_
    rw [List.append_nil]
    exact ha
end Tw
namespace K12
open PySem PySem.Spec PyProof.Rows L2 He Tw
def textOk (z : Str) : Bool := decide (z.length ≤ 8) && z.cps.toList.all fun c => decide (c ∈ letters.cps.toList)
def nameOk : V → Bool
  | .str z => textOk z
  | _ => false
/-- a text that is one of these -/
def among (zs : List Str) : V → Bool
  | .str z => decide (z ∈ zs)
  | _ => false
def flagOk (x : V) : Bool := nameOk x && (!decide (x = .str "") && !among reserved x)
def singleOk (x : V) : Bool := flagOk x || among (sides ++ orders) x
def wordOk (x : V) : Bool := singleOk x || among news x
/-- a def of one value that answers yes or no -/
def spOk (f : V → Bool) : Sp := fun vs H Q _ => ∃ (x : V) (T : String), vs = [x] ∧ Bv H x T ∧ (∀ z, x = .str z → z.length ≤ 1000) ∧ ∀ H', Same H H' → Q (.bl (f x)) H'
abbrev spLet : Sp := spOk nameOk
theorem bvUp {H H' : Hp} {x : V} {T : String} (s : Same H H') : Bv H x T → Bv H' x T
  | .non => .non
  | .bl b => .bl b
  | .int i => .int i
  | .str z => .str z
  | .lst h => .lst (s _ _ h)
  | .tup h => .tup (s _ _ h)
  | .dK h => .dK (s _ _ h)
theorem inV_strs (z : Str) (ms : List Str) : inV (.str z) (ms.map V.str) = decide (z ∈ ms) := by
  unfold inV
  induction ms with
  | nil => rfl
  | cons m ms ih =>
    rw [List.map_cons, List.any_cons, ih]
    show (decide (m = z) || _) = _
    by_cases e : m = z
    · have h2 : decide (z ∈ m :: ms) = true := decide_eq_true (by rw [e]; exact List.mem_cons_self)
      rw [decide_eq_true e, h2]
      rfl
    · rw [decide_eq_false e, Bool.false_or]
      refine decide_eq_decide.mpr ?_
      rw [List.mem_cons]
      exact ⟨.inr, fun z => z.elim (fun y => absurd y.symm e) id⟩
theorem all_strs (ms : List Str) : (ms.map V.str).all flatV = true := by
  induction ms with
  | nil => rfl
  | cons m ms ih => rw [List.map_cons, List.all_cons, ih]; rfl
abbrev s_let : Stmt := topS 14
abbrev N_let : List Str := ["value", "sign"]
theorem sc_let : FnScope N_let ["value"] (defScope s_let) := ⟨rfl, rfl, rfl, by decide +kernel, rfl, by decide +kernel, by decide +kernel⟩
def inL (c : Nat) : Bool := decide (c ∈ letters.cps.toList)
theorem all_bl (l : List Nat) : ((l.map inL).all id) = l.all inL := by
  induction l with
  | nil => rfl
  | cons c r ih => rw [List.map_cons, List.all_cons, List.all_cons, ih]; rfl
section
variable {P : Program} {w : World} {K : Fg} {mg : Str → Option Value} {base : Heap}
theorem ok_let {f : Addr} {fd : FuncData} (F : FnP K "is_lettered" "is_lettered" s_let f fd) (T : Txt K mg) : FnOk P w K mg base CX0 1 f fd ["value"] spLet := by
  have zisi : mg "isinstance" = none := T.bl (by decide +kernel)
  have zstr : mg "str" = none := T.bl (by decide +kernel)
  have zlen : mg "len" = none := T.bl (by decide +kernel)
  have zall : mg "all" = none := T.bl (by decide +kernel)
  obtain ⟨tL, gL⟩ := T.longest
  obtain ⟨tS, gS⟩ := T.letters
  refine F.ok sc_let (fun vs H Q E h => ?_) (fun cdv A outer s H vs Q E hr h => ?_)
  · obtain ⟨x, t, rfl, _⟩ := h
    rfl
  · obtain ⟨x, t, rfl, b, hz, k⟩ := h
    refine ⟨_, PSs.nox (pss_cons (ps_if (PW.pt (pw_or (pt_not (pt_val (pe_callB call_isA (by rfl) zisi (by decide +kernel) (pa_cons (pv 0) (pa_cons (pe_bltn (v := .ty "str") (by rfl) zstr (by decide +kernel) rfl) pa_nil))))) (pw_or1 (pt_cmpR op_gt (pe_callB call_len (by rfl) zlen (by decide +kernel) (pa_cons (pv 0) pa_nil)) (pe_glob (v := .int 8) rfl gL ⟨_, rfl⟩) (nomark _))))) (pss_one (ps_ret pe_bl)) pss_nil)
    (pss_one (ps_ret (pe_callB (cr_all rfl) (by rfl) zall (by decide +kernel) (pa_cons (pe_lc (own := [("sign", 1)]) (g := gName 1) (tt := tYes) (by rfl) sc_let.nd (pi_str (pv 0)) (blkOk_by (own := [("sign", 1)]) (N := N_let) (sc := defScope s_let) (by decide +kernel)) (fun _ _ _ _ _ => (pg_name (i := 1) sc_let.nd rfl (Or.inl rfl))) (fun _ _ _ _ _ => pts_nil) (fun _ _ _ _ _ => (pe_cmpR op_in_sign (pv 1) (pe_glob (v := .str letters) rfl gS ⟨_, rfl⟩) rfl))) pa_nil))))), ?_⟩
    obtain ⟨k1, k2, k3⟩ := b.kits (K := K)
    refine ⟨_, rfl, x, .ty "str", _, _, _, rfl, .ty "str", .inl b.ty, k1, _, rfl, ?_⟩
    cases x with
    | str z =>
      have hl := hz z rfl
      refine ⟨_, rfl, _, _, rfl, ⟨Nat.le_trans hl (by decide), rfl⟩, _, _, rfl, rfl, _, rfl, ?_⟩
      refine ite2 (fun h => ?_) (fun h => ?_)
      · have h2 : ¬ z.length ≤ 8 := by
          have := of_decide_eq_true h
          omega
        have e : nameOk (.str z) = false := by
          show (decide (z.length ≤ 8) && _) = false
          rw [decide_eq_false h2, Bool.false_and]
        rw [e] at k
        exact k H fun _ _ q => q
      · have h2 : z.length ≤ 8 := by
          have h3 : ¬ (8 : Int) < (z.length : Int) := fun y => h (decide_eq_true y)
          omega
        have e : nameOk (.str z) = z.cps.toList.all inL := by
          show (decide (z.length ≤ 8) && _) = _
          rw [decide_eq_true h2, Bool.true_and]
          rfl
        rw [e] at k
        refine ⟨_, rfl, z, rfl, fun D hD => lcStr (fun i H' => Same H H' ∧ H' D = some (.lst (((z.cps.toList.take i).map inL).map V.bl))) ⟨same_new hD, upd_same⟩ ?_ ?_⟩
        · rintro i c H' hc ⟨sD, gD⟩
          refine ⟨rfl, _, rfl, c, letters, rfl, rfl, _, gD, ?_, ?_, ?_⟩
          · rw [List.length_map, List.length_map]
            exact Nat.lt_of_le_of_lt (List.length_take_le' _ _) (Nat.lt_of_le_of_lt (show z.cps.toList.length ≤ 8 from h2) (by decide))
          · exact fun b o hb => by
              rw [upd_ne (ne_of_none hb hD)]
              exact sD b o hb
          · have hc2 : z.cps.toList[i]? = some c := by rw [Array.getElem?_toList]; exact hc
            rw [upd_same, List.take_add_one, hc2, List.map_append, List.map_append]
            rfl
        · rintro H' ⟨sD, gD⟩
          have e2 : z.cps.toList.take z.cps.size = z.cps.toList := List.take_of_length_le (Nat.le_of_eq (by simp))
          rw [e2] at gD
          refine ⟨D, _, rfl, SqL.of gD, ?_⟩
          rw [all_bl]
          exact k H' sD
    | _ => exact k H fun _ _ q => q
end
abbrev s_flag : Stmt := topS 15
abbrev s_single : Stmt := topS 16
abbrev s_word : Stmt := topS 17
theorem sc_flag : FnScope ["value"] ["value"] (defScope s_flag) := ⟨rfl, rfl, rfl, by decide +kernel, rfl, by decide +kernel, by decide +kernel⟩
theorem sc_single : FnScope ["value"] ["value"] (defScope s_single) := ⟨rfl, rfl, rfl, by decide +kernel, rfl, by decide +kernel, by decide +kernel⟩
theorem sc_word : FnScope ["value"] ["value"] (defScope s_word) := ⟨rfl, rfl, rfl, by decide +kernel, rfl, by decide +kernel, by decide +kernel⟩
section
variable {P : Program} {w : World} {K : Fg} {mg : Str → Option Value} {base : Heap}
theorem ok_flag {f fL : Addr} {fd fdL : FuncData} (F : FnP K "is_flag_name" "is_flag_name" s_flag f fd) (FL : FnP K "is_lettered" "is_lettered" s_let fL fdL) (gL : mg "is_lettered" = some (.ref fL)) (T : Txt K mg) : FnOk P w K mg base CX0 2 f fd ["value"] (spOk flagOk) := by
  have GL : FnOk P w K mg base CX0 1 fL fdL ["value"] spLet := ok_let FL T
  have bL : Binds K fdL ["value"] [] := FL.bindsN fun _ _ _ _ _ _ us hl => match us, hl with | [_], _ => rfl
  obtain ⟨gR, hR⟩ := T.tup (x := "RESERVED") (zs := reserved) (by decide +kernel)
  refine F.ok sc_flag (fun vs H Q E h => ?_) (fun cdv A outer s H vs Q E hr h => ?_)
  · obtain ⟨x, t, rfl, _⟩ := h
    rfl
  · obtain ⟨x, t, rfl, b, hz, k⟩ := h
    refine ⟨_, PSs.nox (pss_one (ps_ret (pe_and (pe_call GL (hr.mono (by decide)) rfl gL FL.kp bL .nil pass0 (pa_cons (pv 0) pa_nil)) (pe_and (pe_cmpR op_ne (pv 0) pe_str (nomark _)) (pe_one (pe_cmpR op_notIn_seq (pv 0) (pe_glob (v := .ref (ga K "RESERVED")) rfl gR rfl) rfl)))))), ?_⟩
    refine ⟨_, rfl, x, t, rfl, b, hz, fun H1 s1 => ?_⟩
    refine ⟨_, rfl, ?_⟩
    unfold flagOk at k
    refine ite2 (fun hn => ?_) (fun hn => ?_)
    · rw [hn, Bool.true_and] at k
      cases x with
      | str z =>
        refine ⟨_, rfl, rfl, _, rfl, ?_⟩
        refine ite2 (fun h0 => ?_) (fun h0 => ?_)
        · rw [h0, Bool.true_and] at k
          refine ⟨_, rfl, ga K "RESERVED", _, rfl, .inr (hR H1), rfl, all_strs _, ?_⟩
          rw [if_pos rfl, inV_strs]
          exact k H1 s1
        · rw [Bool.eq_false_iff.mpr h0, Bool.false_and] at k
          exact k H1 s1
      | _ => cases hn
    · rw [Bool.eq_false_iff.mpr hn, Bool.false_and] at k
      exact k H1 s1
theorem ok_single {f fL fF : Addr} {fd fdL fdF : FuncData} (F : FnP K "is_single_word" "is_single_word" s_single f fd) (FF : FnP K "is_flag_name" "is_flag_name" s_flag fF fdF) (gF : mg "is_flag_name" = some (.ref fF)) (FL : FnP K "is_lettered" "is_lettered" s_let fL fdL) (gL : mg "is_lettered" = some (.ref fL)) (T : Txt K mg) : FnOk P w K mg base CX0 3 f fd ["value"] (spOk singleOk) := by
  have zisi : mg "isinstance" = none := T.bl (by decide +kernel)
  have zstr : mg "str" = none := T.bl (by decide +kernel)
  have GF : FnOk P w K mg base CX0 2 fF fdF ["value"] (spOk flagOk) := ok_flag FF FL gL T
  have bF : Binds K fdF ["value"] [] := FF.bindsN fun _ _ _ _ _ _ us hl => match us, hl with | [_], _ => rfl
  obtain ⟨gS, hS⟩ := T.tup (x := "SIDES") (zs := sides) (by decide +kernel)
  obtain ⟨gO, hO⟩ := T.tup (x := "ORDERS") (zs := orders) (by decide +kernel)
  refine F.ok sc_single (fun vs H Q E h => ?_) (fun cdv A outer s H vs Q E hr h => ?_)
  · obtain ⟨x, t, rfl, _⟩ := h
    rfl
  · obtain ⟨x, t, rfl, b, hz, k⟩ := h
    refine ⟨_, PSs.nox (pss_one (ps_ret (pe_or (pe_call GF (hr.mono (by decide)) rfl gF FF.kp bF .nil pass0 (pa_cons (pv 0) pa_nil)) (pe_one (pe_and (pe_callB call_isA (by rfl) zisi (by decide +kernel) (pa_cons (pv 0) (pa_cons (pe_bltn (v := .ty "str") (by rfl) zstr (by decide +kernel) rfl) pa_nil))) (pe_one (pe_cmpR op_in_seq (pv 0) (pe_op op_catU (pe_glob (v := .ref (ga K "SIDES")) rfl gS rfl) (pe_glob (v := .ref (ga K "ORDERS")) rfl gO rfl)) rfl))))))), ?_⟩
    refine ⟨_, rfl, x, t, rfl, b, hz, fun H1 s1 => ?_⟩
    refine ⟨_, rfl, ?_⟩
    unfold singleOk at k
    refine ite2 (fun hn => ?_) (fun hn => ?_)
    · rw [hn, Bool.true_or] at k
      exact k H1 s1
    · rw [Bool.eq_false_iff.mpr hn, Bool.false_or] at k
      have b1 := bvUp s1 b
      obtain ⟨k1, _, _⟩ := b1.kits (K := K)
      refine ⟨_, rfl, x, .ty "str", _, _, _, rfl, .ty "str", .inl b1.ty, k1, _, rfl, ?_⟩
      cases x with
      | str z =>
        refine ⟨_, rfl, ga K "SIDES", ga K "ORDERS", _, _, rfl, rfl, hS H1, hO H1, sz1000 (by decide), fun c H2 s2 g2 => ?_⟩
        refine ⟨c, (sides ++ orders).map V.str, rfl, .inr (by rw [List.map_append]; exact g2), rfl, all_strs _, ?_⟩
        rw [if_neg (by decide), inV_strs]
        exact k H2 (s1.trans s2)
      | _ => exact k H1 s1
theorem ok_word {f fL fF fS : Addr} {fd fdL fdF fdS : FuncData} (F : FnP K "is_word" "is_word" s_word f fd) (FS : FnP K "is_single_word" "is_single_word" s_single fS fdS) (gSw : mg "is_single_word" = some (.ref fS)) (FF : FnP K "is_flag_name" "is_flag_name" s_flag fF fdF) (gF : mg "is_flag_name" = some (.ref fF)) (FL : FnP K "is_lettered" "is_lettered" s_let fL fdL) (gL : mg "is_lettered" = some (.ref fL)) (T : Txt K mg) : FnOk P w K mg base CX0 4 f fd ["value"] (spOk wordOk) := by
  have zisi : mg "isinstance" = none := T.bl (by decide +kernel)
  have zstr : mg "str" = none := T.bl (by decide +kernel)
  have GS : FnOk P w K mg base CX0 3 fS fdS ["value"] (spOk singleOk) := ok_single FS FF gF FL gL T
  have bS : Binds K fdS ["value"] [] := FS.bindsN fun _ _ _ _ _ _ us hl => match us, hl with | [_], _ => rfl
  obtain ⟨gN, hN⟩ := T.tup (x := "NEWS") (zs := news) (by decide +kernel)
  refine F.ok sc_word (fun vs H Q E h => ?_) (fun cdv A outer s H vs Q E hr h => ?_)
  · obtain ⟨x, t, rfl, _⟩ := h
    rfl
  · obtain ⟨x, t, rfl, b, hz, k⟩ := h
    refine ⟨_, PSs.nox (pss_one (ps_ret (pe_or (pe_call GS (hr.mono (by decide)) rfl gSw FS.kp bS .nil pass0 (pa_cons (pv 0) pa_nil)) (pe_one (pe_and (pe_callB call_isA (by rfl) zisi (by decide +kernel) (pa_cons (pv 0) (pa_cons (pe_bltn (v := .ty "str") (by rfl) zstr (by decide +kernel) rfl) pa_nil))) (pe_one (pe_cmpR op_in_seq (pv 0) (pe_glob (v := .ref (ga K "NEWS")) rfl gN rfl) rfl))))))), ?_⟩
    refine ⟨_, rfl, x, t, rfl, b, hz, fun H1 s1 => ?_⟩
    refine ⟨_, rfl, ?_⟩
    unfold wordOk at k
    refine ite2 (fun hn => ?_) (fun hn => ?_)
    · rw [hn, Bool.true_or] at k
      exact k H1 s1
    · rw [Bool.eq_false_iff.mpr hn, Bool.false_or] at k
      have b1 := bvUp s1 b
      obtain ⟨k1, _, _⟩ := b1.kits (K := K)
      refine ⟨_, rfl, x, .ty "str", _, _, _, rfl, .ty "str", .inl b1.ty, k1, _, rfl, ?_⟩
      cases x with
      | str z =>
        refine ⟨_, rfl, ga K "NEWS", news.map V.str, rfl, .inr (hN H1), rfl, all_strs _, ?_⟩
        rw [if_neg (by decide), inV_strs]
        exact k H1 s1
      | _ => exact k H1 s1
end
end K12
namespace K12
open PySem PySem.Spec PyProof.Rows L2 He Tw
theorem bvTup {K : Fg} {H : Hp} {x : V} {T : String} (h : Bv H x T) : PySem.W.kitOne K (.type T) (.type "tuple") = some (decide (T = "tuple")) := by
  cases h with
  | non => exact kit_ty (r := false) (by decide +kernel)
  | bl b => exact kit_ty (r := false) (by decide +kernel)
  | int i => exact kit_ty (r := false) (by decide +kernel)
  | str z => exact kit_ty (r := false) (by decide +kernel)
  | lst h => exact kit_ty (r := false) (by decide +kernel)
  | tup h => exact kit_ty (r := true) (by decide +kernel)
  | dK h => exact kit_ty (r := false) (by decide +kernel)
/-- a value, and whether it is a pair of a test -/
inductive PairV (H : Hp) : V → Bool → Prop where
  | other {v : V} {T : String} (h : Bv H v T) (n : T ≠ "tuple") : PairV H v false
  | tup {t : Addr} {xs : List V} (h : H t = some (.tup xs)) (n : xs.length ≠ 2) (l : xs.length ≤ 1000) : PairV H (.ref t) false
  | two {t : Addr} {a b : V} {Ta Tb : String} (h : H t = some (.tup [a, b])) (ha : Bv H a Ta) (hb : Bv H b Tb) (l : ∀ z, b = .str z → z.length ≤ 1000) : PairV H (.ref t) (isB a && wordOk b)
theorem PairV.up {H H' : Hp} {v : V} {o : Bool} (s : Same H H') : PairV H v o → PairV H' v o
  | .other h n => .other (bvUp s h) n
  | .tup h n l => .tup (s _ _ h) n l
  | .two h ha hb l => .two (s _ _ h) (bvUp s ha) (bvUp s hb) l
def spPair : Sp := fun vs H Q _ => ∃ (v : V) (o : Bool), vs = [v] ∧ PairV H v o ∧ ∀ H', Same H H' → Q (.bl o) H'
abbrev s_pair : Stmt := topS 23
theorem sc_pair : FnScope ["value"] ["value"] (defScope s_pair) := ⟨rfl, rfl, rfl, by decide +kernel, rfl, by decide +kernel, by decide +kernel⟩
/-- the defs of words, where they stand -/
structure Wds (K : Fg) (mg : Str → Option Value) (fd : Nat → FuncData) : Prop where
  let_ : FnP K "is_lettered" "is_lettered" s_let (ga K "is_lettered") (fd 4)
  flag : FnP K "is_flag_name" "is_flag_name" s_flag (ga K "is_flag_name") (fd 5)
  single : FnP K "is_single_word" "is_single_word" s_single (ga K "is_single_word") (fd 6)
  word : FnP K "is_word" "is_word" s_word (ga K "is_word") (fd 7)
abbrev DefsK (K : Fg) (fd : Nat → FuncData) : Prop := DefsA fn K fd
section
variable {P : Program} {w : World} {K : Fg} {mg : Str → Option Value} {base : Heap} {fd : Nat → FuncData}
theorem G_word (D : DefsK K fd) (T : Txt K mg) : FnOk P w K mg base CX0 4 (ga K "is_word") (fd 7) ["value"] (spOk wordOk) :=
  ok_word (D 7 _ rfl) (D 6 _ rfl) (T.fn (x := "is_single_word") (by decide +kernel)) (D 5 _ rfl) (T.fn (x := "is_flag_name") (by decide +kernel)) (D 4 _ rfl) (T.fn (x := "is_lettered") (by decide +kernel)) T
theorem G_pair (D : DefsK K fd) (T : Txt K mg) : FnOk P w K mg base CX0 5 (ga K "is_pair") (fd 10) ["value"] spPair := by
  have zisi : mg "isinstance" = none := T.bl (by decide +kernel)
  have ztup : mg "tuple" = none := T.bl (by decide +kernel)
  have zbool : mg "bool" = none := T.bl (by decide +kernel)
  have zlen : mg "len" = none := T.bl (by decide +kernel)
  have gW := T.fn (x := "is_word") (by decide +kernel)
  have FW : FnP K "is_word" "is_word" s_word (ga K "is_word") (fd 7) := D 7 _ rfl
  have GW : FnOk P w K mg base CX0 4 (ga K "is_word") (fd 7) ["value"] (spOk wordOk) := G_word D T
  have bW : Binds K (fd 7) ["value"] [] := FW.bindsN fun _ _ _ _ _ _ us hl => match us, hl with | [_], _ => rfl
  have F : FnP K "is_pair" "is_pair" s_pair (ga K "is_pair") (fd 10) := D 10 _ rfl
  refine F.ok sc_pair (fun vs H Q E h => ?_) (fun cdv A outer s H vs Q E hr h => ?_)
  · obtain ⟨v, o, rfl, _⟩ := h
    rfl
  · obtain ⟨v, o, rfl, pv0, k⟩ := h
    refine ⟨_, PSs.nox (pss_cons (ps_if (PW.pt (pw_or (pt_not (pt_val (pe_callB call_isA (by rfl) zisi (by decide +kernel) (pa_cons (pv 0) (pa_cons (pe_bltn (v := .ty "tuple") (by rfl) ztup (by decide +kernel) rfl) pa_nil))))) (pw_or1 (pt_cmpR op_ne (pe_callB call_len (by rfl) zlen (by decide +kernel) (pa_cons (pv 0) pa_nil)) pe_int (nomark _))))) (pss_one (ps_ret pe_bl)) pss_nil)
    (pss_one (ps_ret (pe_and (pe_callB call_isA (by rfl) zisi (by decide +kernel) (pa_cons (pe_ix ix_tup (pv 0) pe_int (fun _ _ => rfl)) (pa_cons (pe_bltn (v := .ty "bool") (by rfl) zbool (by decide +kernel) rfl) pa_nil))) (pe_one (pe_call GW (hr.mono (by decide)) rfl gW FW.kp bW .nil pass0 (pa_cons (pe_ix ix_tup (pv 0) pe_int (fun _ _ => rfl)) pa_nil))))))), ?_⟩
    cases pv0 with
    | other h n =>
      refine ⟨_, rfl, v, .ty "tuple", _, _, false, rfl, .ty "tuple", .inl h.ty, by rw [bvTup h, decide_eq_false n], _, rfl, ?_⟩
      exact k H fun _ _ z => z
    | @tup t xs h n l =>
      refine ⟨_, rfl, .ref t, .ty "tuple", _, _, true, rfl, .ty "tuple", .inl (Bv.tup h).ty, bvTup (.tup h), _, rfl, ?_⟩
      refine ⟨_, rfl, _, _, rfl, .inr ⟨_, SqT.of h, rfl⟩, rfl, _, rfl, ?_⟩
      refine ite2 (fun _ => k H fun _ _ z => z) (fun hz => ?_)
      refine absurd ?_ hz
      have : decide (V.int (xs.length : Nat) = V.int 2) = false := decide_eq_false fun e => n (by injection e with e; omega)
      rw [this]
      rfl
    | @two t a b Ta Tb h ha hb l =>
      refine ⟨_, rfl, .ref t, .ty "tuple", _, _, true, rfl, .ty "tuple", .inl (Bv.tup h).ty, bvTup (.tup h), _, rfl, ?_⟩
      refine ⟨_, rfl, _, _, rfl, .inr ⟨_, SqT.of h, rfl⟩, rfl, _, rfl, ?_⟩
      refine iteF ?_
      obtain ⟨_, kb, _⟩ := ha.kits (K := K)
      refine ⟨_, rfl, t, _, 0, a, rfl, rfl, SqT.of h, rfl, a, .ty "bool", _, _, isB a, rfl, .ty "bool", .inl ha.ty, kb, _, rfl, ?_⟩
      refine ite2 (fun hz => ?_) (fun hz => ?_)
      · rw [hz, Bool.true_and] at k
        exact ⟨_, rfl, t, _, 1, b, rfl, rfl, SqT.of h, rfl, b, Tb, rfl, hb, l, fun H1 s1 => k H1 s1⟩
      · rw [Bool.eq_false_iff.mpr hz, Bool.false_and] at k
        exact k H fun _ _ z => z
end
end K12
namespace K12
open PySem PySem.Spec PyProof.Rows L2 He Tw
/-- an error with two fields -/
def spIni2 (C : Addr) (f g : Str) : Sp := fun vs H Q _ => ∃ (a : Addr) (v u : V), vs = [.ref a, v, u] ∧ H a = some (exo a C none) ∧ ∀ (d : Addr) (H' : Hp), H d = none → d ≠ a → H' a = some (exo a C (some d)) → H' d = some (exd d [(g, u), (f, v)]) → But a H H' → Q .non H'
abbrev s_bad : Stmt := inClass (topS 4) 0
theorem sc_bad : FnScope ["self", "at", "word"] ["self", "at", "word"] (defScope s_bad) := ⟨rfl, rfl, rfl, by decide +kernel, rfl, by decide +kernel, by decide +kernel⟩
section
variable {P : Program} {w : World} {K : Fg} {mg : Str → Option Value} {base : Heap} {fd : Nat → FuncData}
theorem ok_bad (D : DefsK K fd) (T : Txt K mg) : FnOk P w K mg base CX0 1 (ma K (ga K "BadTest") "__init__") (fd 0) ["self", "at", "word"] (spIni2 (ga K "BadTest") "at" "word") := by
  have F : FnP K "__init__" "BadTest.__init__" s_bad (ma K (ga K "BadTest") "__init__") (fd 0) := D 0 _ rfl
  refine F.ok sc_bad (fun vs H Q E h => ?_) (fun cdv A outer s H vs Q E hr h => ?_)
  · obtain ⟨a, v, u, rfl, _⟩ := h
    rfl
  · obtain ⟨a, v, u, rfl, ha, k⟩ := h
    refine ⟨_, PSs.nox (pss_cons (ps_ost (pv 0) (pv 1)) (pss_one (ps_ost (pv 0) (pv 2)))), ?_⟩
    refine ⟨_, rfl, _, rfl, a, _, rfl, T.xc.ox, T.no (by decide +kernel), .inl ⟨ha, fun d hd hda => ?_⟩⟩
    refine ⟨_, rfl, _, rfl, a, _, rfl, T.xc.ox, T.no (by decide +kernel), .inr ?_⟩
    refine ⟨d, _, upd_same, by rw [upd_ne hda]; exact upd_same, (by show 1 ≤ 900; decide), k d _ hd hda ?_ ?_ fun b o hb hba => ?_⟩
    · rw [upd_ne hda.symm]
      exact upd_same
    · exact upd_same
    · rw [upd_ne (ne_of_none hb hd), upd_ne hba, upd_ne (ne_of_none hb hd)]
      exact hb
end
end K12
/-! Tw: for i, x in enumerate(v), v a list or a tuple. -/
namespace Tw
open PySem PySem.Spec PyProof.Rows L2 He
section
variable {X : Cx}
/-- for i, x in enumerate(v): v a list or a tuple -/
def iEnumT (K : PySem.W.Frag) (ta : TA) : TI := fun σ H R => ta σ H fun vs H1 => ∃ a, vs = [.ref a] ∧ (((∃ xs, SqL K H1 a xs) ∧ R (IteG fun H xs => SqL K H a xs) H1) ∨ ((∃ xs, SqT K H1 a xs) ∧ R (IteG fun H xs => SqT K H a xs) H1))
theorem pi_enumT {e : Expr} {ta : TA} {p pos tpos : Pos} {elts : List Expr} {kk : Nat}
    (hg : Gl X "enumerate") (hm : X.mg "enumerate" = none) (ha : PA X [e] ta) (hst : starEach [e] X.env = [(false, eval e X.env)] := by rfl) : PI X (.Tuple elts kk tpos) (.Call (.Name "enumerate" p) [e] [] pos) (iEnumT X.K ta) := by
  refine ⟨fun pins s σ H R I h => Call_ (ld_blt I hg hm boot_enumerate (PyProof.Rows.callWith_type1 (thn (ha.run pos pins s σ H _ I h) fun us s1 ⟨vs, H1, I1, r1, q1⟩ => ?_) hst rfl))⟩
  obtain ⟨a, ex, q1⟩ := q1
  subst ex
  obtain ⟨u, rfl, ru⟩ := vals1 r1
  cases (show u = Value.ref a from ru)
  refine enum_call ?_
  have push : ∀ {s2 : Shared} {it : Addr}, (∀ b o, s2.heap.get? b = some o → (s2.heap.push (enumO it)).get? b = some o) := fun b o z => Heap.get?_push_of_some _ z
  have isE : ∀ {s2 : Shared} {it : Addr}, IsEnum (s2.heap.push (enumO it)) s2.heap.objs.size it ((0 : Nat) : Int) .none := fun {s2 it} => Heap.get?_push_size _ rfl
  rcases q1 with ⟨⟨xs, hq⟩, q⟩ | ⟨⟨xs, hq⟩, q⟩
  · obtain ⟨its, rv, pl, hz⟩ := I1.list hq
    refine wpAny_pyIter_list pl.isList ⟨_, rfl, ?_⟩
    have I2 : Inv X pins σ H1 { s1 with heap := s1.heap.push { cls := .type "list_iterator", data := .fields #[.ref a, .int 0 0] } } := I1.kept (t' := s1.toks) fun b o z => Heap.get?_push_of_some _ z
    have I3 : Inv X pins σ H1 { s1 with heap := (s1.heap.push { cls := .type "list_iterator", data := .fields #[.ref a, .int 0 0] }).push (enumO s1.heap.objs.size) } := I2.kept (t' := s1.toks) push
    have hz2 : (s1.heap.push { cls := .type "list_iterator", data := .fields #[.ref a, .int 0 0] }).objs.size = s1.heap.objs.size + 1 := Heap.size_push ..
    have hne : (s1.heap.push { cls := .type "list_iterator", data := .fields #[.ref a, .int 0 0] }).objs.size ≠ s1.heap.objs.size := by omega
    have itr : ((s1.heap.push { cls := .type "list_iterator", data := .fields #[.ref a, .int 0 0] }).push (enumO s1.heap.objs.size)).IsListIter s1.heap.objs.size a 0 := ⟨_, Heap.get?_push_of_some _ (Heap.get?_push_size _ rfl), rfl, rfl⟩
    refine wpAny_pyIter_enum isE ⟨_, [_, s1.heap.objs.size], _, _, H1, rfl, I3, turnL a _ s1.heap.objs.size, ⟨⟨.none, isE⟩, itr, hne⟩, fun b hb => ?_, q⟩
    have lt : s1.heap.objs.size ≤ b := by
      rcases List.mem_cons.mp hb with z | z
      · rw [z]
        show s1.heap.objs.size ≤ (s1.heap.push _).objs.size
        omega
      · exact Nat.le_of_eq (List.mem_singleton.mp z).symm
    exact I1.fpOk lt (I1.hok.fresh lt)
  · obtain ⟨its, rv, pl, hz⟩ := I1.tuple hq
    refine wpAny_pyIter_tuple (show s1.heap.IsTuple a its.toArray from pl) ⟨_, rfl, ?_⟩
    have I2 : Inv X pins σ H1 { s1 with heap := s1.heap.push { cls := .type "tuple_iterator", data := .fields #[.ref a, .int 0 0] } } := I1.kept (t' := s1.toks) fun b o z => Heap.get?_push_of_some _ z
    have I3 : Inv X pins σ H1 { s1 with heap := (s1.heap.push { cls := .type "tuple_iterator", data := .fields #[.ref a, .int 0 0] }).push (enumO s1.heap.objs.size) } := I2.kept (t' := s1.toks) push
    have hz2 : (s1.heap.push { cls := .type "tuple_iterator", data := .fields #[.ref a, .int 0 0] }).objs.size = s1.heap.objs.size + 1 := Heap.size_push ..
    have hne : (s1.heap.push { cls := .type "tuple_iterator", data := .fields #[.ref a, .int 0 0] }).objs.size ≠ s1.heap.objs.size := by omega
    have itr : ((s1.heap.push { cls := .type "tuple_iterator", data := .fields #[.ref a, .int 0 0] }).push (enumO s1.heap.objs.size)).IsTupleIter s1.heap.objs.size a 0 := ⟨_, Heap.get?_push_of_some _ (Heap.get?_push_size _ rfl), rfl, rfl⟩
    refine wpAny_pyIter_enum isE ⟨_, [_, s1.heap.objs.size], _, _, H1, rfl, I3, turnT a _ s1.heap.objs.size, ⟨⟨.none, isE⟩, itr, hne⟩, fun b hb => ?_, q⟩
    have lt : s1.heap.objs.size ≤ b := by
      rcases List.mem_cons.mp hb with z | z
      · rw [z]
        show s1.heap.objs.size ≤ (s1.heap.push _).objs.size
        omega
      · exact Nat.le_of_eq (List.mem_singleton.mp z).symm
    exact I1.fpOk lt (I1.hok.fresh lt)
end
end Tw
namespace Tw
open PySem PySem.Spec PyProof.Rows L2 He
/-- t[lo:hi], a tuple of what is cut -/
def rSlU (K : Fg) : V → Option Int → Option Int → Hp → VK → Prop := fun x lo hi H Q => ∃ a xs, x = .ref a ∧ SqT K H a xs ∧ ∀ (c : Addr) (H' : Hp), Same H H' → SqT K H' c (cutV xs lo hi) → Q (.ref c) H'
theorem sl_tupU {X : Cx} : SlR X (rSlU X.K) := by
  intro pins s σ H x v vl vu lo hi sl Q I rx hs pl pu h
  obtain ⟨a, xs, ex, hx, q⟩ := h
  refine sl_tupA pins s σ H x v vl vu lo hi sl Q I rx hs pl pu ⟨a, xs, ex, hx, fun hw => q a H (fun _ _ z => z) ?_, fun _ p hp => q p _ (same_new hp) (SqT.of upd_same)⟩
  have e : cutV xs lo hi = xs := by
    unfold cutV
    rw [hw.1, hw.2, List.drop_zero, Nat.sub_zero, List.take_of_length_le (Nat.le_refl _)]
  rw [e]
  exact hx
end Tw
namespace K12
open PySem PySem.Spec PyProof.Rows L2 He Tw
/-- the first that is no pair -/
def firstNo : List Bool → Nat → Option Nat
  | [], _ => none
  | o :: os, n => if o = true then firstNo os (n + 1) else some n
/-- which word of a case is told -/
def caseBad (os : List Bool) : Option Nat := if os = [] then some 0 else match firstNo (os.take 4) 0 with
  | some j => some j
  | none => if 4 < os.length then some 4 else none
inductive CaseV (H : Hp) : V → Option Nat → Prop where
  | other {v : V} {T : String} (h : Bv H v T) (n : T ≠ "tuple") : CaseV H v (some 0)
  | tup {t : Addr} {xs : List V} {os : List Bool} (h : H t = some (.tup xs)) (p : Paired (PairV H) xs os) (l : xs.length ≤ 900) : CaseV H (.ref t) (caseBad os)
def spCase (K : Fg) : Sp := fun vs H Q E => ∃ (k : Nat) (v : V) (r : Option Nat), vs = [.int (k : Nat), v] ∧ CaseV H v r ∧ (r = none → ∀ H', Same H H' → Q .non H') ∧
  (∀ j, r = some j → ∀ (d : Addr) (H' : Hp), Same H H' → H' d = some (.xd [("word", .int (j : Nat)), ("at", .int (k : Nat))]) → E (.ref (ga K "BadTest")) (some d) H')
theorem err_out2 {H : Hp} {C : Addr} {f g : Str} {v u : V} {Q : XK} {E : XK} (k : ∀ (d : Addr) (H' : Hp), Same H H' → H' d = some (.xd [(g, u), (f, v)]) → Q (.ref C) (some d) H') :
    ([v, u] : List V).length ≤ 1000 ∧ ∀ a, H a = none → spIni2 C f g (.ref a :: (([v, u] : List V) ++ [])) (upd H a (exo a C none)) (fun u H2 => u = .non ∧ ∃ (d : Addr) (fs : List (Str × V)), H2 a = some (exo a C (some d)) ∧ H2 d = some (exd d fs) ∧ H d = none ∧ Q (.ref C) (some d) (upd (del H2 a) d (.xd fs))) E := by
  refine ⟨(by show 2 ≤ 1000; decide), fun a ha => ⟨a, v, u, rfl, upd_same, fun d H' hd hda e1 e2 e3 => ?_⟩⟩
  rw [upd_ne hda] at hd
  refine ⟨rfl, d, _, e1, e2, hd, k d _ (fun b o hb => ?_) upd_same⟩
  have hba : b ≠ a := ne_of_none hb ha
  rw [upd_ne (ne_of_none hb hd), del_ne hba]
  exact e3 b o (by rw [upd_ne hba]; exact hb) hba
abbrev s_case : Stmt := topS 22
abbrev N_case : List Str := ["k", "case", "j", "pair"]
theorem sc_case : FnScope N_case ["k", "case"] (defScope s_case) := ⟨rfl, rfl, rfl, by decide +kernel, rfl, by decide +kernel, by decide +kernel⟩
section
variable {P : Program} {w : World} {K : Fg} {mg : Str → Option Value} {base : Heap} {fd : Nat → FuncData}
theorem G_case (D : DefsK K fd) (T : Txt K mg) : FnOk P w K mg base (L2.CX P w) 7 (ga K "need_case") (fd 9) ["k", "case"] (spCase K) := by
  have zisi : mg "isinstance" = none := T.bl (by decide +kernel)
  have ztup : mg "tuple" = none := T.bl (by decide +kernel)
  have zen : mg "enumerate" = none := T.bl (by decide +kernel)
  have zlen : mg "len" = none := T.bl (by decide +kernel)
  have gB : mg "BadTest" = some (.ref (ga K "BadTest")) := T.cl (by decide +kernel)
  have gP := T.fn (x := "is_pair") (by decide +kernel)
  obtain ⟨tL, gL⟩ := T.limit
  obtain ⟨iB, tB⟩ := T.ini
  have FP : FnP K "is_pair" "is_pair" s_pair (ga K "is_pair") (fd 10) := D 10 _ rfl
  have GP : FnOk P w K mg base CX0 5 (ga K "is_pair") (fd 10) ["value"] spPair := G_pair D T
  have bP : Binds K (fd 10) ["value"] [] := FP.bindsN fun _ _ _ _ _ _ us hl => match us, hl with | [_], _ => rfl
  have FB : FnP K "__init__" "BadTest.__init__" s_bad (ma K (ga K "BadTest") "__init__") (fd 0) := D 0 _ rfl
  have GB : FnOk P w K mg base CX0 1 _ (fd 0) ["self", "at", "word"] (spIni2 (ga K "BadTest") "at" "word") := ok_bad D T
  have bB : Binds K (fd 0) ["self", "at", "word"] [] := FB.bindsN fun _ _ _ _ _ _ us hl => match us, hl with | [_, _, _], _ => rfl
  have F : FnP K "need_case" "need_case" s_case (ga K "need_case") (fd 9) := D 9 _ rfl
  refine F.ok sc_case (fun vs H Q E h => ?_) (fun cdv A outer s H vs Q E hr h => ?_)
  · obtain ⟨k, v, r, rfl, _⟩ := h
    rfl
  · obtain ⟨k, v, r, rfl, cv, kg, kb⟩ := h
    refine ⟨_, (pss_cons (ps_if (PW.pt (pw_or (pt_not (pt_val (pe_callB call_isA (by rfl) zisi (by decide +kernel) (pa_cons (pv 1) (pa_cons (pe_bltn (v := .ty "tuple") (by rfl) ztup (by decide +kernel) rfl) pa_nil))))) (pw_or1 (pt_not (pt_truth (pv 1) (fun _ => rfl))))))
      (pss_one (ps_raise rfl (takes_of rfl rfl rfl rfl) (pmk_oex T.xc.ox iB tB GB (hr.mono (by decide)) bB .nil pass0 rfl gB (pa_cons (pv 0) (pa_cons pe_int pa_nil))))) pss_nil)
    (pss_cons (ps_for (passes_of rfl) rfl (pi_enumT rfl zen (pa_cons (pe_slice sl_tupU (pv 1) po_none (po_some (pe_glob (v := .int 4) rfl gL ⟨_, rfl⟩))) pa_nil)) (pg_tup (by rfl) (pgs_cons (pg_name (i := 2) sc_case.nd rfl (Or.inl rfl)) (pgs_cons (pg_name (i := 3) sc_case.nd rfl (Or.inl rfl)) pgs_nil)))
      (pss_one (ps_if (pt_not (pt_val (pe_call (E := E) GP (hr.mono (by decide)) rfl gP FP.kp bP .nil pass0 (pa_cons (pv 3) pa_nil)))) (pss_one (ps_raise rfl (takes_of rfl rfl rfl rfl) (pmk_oex T.xc.ox iB tB GB (hr.mono (by decide)) bB .nil pass0 rfl gB (pa_cons (pv 0) (pa_cons (pv 2) pa_nil))))) pss_nil)))
    (pss_one (ps_if (pt_cmpR op_gt (pe_callB call_len (by rfl) zlen (by decide +kernel) (pa_cons (pv 1) pa_nil)) (pe_glob (v := .int 4) rfl gL ⟨_, rfl⟩) (nomark _)) (pss_one (ps_raise rfl (takes_of rfl rfl rfl rfl) (pmk_oex T.xc.ox iB tB GB (hr.mono (by decide)) bB .nil pass0 rfl gB (pa_cons (pv 0) (pa_cons (pe_glob (v := .int 4) rfl gL ⟨_, rfl⟩) pa_nil))))) pss_nil)))), ?_⟩
    cases cv with
    | other h n =>
      refine ⟨_, rfl, v, .ty "tuple", _, _, false, rfl, .ty "tuple", .inl h.ty, by rw [bvTup h, decide_eq_false n], _, rfl, ?_⟩
      exact ⟨_, rfl, err_out2 fun d H' s g => kb 0 rfl d H' s g⟩
    | @tup t xs os h p l =>
      have lo : xs.length = os.length := Paired.length p
      refine ⟨_, rfl, .ref t, .ty "tuple", _, _, true, rfl, .ty "tuple", .inl (Bv.tup h).ty, bvTup (.tup h), _, rfl, ?_⟩
      refine ⟨_, rfl, !xs.isEmpty, .inr (.inl ⟨xs, SqT.of h, rfl⟩), ?_⟩
      cases xs with
      | nil =>
        cases p
        exact ⟨_, rfl, err_out2 fun d H' s g => kb 0 rfl d H' s g⟩
      | cons x0 xs0 =>
        refine ⟨_, rfl, _, rfl, t, x0 :: xs0, rfl, SqT.of h, fun c H1 s1 g1 => ?_⟩
        rw [show ((4 : Int)) = ((4 : Nat) : Int) from rfl, cutTake] at g1
        have ne : os ≠ [] := fun z => by
          rw [z] at lo
          cases lo
        have cb : caseBad os = match firstNo (os.take 4) 0 with
          | some j => some j
          | none => if 4 < os.length then some 4 else none := by
          unfold caseBad
          rw [if_neg ne]
        have lt4 : ((x0 :: xs0).take 4).length = (os.take 4).length := by rw [List.length_take, List.length_take, lo]
        refine ⟨c, rfl, .inr ⟨⟨_, g1⟩, for_enum (G := fun H xs => SqT K H c xs) (xs := (x0 :: xs0).take 4) (fun i σ H' => ∃ v2 v3 : Option V, σ = [some (.int (k : Nat)), some (.ref t), v2, v3] ∧ Same H1 H' ∧ firstNo (os.take 4) 0 = firstNo ((os.take 4).drop i) i) ⟨none, none, rfl, (fun _ _ z => z), rfl⟩ (fun i σ H' _ ⟨_, _, _, s', _⟩ => sqT_same s' g1) ?_ ?_⟩⟩
        · rintro i x T0 σ H2 H3 hx ⟨v2, v3, rfl, s2, fe⟩ hT s3 gT
          refine ⟨T0, _, rfl, SqT.of gT, rfl, ?_⟩
          refine ⟨_, _, rfl, _, _, rfl, rfl, ?_⟩
          have s13 := s2.trans s3
          have hi : i < (os.take 4).length := by
            have := (List.getElem?_eq_some_iff.mp hx).1
            omega
          have eo : (os.take 4)[i]? = some (os.take 4)[i] := List.getElem?_eq_getElem hi
          have hp : PairV H3 x (os.take 4)[i] := by
            have q : Paired (PairV H) ((x0 :: xs0).take 4) (os.take 4) := by
              have go : ∀ {α β : Type} {F : α → β → Prop} {xs : List α} {ys : List β} (n : Nat), Paired F xs ys → Paired F (xs.take n) (ys.take n) := by
                intro α β F xs ys n h
                induction n generalizing xs ys with
                | zero => rw [List.take_zero, List.take_zero]; exact .nil
                | succ n ih =>
                  cases h with
                  | nil => exact .nil
                  | cons a b => exact .cons a (ih b)
              exact go 4 p
            have at_ : ∀ {xs : List V} {ys : List Bool} {i : Nat} {x : V} {y : Bool}, Paired (PairV H) xs ys → xs[i]? = some x → ys[i]? = some y → PairV H x y := by
              intro xs ys i x y h
              induction h generalizing i with
              | nil => exact fun z => nomatch z
              | cons a b ih =>
                cases i with
                | zero =>
                  intro h1 h2
                  cases h1
                  cases h2
                  exact a
                | succ n => exact fun h1 h2 => ih h1 h2
            exact (at_ q hx eo).up (s1.trans s13)
          have ed : (os.take 4).drop i = (os.take 4)[i] :: (os.take 4).drop (i + 1) := List.drop_eq_getElem_cons hi
          refine ⟨_, rfl, x, (os.take 4)[i], rfl, hp, fun H4 s4 => ⟨_, rfl, ?_⟩⟩
          by_cases ho : (os.take 4)[i] = true
          · rw [ho]
            refine ⟨_, _, rfl, s13.trans s4, ?_⟩
            rw [fe, ed]
            show (if _ = true then _ else _) = _
            rw [if_pos ho]
          · rw [Bool.eq_false_iff.mpr ho]
            have fn1 : firstNo (os.take 4) 0 = some i := by
              rw [fe, ed]
              show (if _ = true then _ else _) = _
              rw [if_neg ho]
            refine ⟨_, rfl, _, rfl, err_out2 fun d H' s g => kb i (by rw [cb, fn1]) d H' (s1.trans (s13.trans (s4.trans s))) g⟩
        · rintro σ H2 ⟨v2, v3, rfl, s2, fe⟩
          have fn0 : firstNo (os.take 4) 0 = none := by
            rw [fe, List.drop_of_length_le (by omega)]
            rfl
          rw [fn0] at cb
          have h2 := s1.trans s2
          refine ⟨_, rfl, _, _, rfl, .inr ⟨_, SqT.of (h2 _ _ h), rfl⟩, _, _, rfl, rfl, _, rfl, ?_⟩
          refine ite2 (fun hz => ?_) (fun hz => ?_)
          · have g4 := of_decide_eq_true hz
            exact ⟨_, rfl, err_out2 fun d H' s g => kb 4 (by rw [cb]; exact if_pos (by omega)) d H' (h2.trans s) g⟩
          · have g4 : ¬ ((4 : Int) < ((x0 :: xs0).length : Nat)) := fun z => hz (decide_eq_true z)
            exact kg (by rw [cb]; exact if_neg (by omega)) H2 h2
end
end K12
namespace Tw
open PySem PySem.Spec PyProof.Rows L2 He
theorem pairUp {α β : Type} {F G : α → β → Prop} (k : ∀ a b, F a b → G a b) : ∀ {xs : List α} {ys : List β}, Paired F xs ys → Paired G xs ys
  | _, _, .nil => .nil
  | _, _, .cons a b => .cons (k _ _ a) (pairUp k b)
theorem paired_tk {α β : Type} {F : α → β → Prop} : ∀ (n : Nat) {xs : List α} {ys : List β}, Paired F xs ys → Paired F (xs.take n) (ys.take n)
  | 0, _, _, _ => by rw [List.take_zero, List.take_zero]; exact .nil
  | _ + 1, _, _, .nil => .nil
  | n + 1, _, _, .cons a b => .cons a (paired_tk n b)
theorem paired_get {α β : Type} {F : α → β → Prop} : ∀ {xs : List α} {ys : List β} {i : Nat} {x : α} {y : β}, Paired F xs ys → xs[i]? = some x → ys[i]? = some y → F x y
  | _, _, 0, _, _, .cons a _, h1, h2 => by cases h1; cases h2; exact a
  | _, _, n + 1, _, _, .cons _ b, h1, h2 => paired_get (i := n) b h1 h2
end Tw
namespace K12
open PySem PySem.Spec PyProof.Rows L2 He Tw
theorem CaseV.up {H H' : Hp} {v : V} {r : Option Nat} (s : Same H H') : CaseV H v r → CaseV H' v r
  | .other h n => .other (bvUp s h) n
  | .tup h p l => .tup (s _ _ h) (pairUp (fun _ _ z => z.up s) p) l
/-- the first case that is refused -/
def firstCase : List (Option Nat) → Nat → Option (Nat × Nat)
  | [], _ => none
  | some j :: _, n => some (n, j)
  | none :: rs, n => firstCase rs (n + 1)
def casesBad (rs : List (Option Nat)) : Option (Nat × Nat) := match firstCase (rs.take 4) 0 with
  | some p => some p
  | none => if 4 < rs.length then some (4, 0) else if rs = [] then some (0, 0) else none
def spCases (K : Fg) : Sp := fun vs H Q E => ∃ (t : Addr) (xs : List V) (rs : List (Option Nat)), vs = [.ref t] ∧ SqT K H t xs ∧ Paired (CaseV H) xs rs ∧ xs.length ≤ 900 ∧ (casesBad rs = none → ∀ H', Same H H' → Q .non H') ∧
  (∀ k j, casesBad rs = some (k, j) → ∀ (d : Addr) (H' : Hp), Same H H' → H' d = some (.xd [("word", .int (j : Nat)), ("at", .int (k : Nat))]) → E (.ref (ga K "BadTest")) (some d) H')
abbrev s_cases : Stmt := topS 21
abbrev N_cases : List Str := ["cases", "k", "case"]
theorem sc_cases : FnScope N_cases ["cases"] (defScope s_cases) := ⟨rfl, rfl, rfl, by decide +kernel, rfl, by decide +kernel, by decide +kernel⟩
section
variable {P : Program} {w : World} {K : Fg} {mg : Str → Option Value} {base : Heap} {fd : Nat → FuncData}
theorem G_cases (D : DefsK K fd) (T : Txt K mg) : FnOk P w K mg base (L2.CX P w) 8 (ga K "need_cases") (fd 8) ["cases"] (spCases K) := by
  have zen : mg "enumerate" = none := T.bl (by decide +kernel)
  have zlen : mg "len" = none := T.bl (by decide +kernel)
  have gB : mg "BadTest" = some (.ref (ga K "BadTest")) := T.cl (by decide +kernel)
  have gC := T.fn (x := "need_case") (by decide +kernel)
  obtain ⟨tL, gL⟩ := T.limit
  obtain ⟨iB, tB⟩ := T.ini
  have FC : FnP K "need_case" "need_case" s_case (ga K "need_case") (fd 9) := D 9 _ rfl
  have GC : FnOk P w K mg base (L2.CX P w) 7 (ga K "need_case") (fd 9) ["k", "case"] (spCase K) := G_case D T
  have bC : Binds K (fd 9) ["k", "case"] [] := FC.bindsN fun _ _ _ _ _ _ us hl => match us, hl with | [_, _], _ => rfl
  have FB : FnP K "__init__" "BadTest.__init__" s_bad (ma K (ga K "BadTest") "__init__") (fd 0) := D 0 _ rfl
  have GB : FnOk P w K mg base CX0 1 _ (fd 0) ["self", "at", "word"] (spIni2 (ga K "BadTest") "at" "word") := ok_bad D T
  have bB : Binds K (fd 0) ["self", "at", "word"] [] := FB.bindsN fun _ _ _ _ _ _ us hl => match us, hl with | [_, _, _], _ => rfl
  have F : FnP K "need_cases" "need_cases" s_cases (ga K "need_cases") (fd 8) := D 8 _ rfl
  refine F.ok sc_cases (fun vs H Q E h => ?_) (fun cdv A outer s H vs Q E hr h => ?_)
  · obtain ⟨t, xs, rs, rfl, _⟩ := h
    rfl
  · obtain ⟨t, xs, rs, rfl, h, p, l, kg, kb⟩ := h
    refine ⟨_, (pss_cons (ps_for (passes_of rfl) rfl (pi_enumT rfl zen (pa_cons (pe_slice sl_tupU (pv 0) po_none (po_some (pe_glob (v := .int 4) rfl gL ⟨_, rfl⟩))) pa_nil)) (pg_tup (by rfl) (pgs_cons (pg_name (i := 1) sc_cases.nd rfl (Or.inl rfl)) (pgs_cons (pg_name (i := 2) sc_cases.nd rfl (Or.inl rfl)) pgs_nil)))
      (pss_one (ps_expr (pe_call (E := E) GC (hr.mono (by decide)) rfl gC FC.kp bC .nil (passes_call (takes_of rfl rfl rfl rfl) (fun _ _ _ _ h => h)) (pa_cons (pv 1) (pa_cons (pv 2) pa_nil))))))
    (pss_cons (ps_if (pt_cmpR op_gt (pe_callB call_len (by rfl) zlen (by decide +kernel) (pa_cons (pv 0) pa_nil)) (pe_glob (v := .int 4) rfl gL ⟨_, rfl⟩) (nomark _)) (pss_one (ps_raise rfl (takes_of rfl rfl rfl rfl) (pmk_oex T.xc.ox iB tB GB (hr.mono (by decide)) bB .nil pass0 rfl gB (pa_cons (pe_glob (v := .int 4) rfl gL ⟨_, rfl⟩) (pa_cons pe_int pa_nil))))) pss_nil)
    (pss_one (ps_if (pt_not (pt_truth (pv 0) (fun _ => rfl))) (pss_one (ps_raise rfl (takes_of rfl rfl rfl rfl) (pmk_oex T.xc.ox iB tB GB (hr.mono (by decide)) bB .nil pass0 rfl gB (pa_cons pe_int (pa_cons pe_int pa_nil))))) pss_nil)))), ?_⟩
    have lo : xs.length = rs.length := Paired.length p
    refine ⟨_, rfl, _, rfl, t, xs, rfl, h, fun c H1 s1 g1 => ?_⟩
    rw [show ((4 : Int)) = ((4 : Nat) : Int) from rfl, cutTake] at g1
    have lt4 : (xs.take 4).length = (rs.take 4).length := by rw [List.length_take, List.length_take, lo]
    refine ⟨c, rfl, .inr ⟨⟨_, g1⟩, for_enum (G := fun H xs => SqT K H c xs) (xs := xs.take 4) (fun i σ H' => ∃ v1 v2 : Option V, σ = [some (.ref t), v1, v2] ∧ Same H1 H' ∧ firstCase (rs.take 4) 0 = firstCase ((rs.take 4).drop i) i) ⟨none, none, rfl, (fun _ _ z => z), rfl⟩ (fun i σ H' _ ⟨_, _, _, s', _⟩ => sqT_same s' g1) ?_ ?_⟩⟩
    · rintro i x T0 σ H2 H3 hx ⟨v1, v2, rfl, s2, fe⟩ hT s3 gT
      refine ⟨T0, _, rfl, SqT.of gT, rfl, ?_⟩
      refine ⟨_, _, rfl, _, _, rfl, rfl, ?_⟩
      have s13 := s2.trans s3
      have hi : i < (rs.take 4).length := by
        have := (List.getElem?_eq_some_iff.mp hx).1
        omega
      have hp : CaseV H3 x (rs.take 4)[i] := (paired_get (paired_tk 4 p) hx (List.getElem?_eq_getElem hi)).up (s1.trans s13)
      have ed : (rs.take 4).drop i = (rs.take 4)[i] :: (rs.take 4).drop (i + 1) := List.drop_eq_getElem_cons hi
      generalize ho : (rs.take 4)[i] = o at hp ed
      refine ⟨_, rfl, _, rfl, i, x, o, rfl, hp, fun en H4 s4 => ?_, fun j ej d H4 s4 g4 => ?_⟩
      · subst en
        exact ⟨_, _, rfl, s13.trans s4, by rw [fe, ed]; rfl⟩
      · subst ej
        exact kb i j (by unfold casesBad; rw [fe, ed]; rfl) d H4 (s1.trans (s13.trans s4)) g4
    · rintro σ H2 ⟨v1, v2, rfl, s2, fe⟩
      have fn0 : firstCase (rs.take 4) 0 = none := by
        rw [fe, List.drop_of_length_le (by omega)]
        rfl
      have cb : casesBad rs = if 4 < rs.length then some (4, 0) else if rs = [] then some (0, 0) else none := by
        unfold casesBad
        rw [fn0]
      have h2 := s1.trans s2
      refine ⟨_, rfl, _, _, rfl, .inr ⟨_, sqT_same h2 h, rfl⟩, _, _, rfl, rfl, _, rfl, ?_⟩
      refine ite2 (fun hz => ?_) (fun hz => ?_)
      · have g4 := of_decide_eq_true hz
        exact err_out2 fun d H' s g => kb 4 0 (by rw [cb, if_pos (by omega)]) d H' (h2.trans s) g
      · have g4 : ¬ ((4 : Int) < (xs.length : Nat)) := fun z => hz (decide_eq_true z)
        rw [if_neg (by omega)] at cb
        refine ⟨_, rfl, !xs.isEmpty, .inr (.inl ⟨xs, sqT_same h2 h, rfl⟩), ?_⟩
        cases xs with
        | nil =>
          cases p
          exact err_out2 fun d H' s g => kb 0 0 (by rw [cb, if_pos rfl]) d H' (h2.trans s) g
        | cons x0 xs0 => exact kg (by rw [cb, if_neg (fun z => by rw [z] at lo; cases lo)]) H2 h2
end
end K12
/-! Tw: sets of texts: comprehensions, set(list), sorted(set). -/
namespace Tw
open PySem PySem.Spec PyProof.Rows L2 He
/-- the text of an entry -/
def txE (e : Int × Value) : Str := match e.2 with
  | .str k _ => k
  | _ => ⟨#[]⟩
def GdE (w : World) (e : Int × Value) : Prop := ∃ (k : Str) (u : Tok), e = (hashStr w k, Value.str k u)
/-- a set's payload holds the texts l, in some order -/
structure XT (w : World) (D : Froz.SD) (l : List Str) : Prop where
  gd : ∀ e ∈ D.1.toList, GdE w e
  pm : (D.1.toList.map txE).Perm l
  fit : D.2.2.fits D.1.size = true
  ris : Ris D.2.2.place.toList
  led : w.params.followText "set-order" = true ∨ D.2.2.led = true
section
variable {P : Program} {w : World} {D : Froz.SD} {l : List Str}
theorem XT.ok (X : XT w D l) : Froz.TxOk P w D l where
  el := fun e he => by
    obtain ⟨k, u, rfl⟩ := X.gd e he
    exact ⟨⟨k, Froz.is_str k u, rfl⟩, rfl⟩
  mem := fun k => by
    rw [← X.pm.mem_iff, List.mem_map]
    constructor
    · rintro ⟨e, he, q⟩
      obtain ⟨k', u, rfl⟩ := X.gd e he
      have q' : k' = k := q
      subst q'
      exact ⟨_, he, Froz.is_str k' u⟩
    · rintro ⟨e, he, q⟩
      obtain ⟨u, q'⟩ := Value.isStrOf_shape (x := k) (v := e.2) q
      refine ⟨e, he, ?_⟩
      unfold txE
      rw [q']
  sz := by rw [← X.pm.length_eq, List.length_map, Array.length_toList]
  fit := X.fit
theorem XT.moved (X : XT w D l) {es : Array (Int × Value)} {ep : Nat} {t : SetTable} (p : es.toList.Perm D.1.toList) (hf : t.fits es.size = true) (hr : Ris t.place.toList) (hl : w.params.followText "set-order" = true ∨ t.led = true) : XT w (es, ep, t) l :=
  ⟨fun e he => X.gd e (p.mem_iff.mp he), (p.map txE).trans X.pm, hf, hr, hl⟩
theorem XT.tail {ep : Nat} {es : Array (Int × Value)} {t : SetTable} {wd : Bool} (X : XT w (es, ep, t) l) : XT w (Froz.tailTx ep es t wd) l := by
  unfold Froz.tailTx
  by_cases c : (!wd && t.tooFull) = true
  · rw [if_pos c]
    exact X.moved (relayAll_perm t es _) (relayAll_fits t es _) (relayAll_ris t es _) (X.led.imp id fun z => by rw [relayAll_led]; exact z)
  · rw [if_neg c]
    exact ⟨X.gd, X.pm, X.fit, X.ris, X.led⟩
theorem XT.add (X : XT w D l) (k : Str) (u : Tok) : XT w (Froz.addTx (hashStr w k) (.str k u) D) (k :: l) := by
  obtain ⟨es, ep, t⟩ := D
  have pm := layNew_perm t es (hashStr w k) (.str k u)
  have hf := layNew_fits t es (hashStr w k) (.str k u)
  have hr := layNew_ris t es (hashStr w k) (.str k u) X.ris
  have hl := layNew_led t es (hashStr w k) (.str k u)
  rw [Array.toList_push] at pm
  have pc : (layNew t es (hashStr w k) (.str k u)).1.toList.Perm ((hashStr w k, Value.str k u) :: es.toList) := pm.trans (List.perm_append_singleton _ _)
  have X1 : XT w ((layNew t es (hashStr w k) (.str k u)).1, ep, (layNew t es (hashStr w k) (.str k u)).2.1) (k :: l) := by
    refine ⟨fun e he => ?_, ?_, hf, hr, X.led.imp id fun z => by rw [hl]; exact z⟩
    · rcases List.mem_cons.mp (pc.mem_iff.mp he) with z | z
      · exact ⟨k, u, z⟩
      · exact X.gd e z
    · exact (pc.map txE).trans (List.Perm.cons k X.pm)
  show XT w (Froz.tailTx ep (layNew t es (hashStr w k) (.str k u)).1 (if (layNew t es (hashStr w k) (.str k u)).2.1.plain = true then { (layNew t es (hashStr w k) (.str k u)).2.1 with plain := false } else (layNew t es (hashStr w k) (.str k u)).2.1) (layNew t es (hashStr w k) (.str k u)).2.2.1) (k :: l)
  refine XT.tail ?_
  by_cases c : (layNew t es (hashStr w k) (.str k u)).2.1.plain = true
  · rw [if_pos c]
    exact ⟨X1.gd, X1.pm, SetTable.fits_plain_off hf, X1.ris, X1.led⟩
  · rw [if_neg c]
    exact X1
end
/-- the set at a holds the texts l, none twice -/
def SetX (w : World) (h : Heap) (a : Addr) (l : List Str) : Prop := ∃ D : Froz.SD, h.get? a = some (Froz.sObj "set" D) ∧ XT w D l ∧ l.Nodup ∧ l.length < scanBound
theorem SetX.at {w : World} {h h' : Heap} {a : Addr} {l : List Str} (R : SetX w h a l) (k : ∀ o, h.get? a = some o → h'.get? a = some o) : SetX w h' a l := by
  obtain ⟨D, ho, r⟩ := R
  exact ⟨D, k _ ho, r⟩
/-- an empty set, as it is made -/
abbrev set0 (w : World) : Obj := { cls := .type "set", dict := none, data := .set #[] 0 (.fresh 0 0 (!w.params.followText "set-order")) }
theorem setX_fresh {w : World} {h : Heap} {a : Addr} (ho : h.get? a = some (set0 w)) : SetX w h a [] := by
  refine ⟨(#[], 0, .fresh 0 0 (!w.params.followText "set-order")), ho, ⟨fun e he => by simp at he, .nil, by rfl, List.Pairwise.nil, ?_⟩, List.Pairwise.nil, by decide⟩
  show _ ∨ (!w.params.followText "set-order") = true
  cases w.params.followText "set-order"
  · exact .inr rfl
  · exact .inl rfl
/-- one more text -/
def insX (l : List Str) (k : Str) : List Str := if k ∈ l then l else k :: l
section
variable {P : Program} {w : World} {A : Around} {E : Value → Shared → Prop} {s : Shared} {a : Addr} {l : List Str}
theorem setX_add_hashed {k : Str} {u : Tok} {Q : Bool → Shared → Prop} (R : SetX w s.heap a l) (room : l.length + 1 < scanBound)
    (hQ : ∀ (b : Bool) (h' : Heap), Heap.SameBut a s.heap h' → SetX w h' a (insX l k) → Q b { s with heap := h' }) :
    wpAny (model P w) A (setAddHashed a (.str k u) (hashStr w k)) Q E s := by
  obtain ⟨D, ho, X, nd, hb⟩ := R
  have T : Froz.TxOk P w D l := X.ok
  by_cases hk : k ∈ l
  · obtain ⟨es, ep, t⟩ := D
    have hd : (Froz.sObj "set" (es, ep, t)).data = .set es ep t := rfl
    have he : insX l k = l := if_pos hk
    rw [he] at hQ
    have hsz : es.size = l.length := T.sz
    unfold setAddHashed setAddHashedIn
    refine wpAny_holding (wpAny_bind (wpAny_setState_of ho hd T.fit ?_))
    dsimp only
    rw [byScan_of (knd := strKind P w) rfl (by rw [hsz]; exact hb) T.el, if_pos rfl]
    unfold setAddByScan
    refine wpAny_bind (wpAny_bind (wpAny_rule (wpAny_bind (wpAny_setScan_of (knd := strKind P w) (k := k) (Froz.is_str k u) ho hd T.fit T.el ?_))))
    cases hfi : List.findIdx? (fun e => (strKind P w).is k e.2) es.toList with
    | some j =>
      dsimp only
      exact wpAny_pure (wpAny_pure (hQ _ s.heap (Heap.SameBut.refl a s.heap) ⟨(es, ep, t), ho, X, nd, hb⟩))
    | none =>
      obtain ⟨e, he1, he2⟩ := (T.mem k).mp hk
      have c := List.findIdx?_eq_none_iff.mp hfi e he1
      rw [he2] at c
      cases c
  · have he : insX l k = k :: l := if_neg hk
    rw [he] at hQ
    exact Froz.add_x ho T hk room (hQ _ _ (Heap.SameBut.update s.heap a _) ⟨_, Froz.get_upd _ ho rfl, X.add k u, List.nodup_cons.mpr ⟨hk, nd⟩, room⟩)
/-- found.add(k) -/
theorem setX_add {k : Str} {u : Tok} {Q : Value → Shared → Prop} (R : SetX w s.heap a l) (room : l.length + 1 < scanBound)
    (hQ : ∀ h', Heap.SameBut a s.heap h' → SetX w h' a (insX l k) → Q .none { s with heap := h', toks := s.toks + 1 }) :
    wpAny (model P w) A (call (.builtin "set.add") [.ref a, .str k u]) Q E s := by
  have ty : s.TypeIs (.ref a) "set" := by
    obtain ⟨D, ho, _⟩ := R
    exact ⟨_, ho, rfl⟩
  refine wpAny_call_entry F.slot_set_add ty F.entry_set_add ?_ (F.args_set_add_2 _ _)
  unfold Builtin.«set.add» Builtin.Frozenset.oneOther
  simp only [List.isEmpty_nil, bind_assoc]
  unfold Builtin.Frozenset.addrOf setAdd
  refine wpAny_bind (wpAny_pure ?_)
  try dsimp only
  refine wpAny_bind (wpAny_pure ?_)
  try dsimp only
  refine wpAny_bind (wpAny_holding (wpAny_bind ((strKind P w).pyHash (Froz.is_str k u) ?_)))
  refine setX_add_hashed (s := { s with toks := s.toks + 1 }) R room fun _ h' sb r => ?_
  show wpAny _ _ (ret Value.none) _ _ _
  exact wpAny_pure ⟨_, rfl, hQ h' sb r⟩
end
/-- as a tracked object -/
def SetXO (w : World) (a : Addr) (l : List Str) : HO := .ext fun h => SetX w h a l
theorem setXO_new {P : Program} {w : World} {H : Hp} {h : Heap} {a : Addr} {l : List Str} (R : SetX w h a l) : ObjOk P w H h a (SetXO w a l) := by
  have ⟨D, ho, _⟩ := R
  exact ⟨R, ⟨_, ho⟩, fun h1 h2 p k => SetX.at p k⟩
theorem setXO_get {X : Cx} {pins : List (Addr × Obj)} {σ : L2.St} {H : Hp} {s : Shared} {a : Addr} {l : List Str} (I : Inv X pins σ H s) (ha : H a = some (SetXO X.w a l)) : SetX X.w s.heap a l := (I.hok a _ ha).1
theorem newTexts {P : Program} {w : World} : NewSet P w (fun D => SetXO w D []) := fun H h => setXO_new (setX_fresh (Heap.get?_push_size _ rfl))
def adTxt (w : World) : V → Addr → Hp → (Hp → Prop) → Prop := fun y D H Nx => ∃ (k : Str) (l : List Str), y = .str k ∧ H D = some (SetXO w D l) ∧ l.length + 1 < scanBound ∧ Nx (upd H D (SetXO w D (insX l k)))
theorem addTexts {P : Program} {w : World} : AddSet P w (adTxt w) := by
  intro Z e1 e2 pins σ H s D y u Nx Q E hE I r h k
  subst e1 e2
  obtain ⟨t, l, rfl, hD, hn, nx⟩ := h
  obtain ⟨tk, rfl⟩ := r
  refine setX_add (setXO_get I hD) hn fun h' sb new => ?_
  have he : ∃ u, h'.get? D = some u := by
    have ⟨_, ho, _⟩ := new
    exact ⟨_, ho⟩
  exact k _ _ (I.write (e := D) (t' := s.toks + 1) (by rw [hD]; trivial) (.inl rfl) (fun b o hb hu => (sb.2 b hb).trans hu) he (setXO_new new)) nx
/-! ### set(xs) of a list of texts -/
def insXs (ks : List Str) : List Str := ks.foldl insX []
theorem insXs_snoc (ks : List Str) (k : Str) : insXs (ks ++ [k]) = insX (insXs ks) k := by
  unfold insXs
  rw [List.foldl_append]
  rfl
theorem insX_len (l : List Str) (k : Str) : (insX l k).length ≤ l.length + 1 := by
  unfold insX
  split
  · exact Nat.le_succ _
  · exact Nat.le_refl _
theorem insX_fold : ∀ (ks l : List Str), (ks.foldl insX l).length ≤ l.length + ks.length
  | [], l => Nat.le_refl _
  | k :: ks, l => by
    have a := insX_fold ks (insX l k)
    have b := insX_len l k
    have c : (k :: ks).length = ks.length + 1 := rfl
    show (ks.foldl insX (insX l k)).length ≤ _
    omega
theorem insXs_len (ks : List Str) : (insXs ks).length ≤ ks.length := by
  have a := insX_fold ks []
  have b : ([] : List Str).length = 0 := rfl
  unfold insXs
  omega
section
variable {P : Program} {w : World} {A : Around} {E : Value → Shared → Prop} {s : Shared}
theorem upd_loopX {I : Addr} {fp wr : List Addr} {G : Array GenState → Array GenState → Prop} {n : Nat} {Pv : Nat → Value → Prop} {St : Nat → Shared → Prop} {R : Result → Shared → Prop}
    (W : WalksS P w A.in1 I fp wr G n Pv St) (S : Addr) (hSf : S ∉ fp) (ks : List Str) (hn : n = ks.length) (hb : ks.length + 1 < scanBound) (hval : ∀ i v, Pv i v → ∃ k t, ks[i]? = some k ∧ v = .str k t) :
    ∀ (m i : Nat) (s : Shared), n - i = m → i ≤ n → St i s → SetX w s.heap S (insXs (ks.take i)) → (∀ s', Moved (S :: wr) G s s' → SetX w s'.heap S (insXs ks) → R (.ok (.ret .none)) s') →
      codeAny (model P w) A (.builtin "set.update.loop" ⟨[.ref S, .ref I], []⟩) R s := by
  have hSw : S ∉ wr := fun h => hSf (W.sub _ h)
  have inc : ∀ b ∈ wr, b ∈ S :: wr := fun b hb => List.mem_cons_of_mem _ hb
  intro m
  induction m with
  | zero =>
    intro i s em hi st hS hR
    have e : ks.take i = ks := List.take_of_length_le (by omega)
    have ei : i = n := by omega
    rw [e] at hS
    rw [ei] at st
    refine codeAny_builtin F.entry_set_update_loop ?_
    rw [Around.under_plainId F.plain_set_update_loop _]
    show wpAny _ A.in1 (pyNext (.ref I) >>= _) _ _ s
    refine wpAny_bind (W.done s _ _ st fun s' hm => ?_)
    show wpAny _ A.in1 (ret Value.none) _ _ s'
    exact wpAny_pure (hR s' (hm.mono inc) (hS.at fun o q => hm.heap S o hSw q))
  | succ m ih =>
    intro i s em hi st hS hR
    have lt : i < n := by omega
    refine codeAny_builtin F.entry_set_update_loop ?_
    rw [Around.under_plainId F.plain_set_update_loop _]
    show wpAny _ A.in1 (pyNext (.ref I) >>= _) _ _ s
    refine wpAny_bind (W.item i s _ _ lt st fun v s1 pv st1 hm => ?_)
    obtain ⟨k, t, hk, rfl⟩ := hval i v pv
    have hS1 : SetX w s1.heap S (insXs (ks.take i)) := hS.at fun o q => hm.heap S o hSw q
    have room : (insXs (ks.take i)).length + 1 < scanBound := by
      have a := insXs_len (ks.take i)
      have b : (ks.take i).length ≤ ks.length := by
        rw [List.length_take]
        exact Nat.min_le_right _ _
      omega
    show wpAny _ A.in1 (holding [Value.str k t] (setAdd S (.str k t)) >>= _) _ _ s1
    refine wpAny_bind (wpAny_holding ?_)
    unfold setAdd
    refine wpAny_holding (wpAny_bind ((strKind P w).pyHash (Froz.is_str k t) ?_))
    refine setX_add_hashed (s := { s1 with toks := s1.toks + 1 }) hS1 room fun _ h' sb hS2 => ?_
    have e : insX (insXs (ks.take i)) k = insXs (ks.take (i + 1)) := by
      rw [List.take_add_one, hk]
      exact (insXs_snoc _ _).symm
    rw [e] at hS2
    refine wpAny_pure ⟨plainId_quiet F.plain_set_update_loop _, ih (i + 1) _ (by omega) lt (W.frame _ s1 _ _ st1 (Nat.le_succ _) fun b hb o q => ?_) hS2 fun s2 hm2 hS3 => ?_⟩
    · exact (sb.2 b fun z : b = S => hSf (z ▸ hb)).trans q
    · refine hR s2 (Moved.trans W.gtrans ((hm.mono inc).then_heap (Nat.le_succ _) fun b o hb q => ?_) hm2) hS3
      exact (sb.2 b fun z : b = S => hb (by rw [z]; exact List.mem_cons_self)).trans q
set_option maxRecDepth 100000 in
/-- set(xs) -/
theorem call_setX {l : Addr} {items : Array Value} (ks : List Str) {Q : Value → Shared → Prop} (hh : A.handled = none) (hl : s.heap.IsList l items) (hit : StrsAre items.toList ks) (hb : ks.length + 1 < scanBound)
    (h : ∀ (h' : Heap) (tk : Nat), SetX w h' s.heap.objs.size (insXs ks) → (∀ b o, s.heap.get? b = some o → h'.get? b = some o) → Q (.ref s.heap.objs.size) { s with heap := h', toks := tk }) :
    wpAny (model P w) A (call (.type "set") [.ref l]) Q E s := by
  have isz : items.size = ks.length := by
    have q := hit.length
    rw [Array.length_toList] at q
    exact q
  obtain ⟨c, tl, hmro⟩ := F.called_set.mro
  have hmade := F.called_set.made
  have hsub := F.called_set.sub
  refine wpAny_call (codeAny_of_tree ?_)
  show wpAny _ _ (callAny (.type "set") _) _ _ _
  refine wpAny_pure ⟨Code.quiet_builtin _ (by decide +kernel), codeAny_builtin F.entry_type_call ?_⟩
  rw [Around.under_plain (weight_type_call_type "set" [.ref l] []) rfl]
  have h1 := F.called_set.notType
  have h2 := F.called_set.canCreate
  have hct := F.typeCall_set_1 (.ref l)
  repeat (any_goals (first | assumption | wp_step))
  refine codeAny_mono (code_set_led1 (.ref l) (E := E) (Q₁ := fun obj s₁ => obj = .ref s.heap.objs.size ∧ s₁ = { s with heap := s.heap.push (set0 w) }) ⟨rfl, rfl⟩) fun r s₁ hr => ?_
  cases r with
  | error e => exact hr
  | ok fl =>
    cases fl with
    | ret obj =>
      obtain ⟨rfl, rfl⟩ := hr
      have hS : (s.heap.push (set0 w)).get? s.heap.objs.size = some (set0 w) := Heap.get?_push_size _ rfl
      have hT : Shared.TypeIs { s with heap := s.heap.push (set0 w) } (.ref s.heap.objs.size) "set" := ⟨_, hS, rfl⟩
      have hli := F.called_set.init.lookup
      have hbi := F.called_set.init.bind (.ref s.heap.objs.size)
      repeat (any_goals (first | assumption | wp_step))
      refine codeAny_mono (codeAny_call_builtin (R := wants (fun r s₂ => r = .none ∧ ∃ h' tk, s₂ = { s with heap := h', toks := tk } ∧ SetX w h' s.heap.objs.size (insXs ks) ∧ (∀ b o, s.heap.get? b = some o → h'.get? b = some o)) E) F.called_set.init.plain F.entry_set_init (check_set_init_1 hT ?_)) fun r₂ s₂ hr₂ => ?_
      · obtain ⟨ol, hol, hcl, nl, hdl⟩ := hl
        obtain ⟨ocls, odict, odata, oslots⟩ := ol
        simp only at hcl hdl
        subst hcl; subst hdl
        have hol' : (s.heap.push (set0 w)).get? l = some { cls := .type "list", dict := odict, data := .seq items nl, slots := oslots } := Heap.get?_push_of_some _ hol
        have hsls := F.sub_list_set
        have hslf := F.sub_list_frozenset
        have hne : (Value.type "list" == Value.type "dict") = false := by decide
        have hl1 : (s.heap.push (set0 w)).IsList l items := ⟨_, hol', rfl, nl, rfl⟩
        unfold Builtin.«set.__init__» noKeywords Builtin.Frozenset.updateFrom
        generalize hPI : pyIter = PI
        wp_walk
        subst hPI
        refine wpAny_pyIter_list hl1 (wpAny_bind (wpAny_runValue ?_))
        have hlS : l < s.heap.objs.size := Heap.lt_size hol
        have hh3 : A.in1.in1.in1.handled = none := by simp [hh]
        have hneI : l ≠ (s.heap.push (set0 w)).objs.size := by
          rw [Heap.size_push]; exact Nat.ne_of_lt (Nat.lt_succ_of_lt hlS)
        have hSf : s.heap.objs.size ∉ [(s.heap.push (set0 w)).objs.size, l] := by
          rw [Heap.size_push]; simp only [List.mem_cons, List.mem_singleton, List.not_mem_nil, or_false, not_or]
          exact ⟨Nat.ne_of_lt (Nat.lt_succ_self _), Nat.ne_of_gt hlS⟩
        have hval : ∀ (i : Nat) (v : Value), items[i]? = some v → ∃ k t, ks[i]? = some k ∧ v = .str k t := fun i v hv => by
          have hi : i < ks.length := by rw [← isz]; exact (Array.getElem?_eq_some_iff.mp hv).1
          have hm : v ∈ items.toList := List.mem_of_getElem? (i := i) (by rw [Array.getElem?_toList]; exact hv)
          obtain ⟨k, t, rfl⟩ := hit.all v hm
          refine ⟨k, t, ?_, rfl⟩
          have q := congrArg (fun z : List Str => z[i]?) hit.strs
          simp only [List.getElem?_map, Array.getElem?_toList, hv] at q
          exact q.symm
        refine upd_loopX ((Walks.list hh3 _ l hneI items).toS) s.heap.objs.size hSf ks isz hb hval (items.size - 0) 0 _ (by omega) (Nat.zero_le _)
          ⟨⟨_, Heap.get?_push_size _ rfl, rfl, rfl⟩, (hl1.push _)⟩ (setX_fresh (Heap.get?_push_of_some _ hS)) fun s' hm hS' => ?_
        obtain ⟨h', g2, d', tk', os'⟩ := s'
        have eg : g2 = s.gens := hm.gens
        have ed : d' = s.drawn := hm.drawn
        have eo : os' = s.os := hm.os
        subst eg; subst ed; subst eo
        show wpAny _ _ _ _ _ _
        refine wpAny_pure ?_
        show wpAny _ _ (ret Value.none) _ _ _
        refine wpAny_pure ⟨rfl, h', tk', rfl, hS', fun b o e => ?_⟩
        have hb0 : b < s.heap.objs.size := Heap.lt_size e
        have hb1 : b ≠ s.heap.objs.size := Nat.ne_of_lt hb0
        have hb2 : b ≠ (s.heap.push (set0 w)).objs.size := by
          rw [Heap.size_push]; exact Nat.ne_of_lt (Nat.lt_succ_of_lt hb0)
        exact hm.heap b o (by simp only [List.mem_cons, List.mem_singleton, List.not_mem_nil, or_false, not_or]; exact ⟨hb1, hb2⟩) (Heap.get?_push_of_some _ (Heap.get?_push_of_some _ e))
      · cases r₂ with
        | error e => exact hr₂
        | ok fl₂ =>
          cases fl₂ with
          | ret r =>
            obtain ⟨rfl, h', tk, rfl, hS', hk'⟩ := hr₂
            repeat (any_goals (first | assumption | wp_step))
            exact h _ _ hS' hk'
          | _ => exact hr₂.elim
    | _ => exact hr.elim
/-- sorted(set), fewer than 64 texts -/
theorem sorted_setX {a : Addr} {l : List Str} {Q : Value → Shared → Prop} (R : SetX w s.heap a l) (hh : A.handled = none) (h64 : l.length < 64)
    (hQ : ∀ s' p (out : Array Value) (c : Nat) (ys : List Str), (∀ b o, s.heap.get? b = some o → s'.heap.get? b = some o) → s'.gens = s.gens → s'.os = s.os → s.heap.objs.size ≤ p →
      s'.heap.get? p = some (seqObj "list" out c) → StrsAre out.toList ys → ys.Perm l → sortedS ys = true → Q (.ref p) s') :
    wpAny (model P w) A (call (.builtin "sorted") [.ref a]) Q E s := by
  obtain ⟨⟨es, ep, t⟩, ho, X, nd, hb⟩ := R
  have T : Froz.TxOk P w (es, ep, t) l := X.ok
  have hsz : es.size = l.length := T.sz
  refine Calls.call_function_entry kind_sorted plain_sorted entry_sorted (args_sorted1 _) ?_
  unfold Builtin.«sorted»
  refine wpAny_bind (m := checkCount "sorted" 1 1 _) (wpAny_pure ?_)
  refine wpAny_bind (collect_set (A := A.in1) hh ⟨_, ho, rfl, rfl⟩ T.fit (by rw [hsz]; exact hb) X.ris X.led fun s1 vs k1 hz g1 o1 pm => ?_)
  have hvl : vs.length = l.length := by rw [pm.length_eq, List.length_map, Array.length_toList]; exact hsz
  have hst : ∀ v ∈ vs, ∃ x u, v = Value.str x u := fun v hv => by
    obtain ⟨e, he, q⟩ := List.mem_map.mp (pm.mem_iff.mp hv)
    obtain ⟨k, u, rfl⟩ := X.gd e he
    exact ⟨k, u, q.symm⟩
  have hS : StrsAre vs (vs.map strOf) := strsAre_map vs hst
  have pk : (vs.map strOf).Perm l := by
    have q := pm.map strOf
    rw [List.map_map] at q
    refine q.trans (List.Perm.trans (List.Perm.of_eq (List.map_congr_left fun e he => ?_)) X.pm)
    obtain ⟨k, u, rfl⟩ := X.gd e he
    rfl
  refine wpAny_bind (wpAny_newList ?_ (by rw [hvl, sizeLine_eq]; omega))
  have hoL : (s1.heap.push (seqObj "list" vs.toArray 0)).get? s1.heap.objs.size = some (seqObj "list" vs.toArray 0) := Heap.get?_push_size _ rfl
  refine wpAny_bind (wpAny_holding (wpAny_call_entry slot_list_sort ⟨_, hoL, rfl⟩ entry_list_sort (list_sort_treeK strKind_oneLt hoL hS.keysOf (fun v₁ v₂ rest e => keyKind_strs (by rw [← e]; exact hS)) (by rw [hvl]; exact h64) fun st' hp hs => ⟨_, rfl, ?_⟩) (args_list_sort _)))
  obtain ⟨ys, a1, a2, a3⟩ := sorted_out_str hS hp hs
  obtain ⟨c, hc⟩ := sortedHeap_at (vs := vs) (out := (arrOf st').map (·.2)) hoL
  refine wpAny_pure ⟨_, rfl, hQ _ s1.heap.objs.size _ c ys (fun b u e => ?_) g1 o1 hz hc a1 (a2.trans pk) a3⟩
  have q := k1 b u e
  have hlt := Heap.lt_size q
  show (sortedHeap (s1.heap.push (seqObj "list" vs.toArray 0)) s1.heap.objs.size vs _).get? b = some u
  rw [sortedHeap_old (Nat.ne_of_lt hlt) (by rw [size_push']; exact Nat.lt_succ_of_lt hlt)]
  exact Heap.get?_push_of_some _ q
end
section
variable {X : Cx}
/-- set(xs), xs a list of texts -/
def rSetX (K : PySem.W.Frag) (w : World) : List V → Hp → VK → Prop := fun xs H Q => ∃ (l : Addr) (ks : List Str), xs = [V.ref l] ∧ SqL K H l (ks.map V.str) ∧ ks.length + 1 < scanBound ∧ ∀ a, H a = none → Q (.ref a) (upd H a (SetXO w a (insXs ks)))
theorem cr_setX (hc : X.calm = true) : CallR X (.type "set") (rSetX X.K X.w) := by
  intro pins s σ H xs us Q I r h
  obtain ⟨l, ks, rfl, hl, hf, q⟩ := h
  rw [Vals.ref1 r]
  obtain ⟨its, rv, pl, hz⟩ := I.list hl
  have hn : H s.heap.objs.size = none := I.hok.fresh (Nat.le_refl _)
  exact call_setX (P := X.prog) (w := X.w) ks (I.ok.hd hc) pl.isList (by simpa using rv.strs) hf fun h' tk R k => ⟨.ref s.heap.objs.size, _, I.laid (t' := tk) k (Nat.le_refl _) (setXO_new R), rfl, q _ hn⟩
/-- sorted(found) of a set of fewer than 64 texts -/
def rSortX (w : World) : List V → Hp → VK → Prop := fun vs H Q => ∃ (a : Addr) (l : List Str), vs = [V.ref a] ∧ H a = some (SetXO w a l) ∧ l.length < 64 ∧
  ∀ (ys : List Str) (p : Addr), ys.Perm l → sortedS ys = true → H p = none → Q (.ref p) (upd H p (.lst (ys.map V.str)))
theorem cr_sortX (hc : X.calm = true) : CallR X (.builtin "sorted") (rSortX X.w) := by
  intro pins s σ H vs us Q I r h
  obtain ⟨a, l, rfl, ha, h64, q⟩ := h
  rw [Vals.ref1 r]
  refine sorted_setX (setXO_get I ha) (I.ok.hd hc) h64 fun s' p out c ys k g o hp hg hi hs hm => ?_
  have hlen : (ys.map V.str).length ≤ sizeLine := by rw [List.length_map, hs.length_eq, sizeLine_eq]; omega
  have hn : H p = none := I.hok.fresh hp
  have J : Inv X pins σ (upd H p (.lst (ys.map V.str))) { s with heap := s'.heap, gens := s'.gens, drawn := s'.drawn, toks := s'.toks } :=
    I.call (ch := []) (Un.laid k hp hn) (I.hok.laid k hp ⟨hlen, out.toList, c, vals_of_strs hi, hg⟩) (by rw [g]; exact I.bare) (fun _ z => nomatch z)
  have e : s' = { s with heap := s'.heap, gens := s'.gens, drawn := s'.drawn, toks := s'.toks } := by
    cases s'
    cases s
    cases o
    rfl
  rw [e]
  exact ⟨.ref p, _, J, rfl, q ys p hs hm hn⟩
end
end Tw
/-! Tw: set comprehensions with two clauses, whatever the set holds; walks with any body. -/
namespace Tw
open PySem PySem.Spec PyProof.Rows L2 He
theorem turnSc2_out (elt t0 i0 t1 i1 : Expr) (ifs0 ifs1 : List Expr) (scope : Scope) (pos : Pos) (it acc : Value) (env : Env) :
    compTurn (.SetComp elt [⟨t0, i0, ifs0, 0⟩, ⟨t1, i1, ifs1, 0⟩] scope pos) 0 it acc env = (do
      standAt i0.pos
      match ← pyNext it with
      | none => pure (.done .next)
      | some v =>
        letOwnedTupleGo t0 it v
        assign t0 env v
        let mut ok := true
        for c in ifs0 do
          if ok then ok ← isTrue c env (eval c env)
        if ok then
          let x ← eval i1 env
          standAt i1.pos
          let x ← foldedSetIterable i1 env x
          let _ ← runOwn (.compStart (.SetComp elt [⟨t0, i0, ifs0, 0⟩, ⟨t1, i1, ifs1, 0⟩] scope pos) 1 (← holding [x] (pyIter x)) acc env) env
        again (.compLoop (.SetComp elt [⟨t0, i0, ifs0, 0⟩, ⟨t1, i1, ifs1, 0⟩] scope pos) 0 it acc env)) := by rfl
theorem turnSc2_in (elt t0 i0 t1 i1 : Expr) (ifs0 ifs1 : List Expr) (scope : Scope) (pos : Pos) (it acc : Value) (env : Env) :
    compTurn (.SetComp elt [⟨t0, i0, ifs0, 0⟩, ⟨t1, i1, ifs1, 0⟩] scope pos) 1 it acc env = (do
      standAt i1.pos
      match ← pyNext it with
      | none => pure (.done .next)
      | some v =>
        letOwnedTupleGo t1 it v
        assign t1 env v
        let mut ok := true
        for c in ifs1 do
          if ok then ok ← isTrue c env (eval c env)
        if ok then
          (do let v ← eval elt env; standAt elt.pos; let _ ← call (.builtin "set.add") [acc, v])
        again (.compLoop (.SetComp elt [⟨t0, i0, ifs0, 0⟩, ⟨t1, i1, ifs1, 0⟩] scope pos) 1 it acc env)) := by rfl

section
variable {prog : Program} {w : World} {A : Around} {R : Result → Shared → Prop} {s : Shared} {elt t0 i0 t1 i1 : Expr} {ifs0 ifs1 : List Expr} {scope : Scope} {pos : Pos} {it acc : Value} {env : Env}
/-- the loop of the first clause -/
theorem loopSc2_out (hs : ∀ x, foldedSetIterable i1 env x = pure x) (I : Nat → Shared → Prop)
    (turn : ∀ n s, I n s → wpAny (model prog w) A (pyNext it) (fun r s₁ => match r with
      | none => R (.ok .next) s₁
      | some v => wpAny (model prog w) A (letOwnedTupleGo t0 it v) (fun _ s₁' => wpAny (model prog w) A (assign t0 env v) (fun _ s₂ =>
          wpAny (model prog w) A (forIn ifs0 true fun c r => if r = true then do let ok ← isTrue c env (eval c env); pure (ForInStep.yield ok) else pure (ForInStep.yield r)) (fun ok s₃ =>
            if ok = true then wpAny (model prog w) A (eval i1 env) (fun x s₄ => wpAny (model prog w) A (pyIter x) (fun it1 s₅ =>
              codeAny (model prog w) A (.compStart (.SetComp elt [⟨t0, i0, ifs0, 0⟩, ⟨t1, i1, ifs1, 0⟩] scope pos) 1 it1 acc env) (fun r s' => match r with
                | .ok _ => ∃ m, m < n ∧ I m s'
                | .error _ => False) s₅) (notedBy (model prog w) A env fun e s' => R (.error e) s') s₄) (notedBy (model prog w) A env fun e s' => R (.error e) s') s₃
            else ∃ m, m < n ∧ I m s₃) (notedBy (model prog w) A env fun e s' => R (.error e) s') s₂) (notedBy (model prog w) A env fun e s' => R (.error e) s') s₁') (notedBy (model prog w) A env fun e s' => R (.error e) s') s₁) (notedBy (model prog w) A env fun e s' => R (.error e) s') s)
    (n : Nat) (h : I n s) :
    codeAny (model prog w) A (.compLoop (.SetComp elt [⟨t0, i0, ifs0, 0⟩, ⟨t1, i1, ifs1, 0⟩] scope pos) 0 it acc env) R s := by
  refine codeAny_loop rfl I (fun n s hI => ?_) n h
  show wpAny _ A ((compTurn (.SetComp elt [⟨t0, i0, ifs0, 0⟩, ⟨t1, i1, ifs1, 0⟩] scope pos) 0 it acc env).onRaise (fun x => do noteFrame x env; theTreesLotGoes x)) _ _ s
  refine wpAny_noted ?_
  rw [turnSc2_out]
  refine wpAny_bind (wpAny_standAt (wpAny_bind (wpAny_mono (turn n s hI) (fun r s₁ h₁ => ?_) fun _ _ h' => h')))
  cases r with
  | none => exact wpAny_pure h₁
  | some v =>
    refine wpAny_bind (wpAny_mono h₁ (fun _ s₁' h₁' => ?_) fun _ _ h' => h')
    refine wpAny_bind (wpAny_mono h₁' (fun _ s₂ h₂ => wpAny_bind (wpAny_mono h₂ (fun ok s₃ h₃ => ?_) fun _ _ h' => h')) fun _ _ h' => h')
    cases ok with
    | false => exact wpAny_pure ⟨rfl, h₃⟩
    | true =>
      refine wpAny_bind (wpAny_mono h₃ (fun x s₄ h₄ => ?_) fun _ _ h' => h')
      refine wpAny_bind (wpAny_standAt (wpAny_bind (wpAny_of_eq (hs x) (wpAny_bind (wpAny_holding (wpAny_mono h₄ (fun it1 s₅ h₅ => ?_) fun _ _ h' => h'))))))
      refine wpAny_bind (wpAny_runOwn ?_)
      rw [Around.mark_none]
      refine codeAny_mono h₅ fun r s' hr => ?_
      cases r with
      | ok f =>
        first
          | exact wpAny_pure ⟨rfl, hr⟩
          | exact wpAny_bind (wpAny_pure (wpAny_pure ⟨rfl, hr⟩))
      | error e => exact hr.elim
/-- the loop of the second -/
theorem loopSc2_in (I : Nat → Shared → Prop)
    (turn : ∀ n s, I n s → wpAny (model prog w) A (pyNext it) (fun r s₁ => match r with
      | none => R (.ok .next) s₁
      | some v => wpAny (model prog w) A (letOwnedTupleGo t1 it v) (fun _ s₁' => wpAny (model prog w) A (assign t1 env v) (fun _ s₂ =>
          wpAny (model prog w) A (forIn ifs1 true fun c r => if r = true then do let ok ← isTrue c env (eval c env); pure (ForInStep.yield ok) else pure (ForInStep.yield r)) (fun ok s₃ =>
            if ok = true then wpAny (model prog w) A (eval elt env) (fun x s₄ =>
              wpAny (model prog w) A (call (.builtin "set.add") [acc, x]) (fun _ s₅ => ∃ m, m < n ∧ I m s₅) (notedBy (model prog w) A env fun e s' => R (.error e) s') s₄) (notedBy (model prog w) A env fun e s' => R (.error e) s') s₃
            else ∃ m, m < n ∧ I m s₃) (notedBy (model prog w) A env fun e s' => R (.error e) s') s₂) (notedBy (model prog w) A env fun e s' => R (.error e) s') s₁') (notedBy (model prog w) A env fun e s' => R (.error e) s') s₁) (notedBy (model prog w) A env fun e s' => R (.error e) s') s)
    (n : Nat) (h : I n s) :
    codeAny (model prog w) A (.compLoop (.SetComp elt [⟨t0, i0, ifs0, 0⟩, ⟨t1, i1, ifs1, 0⟩] scope pos) 1 it acc env) R s := by
  refine codeAny_loop rfl I (fun n s hI => ?_) n h
  show wpAny _ A ((compTurn (.SetComp elt [⟨t0, i0, ifs0, 0⟩, ⟨t1, i1, ifs1, 0⟩] scope pos) 1 it acc env).onRaise (fun x => do noteFrame x env; theTreesLotGoes x)) _ _ s
  refine wpAny_noted ?_
  rw [turnSc2_in]
  refine wpAny_bind (wpAny_standAt (wpAny_bind (wpAny_mono (turn n s hI) (fun r s₁ h₁ => ?_) fun _ _ h' => h')))
  cases r with
  | none => exact wpAny_pure h₁
  | some v =>
    refine wpAny_bind (wpAny_mono h₁ (fun _ s₁' h₁' => ?_) fun _ _ h' => h')
    refine wpAny_bind (wpAny_mono h₁' (fun _ s₂ h₂ => wpAny_bind (wpAny_mono h₂ (fun ok s₃ h₃ => ?_) fun _ _ h' => h')) fun _ _ h' => h')
    cases ok with
    | false => exact wpAny_pure ⟨rfl, h₃⟩
    | true =>
      exact wpAny_bind (wpAny_bind (wpAny_mono h₃ (fun x s₄ h₄ => wpAny_bind (wpAny_standAt (wpAny_bind (wpAny_mono h₄ (fun _ s₅ h₅ => wpAny_pure (wpAny_pure ⟨rfl, h₅⟩)) fun _ _ z => z)))) fun _ _ z => z))
/-- the second clause's start -/
theorem startSc2 (h0 : codeAny (model prog w) A (.compLoop (.SetComp elt [⟨t0, i0, ifs0, 0⟩, ⟨t1, i1, ifs1, 0⟩] scope pos) 1 it acc env) R s)
    (h : wpAny (model prog w) A (pyIter it) (fun it' s' => codeAny (model prog w) A (.compLoop (.SetComp elt [⟨t0, i0, ifs0, 0⟩, ⟨t1, i1, ifs1, 0⟩] scope pos) 1 it' acc env) R s')
      (notedBy (model prog w) A env fun x s' => R (.error x) s') s) :
    codeAny (model prog w) A (.compStart (.SetComp elt [⟨t0, i0, ifs0, 0⟩, ⟨t1, i1, ifs1, 0⟩] scope pos) 1 it acc env) R s := by
  refine codeAny_of_tree ?_
  show wpAny _ _ ((compStart (.SetComp elt [⟨t0, i0, ifs0, 0⟩, ⟨t1, i1, ifs1, 0⟩] scope pos) 1 it acc env).onRaise (fun x => do noteFrame x env; standAt theWindowsPlace)) _ _ s
  refine wpAny_notedAt ?_
  unfold compStart
  show wpAny _ _ (ask >>= _) _ _ s
  refine wpAny_bind (wpAny_askSetting (wpAny_ite ?_))
  split
  · first
      | exact wpAny_bind (wpAny_pure (wpAny_pure (And.intro rfl h0)))
      | exact wpAny_pure (And.intro rfl h0)
  · first
      | exact wpAny_bind (wpAny_rule (wpAny_bind (wpAny_standAt (wpAny_bind (wpAny_mono h (fun it' s' h' => wpAny_pure (And.intro rfl h')) fun _ _ x => x)))))
      | (refine wpAny_bind (wpAny_rule ?_); show wpAny _ _ (standAt i1.pos >>= _) _ _ s; exact wpAny_bind (wpAny_standAt (wpAny_bind (wpAny_mono h (fun it' s' h' => wpAny_pure (And.intro rfl h')) fun _ _ x => x))))
end

section
variable {X : Cx}
/-- [elt for tg in iter if .. for tg1 in iter1 if ..]: behind the first clause's store and tests the second source's own loop, from which Nx is reached. vs: the block's names; vs1: those of the second target -/
def tSetC2 (o0 : Addr → HO) (ad : V → Addr → Hp → (Hp → Prop) → Prop) (wi : TI) (g : TG) (tt : TT) (wi1 : TI) (g1 : TG) (tt1 : TT) (te : TE) (vs vs1 : List Nat) : TE := fun σ H Q => wi σ H fun J H1 => ∀ D, H1 D = none → ∃ W : Nat → Nat → Hp → Prop, (∃ m, W 0 m (upd H1 D (o0 D))) ∧ ∀ i m H, W i m H →
  (J.stop i H ∧ Q (.ref D) H) ∨ (J.go i H ∧ ∃ Nx : Hp → Prop, (∀ H', Nx H' → ∃ m', m' < m ∧ W (i + 1) m' H') ∧ ∀ x H', J.yld i H x H' → g x (wipe σ vs) H' fun σ2 H2 => wipe σ2 vs = wipe σ vs ∧ tt σ2 H2 fun b H3 =>
    if b = true then wi1 σ2 H3 fun J1 H4 => ∃ W1 : Nat → Nat → Hp → Prop, (∃ m, W1 0 m H4) ∧ ∀ j k H, W1 j k H →
      (J1.stop j H ∧ Nx H) ∨ (J1.go j H ∧ ∃ Nx1 : Hp → Prop, (∀ H', Nx1 H' → ∃ k', k' < k ∧ W1 (j + 1) k' H') ∧ ∀ x H', J1.yld j H x H' → g1 x (wipe σ2 vs1) H' fun σ3 H5 => wipe σ3 vs1 = wipe σ2 vs1 ∧ tt1 σ3 H5 fun b H6 =>
        if b = true then te σ3 H6 fun y H7 => ad y D H7 Nx1 else Nx1 H6)
    else Nx H3)
theorem sc2_core {o0 : Addr → HO} {ad : V → Addr → Hp → (Hp → Prop) → Prop} (hnew : NewSet X.prog X.w o0) (hadd : AddSet X.prog X.w ad) {pins : List (Addr × Obj)} {s : Shared} {σ : L2.St} {H : Hp} {Q : VK} {elt tg iter tg1 iter1 : Expr} {ifs ifs1 : List Expr} {scope : Scope} {own : List (PySem.Str × Nat)} {vs1 : List Nat} {pos pos' : Pos} {wi wi1 : TI} {g g1 : TG} {tt tt1 : TT} {te : TE} {use : Option (Value → Sem Unit)} {Qf : Value → Shared → Prop}
    (hc : X.calm = true) (hN : X.N.Nodup) (I : Inv X pins σ H s) (hi : PI X tg iter wi) (ok : BlkOk X.N X.env.scope scope own) (hv : ∀ i ∈ vs1, i ∈ own.map (·.2))
    (hg : ∀ (s : Shared) (H : Hp) (C : Addr) (cl : List (PySem.Str × Addr)) (fp : List Addr), PG (X.blk s H scope (compEnvC scope cl C X.env) fp) tg g) (ht : ∀ (s : Shared) (H : Hp) (C : Addr) (cl : List (PySem.Str × Addr)) (fp : List Addr), PTs (X.blk s H scope (compEnvC scope cl C X.env) fp) ifs tt)
    (he : ∀ (s : Shared) (H : Hp) (C : Addr) (cl : List (PySem.Str × Addr)) (fp : List Addr), PE (X.blk s H scope (compEnvC scope cl C X.env) fp) elt te) (hs : ∀ x, foldedSetIterable iter X.env x = pure x)
    (hi1 : ∀ (s : Shared) (H : Hp) (C : Addr) (cl : List (PySem.Str × Addr)) (fp : List Addr), PI (X.blk s H scope (compEnvC scope cl C X.env) fp) tg1 iter1 wi1)
    (hg1 : ∀ (s : Shared) (H : Hp) (C : Addr) (cl : List (PySem.Str × Addr)) (fp : List Addr), PG (X.blk s H scope (compEnvC scope cl C X.env) fp) tg1 g1)
    (ht1 : ∀ (s : Shared) (H : Hp) (C : Addr) (cl : List (PySem.Str × Addr)) (fp : List Addr), PTs (X.blk s H scope (compEnvC scope cl C X.env) fp) ifs1 tt1)
    (hs1 : ∀ env x, foldedSetIterable iter1 env x = pure x)
    (h : tSetC2 o0 ad wi g tt wi1 g1 tt1 te (own.map (·.2)) vs1 σ H Q)
    (hRR : ∀ D C s' m H', Inv X pins σ H' s' → Q (.ref D) H' → s'.heap.Ns C m → FpOk X pins H' C → compPost (model X.prog X.w) X.A X.xe use Qf (.ref D) C (.ok .next) s') :
    wpAny (model X.prog X.w) X.A (comprehension (.SetComp elt [⟨tg, iter, ifs, 0⟩, ⟨tg1, iter1, ifs1, 0⟩] scope pos) scope X.env pos' (newSet (.type "set")) false (eval iter X.env) use) Qf X.xe s := by
  have hfree : ∀ y ∈ scope.names, y.2 = .free → ∃ c, X.env.cells.lookup y.1 = some c := fun y hy e => by
    rcases ok.free y hy e with k | k
    · exact I.ok.has _ (.inl k)
    · exact I.ok.has _ (.inr k)
  refine wpAny_comprehension_free (use := use) rfl hs (closure_ok hfree) ok.kind (fun y hy e => by rw [ok.uniq y hy, e])
    (thn (hi.run pins s σ H _ I h) fun xv s1 hx => thn hx fun itv s2 h2 => ?_)
  obtain ⟨it, fp, tn, J, H2, e, I2, T, st2, f2, q⟩ := h2
  subst e
  refine PpSet.newSet_ok (newEnv_comp ?_)
  generalize hD : s2.heap.objs.size = D
  have hDn : H2 D = none := I2.hok.fresh (Nat.le_of_eq hD)
  obtain ⟨W, ⟨m0, w0⟩, turn⟩ := q D hDn
  -- the new list
  generalize hs3 : ({ s2 with heap := s2.heap.push (set0 X.w) } : Shared) = s3
  have I3 : Inv X pins σ (upd H2 D (o0 D)) s3 := by
    rw [← hs3]
    refine I2.laid (t' := s2.toks) (fun b o e => Heap.get?_push_of_some _ e) (Nat.le_of_eq hD) ?_
    rw [← hD]
    exact hnew H2 s2.heap
  have h3 : s3.heap = s2.heap.push (set0 X.w) := by rw [← hs3]
  have sz : ∀ b ∈ fp, b < s2.heap.objs.size := fun b hb => by
    obtain ⟨o, e, _⟩ := T.obj _ _ st2 b hb
    exact Heap.lt_size e
  have f3 : ∀ b ∈ fp, FpOk X pins (upd H2 D (o0 D)) b ∧ b < s3.heap.objs.size := fun b hb => by
    have hlt := sz b hb
    refine ⟨⟨?_, (f2 b hb).2⟩, by rw [h3, Heap.size_push]; exact Nat.lt_succ_of_lt hlt⟩
    rw [upd_ne (by rw [← hD]; exact Nat.ne_of_lt hlt)]
    exact (f2 b hb).1
  have st3 : tn 0 s3.heap := T.keep _ _ _ st2 fun b _ o e => by rw [h3]; exact Heap.get?_push_of_some _ e
  have I4 := block_start I3 ok hN f3
  have pg := hg s3 (upd H2 D (o0 D)) s3.heap.objs.size (cellsFrom (s3.heap.objs.size + 1) scope.names (cloFrom X.env.cells scope.names [])) fp
  have pt := ht s3 (upd H2 D (o0 D)) s3.heap.objs.size (cellsFrom (s3.heap.objs.size + 1) scope.names (cloFrom X.env.cells scope.names [])) fp
  have pe := he s3 (upd H2 D (o0 D)) s3.heap.objs.size (cellsFrom (s3.heap.objs.size + 1) scope.names (cloFrom X.env.cells scope.names [])) fp
  have pi1 := hi1 s3 (upd H2 D (o0 D)) s3.heap.objs.size (cellsFrom (s3.heap.objs.size + 1) scope.names (cloFrom X.env.cells scope.names [])) fp
  have pg1 := hg1 s3 (upd H2 D (o0 D)) s3.heap.objs.size (cellsFrom (s3.heap.objs.size + 1) scope.names (cloFrom X.env.cells scope.names [])) fp
  have pt1 := ht1 s3 (upd H2 D (o0 D)) s3.heap.objs.size (cellsFrom (s3.heap.objs.size + 1) scope.names (cloFrom X.env.cells scope.names [])) fp
  show codeAny _ _ (.compStart (.SetComp elt [⟨tg, iter, ifs, 0⟩, ⟨tg1, iter1, ifs1, 0⟩] scope pos) 0 (.ref it) (.ref D) (compEnvC scope (cellsFrom (s3.heap.objs.size + 1) scope.names (cloFrom X.env.cells scope.names [])) s3.heap.objs.size X.env)) (compPost (model X.prog X.w) X.A X.xe use Qf (.ref D) s3.heap.objs.size) { s3 with heap := pushCells (s3.heap.push { cls := .type "dict", data := .dict #[] }) scope.names }
  have nfp : ∀ b ∈ fp, (upd H2 D (o0 D)) b = none := fun b hb => (f3 b hb).1.1
  generalize hce : compEnvC scope (cellsFrom (s3.heap.objs.size + 1) scope.names (cloFrom X.env.cells scope.names [])) s3.heap.objs.size X.env = ce at I4 pg pt pe pi1 pg1 pt1 ⊢
  have cL : ce.locals = s3.heap.objs.size := by subst hce; rfl
  generalize hH3 : upd H2 D (o0 D) = H3 at I3 I4 pg pt pe pi1 pg1 pt1 w0 nfp f3
  generalize hs4 : ({ s3 with heap := pushCells (s3.heap.push { cls := .type "dict", data := .dict #[] }) scope.names } : Shared) = s4 at I4 ⊢
  have st4 : tn 0 s4.heap := T.keep _ _ _ st3 fun b _ o e => by rw [← hs4]; exact pushCells_keeps _ _ _ _ (Heap.get?_push_of_some _ e)
  have stat : ∀ {σ' : L2.St} {H' : Hp} {s' : Shared}, Inv (X.blk s3 H3 scope ce fp) [] σ' H' s' → (∀ b ∈ fp, H' b = none) → ∀ b ∈ fp, FpOk (X.blk s3 H3 scope ce fp) [] H' b := fun {σ' H' s'} I' hn b hb =>
    ⟨hn b hb, (I'.ok.exf b hb).1, I'.ok.exfs b hb, .inl hb, fun x c e => (I'.ok.exf b hb).2 x c e, fun p hp => absurd (show p ∈ ([] : List (Addr × Obj)) ++ [] from hp) (by simp)⟩
  have loop : codeAny (model X.prog X.w) X.A (.compLoop (.SetComp elt [⟨tg, iter, ifs, 0⟩, ⟨tg1, iter1, ifs1, 0⟩] scope pos) 0 (.ref it) (.ref D) ce) (compPost (model X.prog X.w) X.A X.xe use Qf (.ref D) s3.heap.objs.size) s4 := by
    refine loopSc2_out (hs1 ce) (fun n s' => ∃ i H', Inv (X.blk s3 H3 scope ce fp) [] (wipe σ (own.map (·.2))) H' s' ∧ tn i s'.heap ∧ (∀ b ∈ fp, H' b = none) ∧ W i n H') ?_ m0 ⟨0, H3, I4, st4, nfp, w0⟩
    rintro n s5 ⟨i, H5, I5, st5, n5, w5⟩
    rcases turn i n H5 w5 with ⟨stop, qq⟩ | ⟨go, Nx, hNx, step⟩
    · have td := T.done (X.blk s3 H3 scope ce fp) rfl rfl rfl hc i [] s5 _ H5 (fun _ _ => False) I5 (stat I5 n5) st5 stop
      refine thnF td fun r s6 ⟨hr, I6⟩ => ?_
      subst hr
      -- back in the def's context
      have I7 : Inv X pins σ H5 s6 := I3.call' (ch := fp) I6.os I6.base I6.hok I6.bare fun b hb => ⟨(f3 b hb).1.2.2.2.1, (f3 b hb).1.2.1, (f3 b hb).1.2.2.2.2.1, (f3 b hb).1.2.2.2.2.2⟩
      have nC : H5 s3.heap.objs.size = none := by
        have z : H5 ce.locals = none := I6.free
        rw [cL] at z
        exact z
      obtain ⟨m, hn, _⟩ := I6.loc
      have hn : s6.heap.Ns ce.locals m := hn
      rw [cL] at hn
      exact hRR D s3.heap.objs.size s6 m H5 I7 qq hn (I3.fpOk (Nat.le_refl _) nC)
    · have ti := T.item (X.blk s3 H3 scope ce fp) rfl rfl rfl hc i [] s5 _ H5 (fun _ _ => False) I5 (stat I5 n5) st5 go
      refine thnF ti fun r s6 ⟨u, hr, h6⟩ => ?_
      subst hr
      refine thnF h6 fun _ s7 ⟨x, H7, I7, r7, y7, st7, n7⟩ => ?_
      have I7' := I7.pinned (stat I7 n7) (T.obj _ _ st7)
      refine thnF (pg.run _ s7 _ H7 x u _ I7' r7 (step x H7 y7)) fun _ s8 ⟨σ8, H8, I8, hw8, q8⟩ => ?_
      refine thnF (pt.run _ s8 σ8 H8 _ I8 q8) fun b s9 ⟨H9, I9, q9⟩ => ?_
      -- the turn's end, from any slots that know what the block knew at its start
      have fin : ∀ {σ9 : L2.St} {s' : Shared} {H' : Hp}, Inv (X.blk s3 H3 scope ce fp) ([] ++ pinsAt fp s7.heap) σ9 H' s' → (wipe σ (own.map (·.2))).length = σ9.length → (∀ (j : Nat) v, (wipe σ (own.map (·.2)))[j]? = some (some v) → σ9[j]? = some (some v)) → Nx H' →
          ∃ m, m < n ∧ ∃ i H', Inv (X.blk s3 H3 scope ce fp) [] (wipe σ (own.map (·.2))) H' s' ∧ tn i s'.heap ∧ (∀ b ∈ fp, H' b = none) ∧ W i m H' := fun {σ9 s' H'} I' hl hk nx => by
        obtain ⟨m', hm, w'⟩ := hNx H' nx
        have pin' : ∀ b ∈ fp, ∀ o, s7.heap.get? b = some o → s'.heap.get? b = some o ∧ H' b = none := fun b hb o e =>
          let z := I'.pin (b, o) (List.mem_append_right _ (List.mem_append_right _ (mem_pinsAt hb e)))
          ⟨z.1, z.2.1⟩
        refine ⟨m', hm, i + 1, H', (I'.unpinned (pins := [])).weak hl hk, T.keep _ _ _ st7 fun b hb o e => (pin' b hb o e).1, fun b hb => ?_, w'⟩
        obtain ⟨o, e, _⟩ := T.obj _ _ st7 b hb
        exact (pin' b hb o e).2
      have hl8 : (wipe σ (own.map (·.2))).length = σ8.length := by rw [← hw8, wipe_length]
      have hk8 : ∀ (j : Nat) v, (wipe σ (own.map (·.2)))[j]? = some (some v) → σ8[j]? = some (some v) := fun j v e => by
        rw [← hw8] at e
        exact (wipe_some e).1
      have hk9 : ∀ (j : Nat) v, (wipe σ (own.map (·.2)))[j]? = some (some v) → (wipe σ8 vs1)[j]? = some (some v) := fun j v e => by
        rw [← hw8] at e
        obtain ⟨e1, e2⟩ := wipe_some e
        rw [wipe_out fun z => e2 (hv j z)]
        exact e1
      cases b with
      | false =>
        simp only [Bool.false_eq_true, if_false] at q9 ⊢
        exact fin I9 hl8 hk8 q9
      | true =>
        simp only [if_true] at q9 ⊢
        refine thnF (pi1.run _ s9 σ8 H9 _ I9 q9) fun xv s10 hx => thnF hx fun itv s11 h11 => ?_
        obtain ⟨it1, fp1, tn1, J1, H11, e1, I11, T1, st11, f11, W1, ⟨m1, w1⟩, turn1⟩ := h11
        subst e1
        -- the inner loop
        have stat1 : ∀ {H' : Hp}, (∀ b ∈ fp1, H' b = none) → ∀ b ∈ fp1, FpOk (X.blk s3 H3 scope ce fp) ([] ++ pinsAt fp s7.heap) H' b := fun hn b hb => ⟨hn b hb, (f11 b hb).2⟩
        have loop1 : codeAny (model X.prog X.w) X.A (.compLoop (.SetComp elt [⟨tg, iter, ifs, 0⟩, ⟨tg1, iter1, ifs1, 0⟩] scope pos) 1 (.ref it1) (.ref D) ce)
            (fun r s' => match r with
              | .ok _ => ∃ m, m < n ∧ ∃ i H', Inv (X.blk s3 H3 scope ce fp) [] (wipe σ (own.map (·.2))) H' s' ∧ tn i s'.heap ∧ (∀ b ∈ fp, H' b = none) ∧ W i m H'
              | .error _ => False) s11 := by
          refine loopSc2_in (fun k s' => ∃ j H', Inv (X.blk s3 H3 scope ce fp) ([] ++ pinsAt fp s7.heap) (wipe σ8 vs1) H' s' ∧ tn1 j s'.heap ∧ (∀ b ∈ fp1, H' b = none) ∧ W1 j k H') ?_ m1 ⟨0, H11, I11.weak (wipe_length _ _) (fun j v e => (wipe_some e).1), st11, fun b hb => (f11 b hb).1, w1⟩
          rintro k s12 ⟨j, H12, I12, st12, n12, w12⟩
          rcases turn1 j k H12 w12 with ⟨stop1, nx1⟩ | ⟨go1, Nx1, hNx1, step1⟩
          · refine thnF (T1.done (X.blk s3 H3 scope ce fp) rfl rfl rfl hc j _ s12 (wipe σ8 vs1) H12 (fun _ _ => False) I12 (stat1 n12) st12 stop1) fun r s13 ⟨hr, I13⟩ => ?_
            subst hr
            exact fin I13 (hl8.trans (wipe_length σ8 vs1).symm) hk9 nx1
          · refine thnF (T1.item (X.blk s3 H3 scope ce fp) rfl rfl rfl hc j _ s12 (wipe σ8 vs1) H12 (fun _ _ => False) I12 (stat1 n12) st12 go1) fun r s13 ⟨u1, hr, h13⟩ => ?_
            subst hr
            refine thnF h13 fun _ s14 ⟨x1, H14, I14, r14, y14, st14, n14⟩ => ?_
            have I14' := I14.pinned (stat1 n14) (T1.obj _ _ st14)
            refine thnF (pg1.run _ s14 (wipe σ8 vs1) H14 x1 u1 _ I14' r14 (step1 x1 H14 y14)) fun _ s15 ⟨σ15, H15, I15, hw15, q15⟩ => ?_
            refine thnF (pt1.run _ s15 σ15 H15 _ I15 q15) fun b1 s16 ⟨H16, I16, q16⟩ => ?_
            have fin1 : ∀ {s' : Shared} {H' : Hp}, Inv (X.blk s3 H3 scope ce fp) (([] ++ pinsAt fp s7.heap) ++ pinsAt fp1 s14.heap) σ15 H' s' → Nx1 H' → ∃ m, m < k ∧ ∃ j H', Inv (X.blk s3 H3 scope ce fp) ([] ++ pinsAt fp s7.heap) (wipe σ8 vs1) H' s' ∧ tn1 j s'.heap ∧ (∀ b ∈ fp1, H' b = none) ∧ W1 j m H' := fun {s' H'} I' nx => by
              obtain ⟨m', hm, w'⟩ := hNx1 H' nx
              have pin' : ∀ b ∈ fp1, ∀ o, s14.heap.get? b = some o → s'.heap.get? b = some o ∧ H' b = none := fun b hb o e =>
                let z := I'.pin (b, o) (List.mem_append_right _ (List.mem_append_right _ (mem_pinsAt hb e)))
                ⟨z.1, z.2.1⟩
              refine ⟨m', hm, j + 1, H', I'.unpinned.weak (by rw [← hw15, wipe_length]) (fun j v e => by rw [← hw15] at e; exact (wipe_some e).1), T1.keep _ _ _ st14 fun b hb o e => (pin' b hb o e).1, fun b hb => ?_, w'⟩
              obtain ⟨o, e, _⟩ := T1.obj _ _ st14 b hb
              exact (pin' b hb o e).2
            cases b1 with
            | false =>
              simp only [Bool.false_eq_true, if_false] at q16 ⊢
              exact fin1 I16 q16
            | true =>
              simp only [if_true] at q16 ⊢
              refine thnF (pe.run _ s16 σ15 H16 _ I16 q16) fun z s17 ⟨yv, H17, I17, r17, nx⟩ => ?_
              exact hadd (X.blk s3 H3 scope ce fp) rfl rfl (fun _ _ z => False.elim z) I17 r17 nx fun H18 s18 I18 nx2 => fin1 I18 nx2
        exact startSc2 loop1 (T1.self X.A 0 _ _ _ st11 loop1)
  exact PpSet.codeAny_compStart_set loop (T.self X.A 0 _ _ _ st4 loop)
/-- as a value -/
theorem pe_setc2 {o0 : Addr → HO} {ad : V → Addr → Hp → (Hp → Prop) → Prop} (hnew : NewSet X.prog X.w o0) (hadd : AddSet X.prog X.w ad) {elt tg iter tg1 iter1 : Expr} {ifs ifs1 : List Expr} {scope : Scope} {own : List (PySem.Str × Nat)} {vs1 : List Nat} {pos : Pos} {wi wi1 : TI} {g g1 : TG} {tt tt1 : TT} {te : TE} (hc : X.calm = true) (hN : X.N.Nodup) (hi : PI X tg iter wi) (ok : BlkOk X.N X.env.scope scope own) (hv : ∀ i ∈ vs1, i ∈ own.map (·.2))
    (hg : ∀ (s : Shared) (H : Hp) (C : Addr) (cl : List (PySem.Str × Addr)) (fp : List Addr), PG (X.blk s H scope (compEnvC scope cl C X.env) fp) tg g) (ht : ∀ (s : Shared) (H : Hp) (C : Addr) (cl : List (PySem.Str × Addr)) (fp : List Addr), PTs (X.blk s H scope (compEnvC scope cl C X.env) fp) ifs tt)
    (hi1 : ∀ (s : Shared) (H : Hp) (C : Addr) (cl : List (PySem.Str × Addr)) (fp : List Addr), PI (X.blk s H scope (compEnvC scope cl C X.env) fp) tg1 iter1 wi1)
    (hg1 : ∀ (s : Shared) (H : Hp) (C : Addr) (cl : List (PySem.Str × Addr)) (fp : List Addr), PG (X.blk s H scope (compEnvC scope cl C X.env) fp) tg1 g1) (ht1 : ∀ (s : Shared) (H : Hp) (C : Addr) (cl : List (PySem.Str × Addr)) (fp : List Addr), PTs (X.blk s H scope (compEnvC scope cl C X.env) fp) ifs1 tt1)
    (he : ∀ (s : Shared) (H : Hp) (C : Addr) (cl : List (PySem.Str × Addr)) (fp : List Addr), PE (X.blk s H scope (compEnvC scope cl C X.env) fp) elt te) (hs : ∀ x, foldedSetIterable iter X.env x = pure x := by intro _; rfl) (hs1 : ∀ env x, foldedSetIterable iter1 env x = pure x := by intro _ _; rfl) :
    PE X (.SetComp elt [⟨tg, iter, ifs, 0⟩, ⟨tg1, iter1, ifs1, 0⟩] scope pos) (tSetC2 o0 ad wi g tt wi1 g1 tt1 te (own.map (·.2)) vs1) := by
  refine ⟨fun pins s σ H Q I h => ?_⟩
  rw [PpSet.eval_SetComp]
  refine sc2_core hnew hadd hc hN I hi ok hv hg ht he hs hi1 hg1 ht1 hs1 h fun D C s' m H' I' q hn f => ⟨m, hn, fun h'' sb => ?_⟩
  obtain ⟨f0, f1, f2, f3, f4, f5⟩ := f
  exact ⟨.ref D, H', I'.turned (t' := s'.toks) (fun b o hb e => (sb.2 b hb).trans e) f0 f1 f3 f4 f5, rfl, q⟩
end
/-- a walk over a tuple that stays, any body -/
theorem walk_tup {K : PySem.W.Frag} {a : Addr} {xs : List V} {body : (Hp → Prop) → V → Hp → Prop} {H0 : Hp} {Qd : Hp → Prop} (Pv : Nat → Hp → Prop) (h0 : Pv 0 H0) (hl : ∀ i H, i ≤ xs.length → Pv i H → SqT K H a xs) (hs : ∀ i x H, xs[i]? = some x → Pv i H → body (Pv (i + 1)) x H) (hd : ∀ H, Pv xs.length H → Qd H) :
    ∃ W : Nat → Nat → Hp → Prop, (∃ m, W 0 m H0) ∧ ∀ i m H, W i m H → ((Itt K a).stop i H ∧ Qd H) ∨ ((Itt K a).go i H ∧ ∃ Nx : Hp → Prop, (∀ H', Nx H' → ∃ m', m' < m ∧ W (i + 1) m' H') ∧ ∀ x H', (Itt K a).yld i H x H' → body Nx x H') := by
  refine ⟨fun i m H => m = xs.length - i ∧ i ≤ xs.length ∧ Pv i H, ⟨_, rfl, Nat.zero_le _, h0⟩, fun i m H ⟨e0, hi, hp⟩ => ?_⟩
  have hq := hl i H hi hp
  rcases Nat.lt_or_ge i xs.length with lt | ge
  · refine .inr ⟨⟨xs, xs[i], hq, by simp [lt]⟩, Pv (i + 1), fun H' hp' => ⟨_, by omega, rfl, lt, hp'⟩, fun x H' hy => ?_⟩
    obtain ⟨e1, hy⟩ := hy
    subst e1
    exact hs i x _ (hy xs hq) hp
  · have e1 : i = xs.length := by omega
    rw [e1] at hp ⊢
    exact .inl ⟨⟨xs, hq, Nat.le_refl _⟩, hd H hp⟩
/-- a walk over a range, any body -/
theorem walk_rng {lo : Int} {n : Nat} {body : (Hp → Prop) → V → Hp → Prop} {H0 : Hp} {Qd : Hp → Prop} (Pv : Nat → Hp → Prop) (h0 : Pv 0 H0) (hs : ∀ i H, i < n → Pv i H → body (Pv (i + 1)) (.int (lo + i)) H) (hd : ∀ H, Pv n H → Qd H) :
    ∃ W : Nat → Nat → Hp → Prop, (∃ m, W 0 m H0) ∧ ∀ i m H, W i m H → ((Itr lo n).stop i H ∧ Qd H) ∨ ((Itr lo n).go i H ∧ ∃ Nx : Hp → Prop, (∀ H', Nx H' → ∃ m', m' < m ∧ W (i + 1) m' H') ∧ ∀ x H', (Itr lo n).yld i H x H' → body Nx x H') := by
  refine ⟨fun i m H => m = n - i ∧ i ≤ n ∧ Pv i H, ⟨_, rfl, Nat.zero_le _, h0⟩, fun i m H ⟨e0, hi, hp⟩ => ?_⟩
  rcases Nat.lt_or_ge i n with lt | ge
  · refine .inr ⟨lt, Pv (i + 1), fun H' hp' => ⟨_, by omega, rfl, lt, hp'⟩, fun x H' hy => ?_⟩
    obtain ⟨e1, e2⟩ := hy
    subst e1 e2
    exact hs i _ lt hp
  · have e1 : i = n := by omega
    rw [e1] at hp ⊢
    exact .inl ⟨Nat.le_refl _, hd H hp⟩
end Tw
namespace K12
open PySem PySem.Spec PyProof.Rows L2 He Tw
/-- a list, a tuple or a dict -/
def isDat : HO → Bool
  | .lst _ => true
  | .tup _ => true
  | .dK _ => true
  | _ => false
mutual
/-- data, none of its objects at p -/
inductive Da (p : Addr) (H : Hp) : V → PyData → Prop
  | non : Da p H .non .none
  | bl (b : Bool) : Da p H (.bl b) (.bool b)
  | int (i : Int) : Da p H (.int i) (.int i)
  | str (z : Str) : Da p H (.str z) (.str z)
  | lst {a : Addr} {xs : List V} {ds : List PyData} (h : H a = some (.lst xs)) (n : a ≠ p) (m : a ≠ sysModules) (t : DaAll p H xs ds) : Da p H (.ref a) (.list ds)
  | tup {a : Addr} {xs : List V} {ds : List PyData} (h : H a = some (.tup xs)) (n : a ≠ p) (t : DaAll p H xs ds) : Da p H (.ref a) (.tuple ds)
  | dic {a : Addr} (h : H a = some (.dK [])) (n : a ≠ p) : Da p H (.ref a) (.dict [])
inductive DaAll (p : Addr) (H : Hp) : List V → List PyData → Prop
  | nil : DaAll p H [] []
  | cons {v : V} {vs : List V} {d : PyData} {ds : List PyData} (h : Da p H v d) (t : DaAll p H vs ds) : DaAll p H (v :: vs) (d :: ds)
end
/-- what data asks of a later heap -/
abbrev Kd (p : Addr) (H H' : Hp) : Prop := ∀ b o, H b = some o → isDat o = true → b ≠ p → H' b = some o
theorem Kd.same {p : Addr} {H H' : Hp} (e : Same H H') : Kd p H H' := fun b o h _ _ => e b o h
theorem Kd.butN {p : Addr} {H H' : Hp} (e : ButN p H H') : Kd p H H' := fun b o h i n => e b o h n fun ps z => by
  rw [z] at i
  cases i
theorem Kd.ext {p : Addr} {H H' : Hp} (e : LamX.ExtN H H') : Kd p H H' := Kd.butN (ButN.of e)
theorem Kd.but {p : Addr} {H H' : Hp} (e : But p H H') : Kd p H H' := fun b o h _ n => e b o h n
theorem Kd.ins {p a C dx : Addr} {fs : List (Str × V)} {H H' : Hp} (e : But a H H') (ha : H a = some (.ins C dx fs)) : Kd p H H' := fun b o h i _ => e b o h fun z => by
  rw [z, ha] at h
  cases h
  cases i
theorem Kd.trans {p : Addr} {H H1 H2 : Hp} (a : Kd p H H1) (b : Kd p H1 H2) : Kd p H H2 := fun c o h i n => b c o (a c o h i n) i n
mutual
theorem Da.keep {p : Addr} {H H' : Hp} (e : Kd p H H') : ∀ {v : V} {d : PyData}, Da p H v d → Da p H' v d
  | _, _, .non => .non
  | _, _, .bl b => .bl b
  | _, _, .int i => .int i
  | _, _, .str z => .str z
  | _, _, .lst h n m t => .lst (e _ _ h rfl n) n m (DaAll.keep e t)
  | _, _, .tup h n t => .tup (e _ _ h rfl n) n (DaAll.keep e t)
  | _, _, .dic h n => .dic (e _ _ h rfl n) n
theorem DaAll.keep {p : Addr} {H H' : Hp} (e : Kd p H H') : ∀ {vs : List V} {ds : List PyData}, DaAll p H vs ds → DaAll p H' vs ds
  | _, _, .nil => .nil
  | _, _, .cons h t => .cons (Da.keep e h) (DaAll.keep e t)
end
mutual
theorem Da.dx {K : Fg} {p : Addr} {H : Hp} : ∀ {v : V} {d : PyData}, Da p H v d → Dx K H v d
  | _, _, .non => .non
  | _, _, .bl b => .bl b
  | _, _, .int i => .int i
  | _, _, .str z => .str z
  | _, _, .lst h _ m t => .lst (SqL.of h) m (DaAll.dx t)
  | _, _, .tup h _ t => .tup (SqT.of h) (DaAll.dx t)
  | _, _, .dic h _ => .dic (kvs := []) (ds := []) h .nil
theorem DaAll.dx {K : Fg} {p : Addr} {H : Hp} : ∀ {vs : List V} {ds : List PyData}, DaAll p H vs ds → DxAll K H vs ds
  | _, _, .nil => .nil
  | _, _, .cons h t => .cons (Da.dx h) (DaAll.dx t)
end
mutual
theorem Da.dp {K : Fg} {p : Addr} {H : Hp} : ∀ {v : V} {d : PyData}, Da p H v d → d.canLay0 = true → Dp K H v d
  | _, _, .non, _ => .non
  | _, _, .bl b, _ => .bl b
  | _, _, .int i, _ => .int i
  | _, _, .str z, _ => .str z
  | _, _, .lst h _ _ t, c => .lst (SqL.of h) (DaAll.dp t (by simpa [PyData.canLay0] using c))
  | _, _, .tup h _ t, c => .tup (SqT.of h) (DaAll.dp t (by simpa [PyData.canLay0] using c))
  | _, _, .dic h _, c => by simp [PyData.canLay0] at c
theorem DaAll.dp {K : Fg} {p : Addr} {H : Hp} : ∀ {vs : List V} {ds : List PyData}, DaAll p H vs ds → PyData.canLayAll0 ds = true → DpAll K H vs ds
  | _, _, .nil, _ => .nil
  | _, _, .cons h t, c => by
    have c2 := Bool.and_eq_true_iff.mp (show (PyData.canLay0 _ && PyData.canLayAll0 _) = true by simpa [PyData.canLayAll0] using c)
    exact .cons (Da.dp h c2.1) (DaAll.dp t c2.2)
end
theorem DaAll.two {p : Addr} {H : Hp} : ∀ {vs : List V} {ds : List PyData}, DaAll p H vs ds → Paired (Da p H) vs ds
  | _, _, .nil => .nil
  | _, _, .cons h t => .cons h (DaAll.two t)
theorem DaAll.of {p : Addr} {H : Hp} : ∀ {vs : List V} {ds : List PyData}, Paired (Da p H) vs ds → DaAll p H vs ds
  | _, _, .nil => .nil
  | _, _, .cons h t => .cons h (DaAll.of t)
theorem DaAll.len {p : Addr} {H : Hp} {vs : List V} {ds : List PyData} (h : DaAll p H vs ds) : vs.length = ds.length := Paired.length h.two
theorem paired_dr {α β : Type} {F : α → β → Prop} : ∀ (n : Nat) {xs : List α} {ys : List β}, Paired F xs ys → Paired F (xs.drop n) (ys.drop n)
  | 0, _, _, h => h
  | _ + 1, _, _, .nil => .nil
  | n + 1, _, _, .cons _ b => paired_dr n b
theorem DaAll.app {p : Addr} {H : Hp} {ys : List V} {es : List PyData} (h2 : DaAll p H ys es) : ∀ {xs : List V} {ds : List PyData}, DaAll p H xs ds → DaAll p H (xs ++ ys) (ds ++ es)
  | _, _, .nil => h2
  | _, _, .cons h t => .cons h (DaAll.app h2 t)
theorem DaAll.get {p : Addr} {H : Hp} {xs : List V} {ds : List PyData} {i : Nat} {x : V} (h : DaAll p H xs ds) (hx : xs[i]? = some x) : ∃ d, ds[i]? = some d ∧ Da p H x d := by
  have hi : i < ds.length := by
    rw [← h.len]
    exact (List.getElem?_eq_some_iff.mp hx).1
  exact ⟨_, List.getElem?_eq_getElem hi, paired_get h.two hx (List.getElem?_eq_getElem hi)⟩
/-! ### how large -/
def okD : Nat → PyData → Bool
  | _, .none => true
  | _, .bool _ => true
  | _, .int i => decide (i.natAbs ≤ 9)
  | _, .str z => smallB 12 z
  | n + 1, .list ds => decide (ds.length ≤ 6) && ds.all (okD n)
  | n + 1, .tuple ds => decide (ds.length ≤ 6) && ds.all (okD n)
  | 0, .list _ => false
  | 0, .tuple _ => false
  | _ + 1, .dict kvs => kvs.isEmpty
  | 0, .dict _ => false
def capB : Nat → Nat
  | 0 => 1921
  | n + 1 => 6 * (capB n + 2) + 3
theorem capB_ge (n : Nat) : 1921 ≤ capB n := by
  induction n with
  | zero => exact Nat.le_refl _
  | succ n ih =>
    show 1921 ≤ 6 * (capB n + 2) + 3
    omega
theorem okAll {n : Nat} (ih : ∀ d, okD n d = true → mild d = true ∧ cap d ≤ capB n ∧ d.depth ≤ n) : ∀ ds : List PyData, ds.all (okD n) = true → mildAll ds = true ∧ capAll ds ≤ ds.length * (capB n + 2) ∧ PyData.depthAll ds ≤ n
  | [], _ => ⟨rfl, Nat.zero_le _, Nat.zero_le _⟩
  | d :: ds, h => by
    rw [List.all_cons, Bool.and_eq_true] at h
    obtain ⟨a1, a2, a3⟩ := ih d h.1
    obtain ⟨b1, b2, b3⟩ := okAll ih ds h.2
    refine ⟨by simp only [mildAll, a1, b1, Bool.and_self], ?_, ?_⟩
    · simp only [capAll, List.length_cons, Nat.succ_mul]
      omega
    · simp only [PyData.depthAll]
      omega
theorem okD_facts : ∀ (n : Nat) (d : PyData), okD n d = true → mild d = true ∧ cap d ≤ capB n ∧ d.depth ≤ n := by
  intro n
  induction n with
  | zero =>
    intro d h
    cases d with
    | none => exact ⟨rfl, by simp only [cap, capB]; decide, Nat.le_refl _⟩
    | bool b => exact ⟨rfl, by simp only [cap, capB]; decide, Nat.le_refl _⟩
    | int i =>
      have h2 : i.natAbs ≤ 9 := of_decide_eq_true h
      have h3 := Nat.log2_le_self i.natAbs
      exact ⟨by unfold mild; exact decide_eq_true (by omega), by simp only [cap, capB]; decide, Nat.le_refl _⟩
    | str z =>
      have s := smallB_ok (show smallB 12 z = true from h)
      refine ⟨s.mild, ?_, Nat.le_refl _⟩
      have := s.1
      simp only [cap, capB]
      omega
    | list ds => cases h
    | tuple ds => cases h
    | dict kvs => cases h
  | succ n ih =>
    intro d h
    have cg := capB_ge n
    have e : capB (n + 1) = 6 * (capB n + 2) + 3 := rfl
    cases d with
    | none => exact ⟨rfl, by simp only [cap]; omega, Nat.zero_le _⟩
    | bool b => exact ⟨rfl, by simp only [cap]; omega, Nat.zero_le _⟩
    | int i =>
      have h2 : i.natAbs ≤ 9 := of_decide_eq_true h
      have h3 := Nat.log2_le_self i.natAbs
      exact ⟨by unfold mild; exact decide_eq_true (by omega), by simp only [cap]; omega, Nat.zero_le _⟩
    | str z =>
      have s := smallB_ok (show smallB 12 z = true from h)
      refine ⟨s.mild, ?_, Nat.zero_le _⟩
      have := s.1
      simp only [cap]
      omega
    | list ds =>
      obtain ⟨h1, h2⟩ := ba (show (decide (ds.length ≤ 6) && ds.all (okD n)) = true from h)
      obtain ⟨a1, a2, a3⟩ := okAll ih ds h2
      have l6 := of_decide_eq_true h1
      have := Nat.mul_le_mul_right (capB n + 2) l6
      refine ⟨by simpa [mild] using a1, ?_, ?_⟩
      · simp only [cap]
        omega
      · simp only [PyData.depth]
        omega
    | tuple ds =>
      obtain ⟨h1, h2⟩ := ba (show (decide (ds.length ≤ 6) && ds.all (okD n)) = true from h)
      obtain ⟨a1, a2, a3⟩ := okAll ih ds h2
      have l6 := of_decide_eq_true h1
      have := Nat.mul_le_mul_right (capB n + 2) l6
      refine ⟨by simpa [mild] using a1, ?_, ?_⟩
      · simp only [cap]
        omega
      · simp only [PyData.depth]
        omega
    | dict kvs =>
      cases kvs with
      | nil => exact ⟨rfl, by simp only [cap, capKv]; omega, by simp only [PyData.depth, PyData.depthKv]; omega⟩
      | cons k r => cases h
theorem okD_show {d : PyData} (h : okD 4 d = true) : mild d = true ∧ d.depth ≤ 64 ∧ cap d ≤ 16777216 := by
  obtain ⟨a, b, c⟩ := okD_facts 4 d h
  refine ⟨a, by omega, Nat.le_trans b (by decide)⟩
theorem okL {n : Nat} {ds : List PyData} (h : okD (n + 1) (.list ds) = true) : ds.length ≤ 6 ∧ ∀ d ∈ ds, okD n d = true := by
  obtain ⟨h1, h2⟩ := ba (show (decide (ds.length ≤ 6) && ds.all (okD n)) = true from h)
  exact ⟨of_decide_eq_true h1, List.all_eq_true.mp h2⟩
theorem okT {n : Nat} {ds : List PyData} (h : okD (n + 1) (.tuple ds) = true) : ds.length ≤ 6 ∧ ∀ d ∈ ds, okD n d = true := okL (n := n) h
theorem okL_of {n : Nat} {ds : List PyData} (h1 : ds.length ≤ 6) (h2 : ∀ d ∈ ds, okD n d = true) : okD (n + 1) (.list ds) = true := by
  show (decide (ds.length ≤ 6) && ds.all (okD n)) = true
  rw [decide_eq_true h1, Bool.true_and]
  exact List.all_eq_true.mpr h2
theorem okT_of {n : Nat} {ds : List PyData} (h1 : ds.length ≤ 6) (h2 : ∀ d ∈ ds, okD n d = true) : okD (n + 1) (.tuple ds) = true := okL_of (n := n) h1 h2
theorem okStr {n : Nat} {z : Str} (h : okD n (.str z) = true) : Small 12 z := smallB_ok (by cases n <;> exact h)
/-! ### what it is as a case -/
def tyD : PyData → String
  | .none => "NoneType"
  | .bool _ => "bool"
  | .int _ => "int"
  | .str _ => "str"
  | .list _ => "list"
  | .tuple _ => "tuple"
  | .dict _ => "dict"
theorem Da.bv {p : Addr} {H : Hp} {v : V} {d : PyData} (h : Da p H v d) : Bv H v (tyD d) := by
  cases h with
  | non => exact .non
  | bl b => exact .bl b
  | int i => exact .int i
  | str z => exact .str z
  | lst h => exact .lst h
  | tup h => exact .tup h
  | dic h => exact .dK h
def pairOk : PyData → Bool
  | .tuple [.bool _, .str z] => wordOk (.str z)
  | _ => false
def caseD : PyData → Option Nat
  | .tuple ds => caseBad (ds.map pairOk)
  | _ => some 0
def dueD (ds : List PyData) : Option (Nat × Nat) := casesBad (ds.map caseD)
theorem pair_two {p : Addr} {H : Hp} {a b : V} {d e : PyData} (ha : Da p H a d) (hb : Da p H b e) : pairOk (.tuple [d, e]) = (isB a && wordOk b) := by
  cases ha <;> cases hb <;> rfl
theorem Da.pairV {n : Nat} {p : Addr} {H : Hp} {v : V} {d : PyData} (h : Da p H v d) (ok : okD n d = true) : PairV H v (pairOk d) := by
  have b := h.bv
  cases h with
  | non => exact .other b (show ("NoneType" : String) ≠ "tuple" by decide)
  | bl _ => exact .other b (show ("bool" : String) ≠ "tuple" by decide)
  | int _ => exact .other b (show ("int" : String) ≠ "tuple" by decide)
  | str _ => exact .other b (show ("str" : String) ≠ "tuple" by decide)
  | lst _ _ _ _ => exact .other b (show ("list" : String) ≠ "tuple" by decide)
  | dic _ _ => exact .other b (show ("dict" : String) ≠ "tuple" by decide)
  | @tup a xs ds h _ t =>
    cases n with
    | zero => cases ok
    | succ n =>
      obtain ⟨l6, okA⟩ := okT ok
      have lx := t.len
      cases t with
      | nil => exact .tup h (by decide) (by decide)
      | cons h1 t1 =>
        cases t1 with
        | nil =>
            have ef : ∀ (x : PyData), pairOk (.tuple [x]) = false := fun x => by cases x <;> rfl
            rw [ef]
            exact .tup h (show (1:Nat) ≠ 2 by decide) (show (1:Nat) ≤ 1000 by decide)
        | cons h2 t2 =>
          cases t2 with
          | nil =>
            rw [pair_two h1 h2]
            refine .two h h1.bv h2.bv fun z e => ?_
            subst e
            cases h2
            have := (okStr (okA _ (List.mem_cons_of_mem _ List.mem_cons_self))).1
            omega
          | @cons v3 vs3 d3 ds3 h3 t3 =>
            have ef : ∀ (x y : PyData), pairOk (.tuple (x :: y :: d3 :: ds3)) = false := fun x y => by cases x <;> cases y <;> rfl
            rw [ef]
            exact .tup h (by simp only [List.length_cons]; omega) (by omega)
theorem caseVs {n : Nat} {p : Addr} {H : Hp} : ∀ {xs : List V} {ds : List PyData}, DaAll p H xs ds → (∀ d ∈ ds, okD n d = true) → Paired (PairV H) xs (ds.map pairOk)
  | _, _, .nil, _ => .nil
  | _, _, .cons h t, ok => .cons (h.pairV (ok _ List.mem_cons_self)) (caseVs t fun d hd => ok d (List.mem_cons_of_mem _ hd))
theorem Da.caseV {n : Nat} {p : Addr} {H : Hp} {v : V} {d : PyData} (h : Da p H v d) (ok : okD n d = true) : CaseV H v (caseD d) := by
  have b := h.bv
  cases h with
  | non => exact .other b (show ("NoneType" : String) ≠ "tuple" by decide)
  | bl _ => exact .other b (show ("bool" : String) ≠ "tuple" by decide)
  | int _ => exact .other b (show ("int" : String) ≠ "tuple" by decide)
  | str _ => exact .other b (show ("str" : String) ≠ "tuple" by decide)
  | lst _ _ _ _ => exact .other b (show ("list" : String) ≠ "tuple" by decide)
  | dic _ _ => exact .other b (show ("dict" : String) ≠ "tuple" by decide)
  | @tup a xs ds h _ t =>
    cases n with
    | zero => cases ok
    | succ n =>
      obtain ⟨l6, okA⟩ := okT ok
      have lx := t.len
      exact .tup h (caseVs t okA) (by omega)
theorem casesV {n : Nat} {p : Addr} {H : Hp} : ∀ {xs : List V} {ds : List PyData}, DaAll p H xs ds → (∀ d ∈ ds, okD n d = true) → Paired (CaseV H) xs (ds.map caseD)
  | _, _, .nil, _ => .nil
  | _, _, .cons h t, ok => .cons (h.caseV (ok _ List.mem_cons_self)) (casesV t fun d hd => ok d (List.mem_cons_of_mem _ hd))
/-! ### right cases -/
def RightC (ds : List PyData) : Prop := ∀ d ∈ ds, ∃ es, d = .tuple es ∧ ∀ e ∈ es, ∃ b z, e = .tuple [.bool b, .str z] ∧ wordOk (.str z) = true
theorem firstNo_none : ∀ {os : List Bool} {n : Nat}, firstNo os n = none → ∀ o ∈ os, o = true
  | [], _, _ => fun _ h => nomatch h
  | o :: os, n, h => by
    unfold firstNo at h
    by_cases e : o = true
    · rw [if_pos e] at h
      intro x hx
      rcases List.mem_cons.mp hx with z | z
      · rw [z]; exact e
      · exact firstNo_none h x z
    · rw [if_neg e] at h
      cases h
theorem firstCase_none : ∀ {rs : List (Option Nat)} {n : Nat}, firstCase rs n = none → ∀ r ∈ rs, r = none
  | [], _, _ => fun _ h => nomatch h
  | some j :: rs, n, h => by cases h
  | none :: rs, n, h => fun r hr => by
    rcases List.mem_cons.mp hr with z | z
    · exact z
    · exact firstCase_none (n := n + 1) h r z
theorem caseBad_none {os : List Bool} (h : caseBad os = none) : os.length ≤ 4 ∧ ∀ o ∈ os, o = true := by
  unfold caseBad at h
  by_cases e : os = []
  · rw [if_pos e] at h
    cases h
  · rw [if_neg e] at h
    cases f : firstNo (os.take 4) 0 with
    | some j =>
      rw [f] at h
      cases h
    | none =>
      rw [f] at h
      have h2 : (if 4 < os.length then some 4 else none) = (none : Option Nat) := h
      by_cases l : 4 < os.length
      · rw [if_pos l] at h2
        cases h2
      · have e4 : os.take 4 = os := List.take_of_length_le (by omega)
        rw [e4] at f
        exact ⟨by omega, firstNo_none f⟩
theorem casesBad_none {rs : List (Option Nat)} (h : casesBad rs = none) : rs.length ≤ 4 ∧ ∀ r ∈ rs, r = none := by
  unfold casesBad at h
  cases f : firstCase (rs.take 4) 0 with
  | some j =>
    rw [f] at h
    cases h
  | none =>
    rw [f] at h
    have h2 : (if 4 < rs.length then some (4, 0) else if rs = [] then some (0, 0) else none) = (none : Option (Nat × Nat)) := h
    by_cases l : 4 < rs.length
    · rw [if_pos l] at h2
      cases h2
    · have e4 : rs.take 4 = rs := List.take_of_length_le (by omega)
      rw [e4] at f
      exact ⟨by omega, firstCase_none f⟩
theorem pairOk_true {d : PyData} (h : pairOk d = true) : ∃ b z, d = .tuple [.bool b, .str z] ∧ wordOk (.str z) = true := by
  unfold pairOk at h
  split at h
  · exact ⟨_, _, rfl, h⟩
  · cases h
theorem right_of {ds : List PyData} (h : dueD ds = none) : RightC ds := by
  intro d hd
  have h1 := (casesBad_none h).2 _ (List.mem_map.mpr ⟨d, hd, rfl⟩)
  unfold caseD at h1
  split at h1
  · rename_i es
    exact ⟨es, rfl, fun e he => pairOk_true ((caseBad_none h1).2 _ (List.mem_map.mpr ⟨e, he, rfl⟩))⟩
  · cases h1
theorem lay_all : ∀ {ds : List PyData}, (∀ d ∈ ds, d.canLay0 = true) → PyData.canLayAll0 ds = true
  | [], _ => by simp only [PyData.canLayAll0]
  | d :: ds, h => by simp only [PyData.canLayAll0, h d List.mem_cons_self, lay_all fun x hx => h x (List.mem_cons_of_mem _ hx), Bool.and_self]
theorem right_lay {n : Nat} {ds : List PyData} (r : RightC ds) (ok : ∀ d ∈ ds, okD (n + 2) d = true) : PyData.canLayAll0 ds = true := by
  refine lay_all fun d hd => ?_
  obtain ⟨es, rfl, he⟩ := r d hd
  obtain ⟨_, ok2⟩ := okT (ok _ hd)
  simp only [PyData.canLay0]
  refine lay_all fun e hm => ?_
  obtain ⟨b, z, rfl, _⟩ := he e hm
  obtain ⟨_, ok3⟩ := okT (ok2 _ hm)
  have s := (okStr (ok3 _ (List.mem_cons_of_mem _ List.mem_cons_self))).strOk
  simp only [PyData.canLay0, PyData.canLayAll0, s, Bool.and_self]
/-- the words of a case -/
def wordP1 : PyData → List Str
  | .tuple [_, .str z] => [z]
  | _ => []
def wordsP (es : List PyData) : List Str := es.flatMap wordP1
def flagsP (es : List PyData) : List Str := (wordsP es).filter fun z => flagOk (.str z)
def flags1 : PyData → List Str
  | .tuple es => flagsP es
  | _ => []
def flagsD (ds : List PyData) : List Str := ds.flatMap flags1
end K12
namespace Tw
open PySem PySem.Spec PyProof.Rows L2 He
section
variable {X : Cx} {CX : CXT} {k : Nat} {f C : Addr} {sp : Sp} {E : XK} {x : Str} {p pos : Pos}
/-- C() by a positional promise of its __init__ -/
theorem pe_makeR0 (M : Mk X.K C f) (F : FnR X.prog X.w X.K X.mg X.base CX k f sp) (hr : Room (k + 1) X.A) (hg : Gl X x) (hm : X.mg x = some (.ref C)) (hx : Passes CX X E) (hdb : (x == ("__debug__" : Str)) = false := by decide) :
    PE X (.Call (.Name x p) [] [] pos) (StX.tMakeR C sp E tNil) := by
  refine ⟨fun pins s σ H Q I h => wpAny_Call_Name_kw (ld_glob I hg hm ?_ hdb)⟩
  exact PySem.W.callWith_K0 I.kIn M.kp (StX.run_makeR (us := []) (vs := []) M F hr hx I .nil h)
end
theorem codeIn_ref {K : Fg} {v : Value} {q : Str} (h : PySem.W.codeIn K v q = true) : ∃ c, v = .ref c := by
  unfold PySem.W.codeIn at h
  split at h
  · exact ⟨_, rfl⟩
  · cases h
end Tw
namespace K12
open PySem PySem.Spec PyProof.Rows L2 He Tw
/-- a test that keeps these cases -/
def TestAt (K : Fg) (p : Addr) (H : Hp) (a : Addr) (ds : List PyData) : Prop := ∃ dx t, H a = some (.ins (ga K "Test") dx [("cases", .ref t)]) ∧ Da p H (.ref t) (.tuple ds)
theorem TestAt.same {K : Fg} {p a : Addr} {H H' : Hp} {ds : List PyData} (e : Same H H') (h : TestAt K p H a ds) : TestAt K p H' a ds := by
  obtain ⟨dx, t, h1, h2⟩ := h
  exact ⟨dx, t, e _ _ h1, h2.keep (Kd.same e)⟩
theorem TestAt.ext {K : Fg} {p a : Addr} {H H' : Hp} {ds : List PyData} (e : LamX.ExtN H H') (h : TestAt K p H a ds) : TestAt K p H' a ds := by
  obtain ⟨dx, t, h1, h2⟩ := h
  exact ⟨dx, t, e _ _ h1 (fun _ z => nomatch z), h2.keep (Kd.ext e)⟩
def spTest (K : Fg) : Sp := fun vs H Q E => ∃ (p a dx : Addr) (xs : List V) (ds : List PyData), vs = .ref a :: xs ∧ H a = some (.ins (ga K "Test") dx []) ∧ DaAll p H xs ds ∧ okD 4 (.list ds) = true ∧ H p ≠ none ∧
  (dueD ds = none → ∀ H', But a H H' → TestAt K p H' a ds → Q .non H') ∧
  (∀ k j, dueD ds = some (k, j) → ∀ (d : Addr) (H' : Hp), Same H H' → H' d = some (.xd [("word", .int (j : Nat)), ("at", .int (k : Nat))]) → E (.ref (ga K "BadTest")) (some d) H')
def spTestB (K : Fg) : Sp := fun vs H Q E => ∃ (p a dx t : Addr) (xs : List V) (ds : List PyData), vs = [.ref a, .ref t] ∧ H a = some (.ins (ga K "Test") dx []) ∧ H t = some (.tup xs) ∧ t ≠ p ∧ DaAll p H xs ds ∧ okD 4 (.list ds) = true ∧
  (dueD ds = none → ∀ H', But a H H' → TestAt K p H' a ds → Q .non H') ∧
  (∀ k j, dueD ds = some (k, j) → ∀ (d : Addr) (H' : Hp), Same H H' → H' d = some (.xd [("word", .int (j : Nat)), ("at", .int (k : Nat))]) → E (.ref (ga K "BadTest")) (some d) H')
abbrev s_init : Stmt := inClass (topS 29) 0
theorem sc_init : FnScope ["self", "cases"] ["self", "cases"] (defScope s_init) := ⟨rfl, rfl, rfl, by decide +kernel, rfl, by decide +kernel, by decide +kernel⟩
section
variable {P : Program} {w : World} {K : Fg} {mg : Str → Option Value} {base : Heap} {fd : Nat → FuncData}
theorem GR_test (D : DefsK K fd) (T : Txt K mg) : FnR P w K mg base (L2.CX P w) 9 (ma K (ga K "Test") "__init__") (spTest K) := by
  have gC := T.fn (x := "need_cases") (by decide +kernel)
  have FC : FnP K "need_cases" "need_cases" s_cases (ga K "need_cases") (fd 8) := D 8 _ rfl
  have GC : FnOk P w K mg base (L2.CX P w) 8 (ga K "need_cases") (fd 8) ["cases"] (spCases K) := G_cases D T
  have bC : Binds K (fd 8) ["cases"] [] := FC.bindsN fun _ _ _ _ _ _ us hl => match us, hl with | [_], _ => rfl
  have F : FnP K "__init__" "Test.__init__" s_init (ma K (ga K "Test") "__init__") (fd 1) := D 1 _ rfl
  obtain ⟨oc, od, dV, kV, doc, pm, an, cdv, ct, osl, e0, lk, hcd, hD, hK⟩ := F.ex
  obtain rfl : dV = .none := hD.elim (fun z => z.2) fun z => absurd rfl z.1
  rw [e0] at lk
  have body : FnR P w K mg base (L2.CX P w) 9 (ma K (ga K "Test") "__init__") _ := StX.fn_star (sp := spTestB K) (k := 8) (ps := ["self"]) (pv := "cases") lk hcd sc_init StX.cxUp (StX.bind_star1 (B := fun vs => bindArgs (PySem.W.fnOf "__init__" "Test.__init__" (defArgs s_init) (defBody s_init) (defScope s_init) (Value.none) kV doc pm an cdv ct) ⟨vs, []⟩) (p1 := "self") (pv := "cases") (fun _ => rfl) (fun _ _ _ => rfl)) (fun A outer s H vs Q E hr h => ?_)
  · intro A outer s H us vs Q E hr e0 r hsp
    obtain ⟨p, a, dx, xs, ds, rfl, ha, hx, ok, hp, kg, kb⟩ := hsp
    have l6 := (okL ok).1
    have lx := hx.len
    refine body A outer s H us _ Q E hr e0 r ⟨[.ref a], xs, rfl, rfl, sz1000 (by omega), fun t ht => ?_⟩
    have s1 := same_new (o := .tup xs) ht
    refine ⟨p, a, dx, t, xs, ds, rfl, s1 _ _ ha, upd_same, fun z => hp (by rw [← z]; exact ht), hx.keep (Kd.same s1), ok, fun e H' b t' => kg e H' ((But.of s1).trans b) t', fun k j e d H' s g => kb k j e d H' (s1.trans s) g⟩
  · obtain ⟨p, a, dx, t, xs, ds, rfl, ha, ht, ntp, hx, ok, kg, kb⟩ := h
    have l6 := (okL ok).1
    have lx := hx.len
    have nat_ : t ≠ a := fun z => by
      rw [z, ha] at ht
      cases ht
    refine ⟨_, (pss_cons (ps_expr (pe_call (E := E) GC (hr.mono (by decide)) rfl gC FC.kp bC .nil (passes_call (takes_of rfl rfl rfl rfl) (fun _ _ _ _ h => h)) (pa_cons (pv 1) pa_nil)))
      (pss_one (ps_fld (pv 0) (pv 1) rfl))), ?_⟩
    refine ⟨_, rfl, t, xs, ds.map caseD, rfl, SqT.of ht, casesV hx (okL ok).2, by omega, fun e H1 s1 => ?_, fun k j e d H1 s1 g1 => kb k j e d H1 s1 g1⟩
    refine ⟨_, rfl, _, rfl, a, _, dx, _, rfl, s1 _ _ ha, T.clsT, T.naT, (by show 0 < 1000; decide), ?_⟩
    have ha1 := s1 _ _ ha
    have b1 : But a H1 (upd H1 a (.ins (ga K "Test") dx [("cases", .ref t)])) := But.upd
    exact kg e _ ((But.of s1).trans b1) ⟨dx, t, upd_same, .tup (by rw [upd_ne nat_]; exact s1 _ _ ht) ntp (hx.keep ((Kd.same s1).trans (Kd.ins b1 ha1)))⟩
/-- a test made at a new place -/
theorem test_or {p x dx : Addr} {xs : List V} {ds : List PyData} {H : Hp} {R : VK} {E : XK} (hx : H x = none) (hd : H dx = none) (hne : dx ≠ x) (h : DaAll p H xs ds) (ok : okD 4 (.list ds) = true) (hp : H p ≠ none)
    (kg : dueD ds = none → ∀ H', Same H H' → TestAt K p H' x ds → R .non H')
    (kb : ∀ k j, dueD ds = some (k, j) → ∀ (d : Addr) (H' : Hp), Same H H' → H' d = some (.xd [("word", .int (j : Nat)), ("at", .int (k : Nat))]) → E (.ref (ga K "BadTest")) (some d) H') :
    spTest K (.ref x :: xs) (upd (upd H dx (.own x)) x (.ins (ga K "Test") dx [])) R E := by
  have s0 : Same H (upd (upd H dx (.own x)) x (.ins (ga K "Test") dx [])) := fun b o e => by
    rw [upd_ne (ne_of_none e hx), upd_ne (ne_of_none e hd)]
    exact e
  refine ⟨p, x, dx, xs, ds, rfl, upd_same, h.keep (Kd.same s0), ok, fun z => hp ?_, fun e H' b t => kg e H' (fun c o q => b _ _ (s0 _ _ q) (ne_of_none q hx)) t, fun k j e d H' s g => kb k j e d H' (s0.trans s) g⟩
  cases q : H p with
  | none => rfl
  | some o =>
    rw [s0 _ _ q] at z
    cases z
end
/-! ### == of tests -/
abbrev s_teq : Stmt := inClass (topS 29) 3
theorem sc_teq : FnScope ["self", "other"] ["self", "other"] (defScope s_teq) := ⟨rfl, rfl, rfl, by decide +kernel, rfl, by decide +kernel, by decide +kernel⟩
def spTeq (K : Fg) : Sp := fun vs H Q _ => ∃ (p a : Addr) (y : V) (ds : List PyData), vs = [.ref a, y] ∧ TestAt K p H a ds ∧
  ((∃ b es, y = .ref b ∧ TestAt K p H b es ∧ SeqAt.shaped (.tuple ds) = true ∧ SeqAt.shaped (.tuple es) = true ∧ Q (.bl (PyData.eqvAll ds es)) H) ∨ (∃ t, Bv H y t ∧ t ∈ kinds ∧ Q (.bl false) H))
section
variable {P : Program} {w : World} {K : Fg} {mg : Str → Option Value} {base : Heap} {fd : Nat → FuncData}
theorem testTy {p b dx t : Addr} {H : Hp} (T : Txt K mg) (hb : H b = some (.ins (ga K "Test") dx [("cases", .ref t)])) : TyA K H (.ref b) (.ref (ga K "Test")) := .inl (.base (.ins hb T.clsT T.ob.2 T.xo.hn T.xo.ht T.ob.1))
theorem G_teq (D : DefsK K fd) (T : Txt K mg) : FnOk P w K mg base CX0 1 (ma K (ga K "Test") "__eq__") (fd 2) ["self", "other"] (spTeq K) := by
  have zisi : mg "isinstance" = none := T.bl (by decide +kernel)
  have gT : mg "Test" = some (.ref (ga K "Test")) := T.cl (by decide +kernel)
  have F : FnP K "__eq__" "Test.__eq__" s_teq (ma K (ga K "Test") "__eq__") (fd 2) := D 2 _ rfl
  refine F.ok sc_teq (fun vs H Q E h => ?_) (fun cdv A outer s H vs Q E hr h => ?_)
  · obtain ⟨p, a, y, ds, rfl, _⟩ := h
    rfl
  · obtain ⟨p, a, y, ds, rfl, ⟨dx, t, ha, hda⟩, k⟩ := h
    refine ⟨_, PSs.nox (pss_one (ps_ret (pe_and (pe_callB call_isA (by rfl) zisi (by decide +kernel) (pa_cons (pv 1) (pa_cons (pe_glob (v := .ref (ga K "Test")) rfl gT rfl) pa_nil))) (pe_one (pe_cmpR (op_eqD hr.units) (pe_fld (pv 0) rfl) (pe_fld (pv 1) rfl) (nomark _)))))), ?_⟩
    rcases k with ⟨b, es, rfl, ⟨dy, u, hb, hdb⟩, sd, se, q⟩ | ⟨tk, bv, ht, q⟩
    · refine ⟨_, rfl, .ref b, .ref (ga K "Test"), _, _, true, rfl, .own _, testTy (p := p) T hb, T.kitTT, _, rfl, ?_⟩
      refine iteT ?_
      refine ⟨_, rfl, a, _, dx, _, _, rfl, ha, T.clsT, T.naT, rfl, _, rfl, b, _, dy, _, _, rfl, hb, T.clsT, T.naT, rfl, ?_⟩
      refine ⟨.tuple ds, .tuple es, hda.dp (SeqAt.canLay_of_shaped sd), hdb.dp (SeqAt.canLay_of_shaped se), sd, se, ?_⟩
      have e : PyData.eqv (.tuple ds) (.tuple es) = PyData.eqvAll ds es := by simp only [PyData.eqv]
      rw [e]
      exact q
    · refine ⟨_, rfl, y, .ref (ga K "Test"), _, _, false, rfl, .own _, .inl bv.ty, T.kind ht, _, rfl, ?_⟩
      exact iteF q
end
end K12
/-! Tw: C(*e); d.update(e), both tracked. -/
namespace Tw
open PySem PySem.Spec PyProof PyProof.Rows L2 He
theorem u1 {k : Nat} {A : Around} (r : Room k A) : A.units + 1 < cLine := by
  have := r.un
  omega
section
variable {X : Cx} {CX : CXT} {k : Nat} {f C : Addr} {sp : Sp} {E : XK} {x : Str} {e : Expr} {te : TE} {p sp_ pos : Pos}
/-- C(*e) by a positional promise of its __init__ -/
theorem pe_makeSt (M : Mk X.K C f) (F : FnR X.prog X.w X.K X.mg X.base CX k f sp) (hr : Room (k + 1) X.A) (hg : Gl X x) (hm : X.mg x = some (.ref C)) (hx : Passes CX X E) (he : PE X e te) (hdb : (x == ("__debug__" : Str)) = false := by decide)
    (hst : starEach [.Starred e sp_] X.env = [(true, eval e X.env)] := by rfl) :
    PE X (.Call (.Name x p) [.Starred e sp_] [] pos) (fun σ H Q => te σ H fun y H1 => ∃ a xs, y = V.ref a ∧ (SqT X.K H1 a xs ∨ SqL X.K H1 a xs) ∧ ∀ x dx, H1 x = Option.none → H1 dx = Option.none → dx ≠ x →
      sp (V.ref x :: xs) (upd (upd H1 dx (.own x)) x (.ins C dx [])) (fun v H2 => v = .non ∧ Q (.ref x) H2) E) := by
  refine ⟨fun pins s σ H Q I h => ?_⟩
  refine wpAny_Call_Name_kw (ld_glob I hg hm ?_ hdb)
  refine PySem.W.callWith_S (h₀ := X.base) I.ok.mod.kin M.kp (thn (he.run pins s σ H _ I h) fun v s1 ⟨y, H1, I1, ry, a, xs, ey, hxs, q⟩ => ?_) hst
  subst ey
  obtain rfl : v = Value.ref a := ry
  exact StX.star_any I1 hxs fun us s2 I2 rv => ⟨I2.kIn, StX.run_makeR M F hr hx I2 rv q⟩
end
section
variable {X : Cx} {o e : Expr} {apos cpos : Pos} {td ty : TE} {pins : List (Addr × Obj)} {σ : L2.St} {H : Hp} {s : Shared} {a b : Addr} {kvs more : List (Key × V)} {A : Around} {E : Value → Shared → Prop}
theorem d_update {Q : Value → Shared → Prop} (I : Inv X pins σ H s) (e : H a = some (.dK kvs)) (e2 : H b = some (.dK more)) (hn : a ≠ b) (hz : kvs.length + more.length ≤ sizeLine) (h : ∀ s', Inv X pins σ (upd H a (.dK (mergeK kvs more))) s' → Q .none s') :
    wpAny (model X.prog X.w) A (call (.builtin "dict.update") [.ref a, .ref b]) Q E s := by
  obtain ⟨z, hd, vs, rel, dd⟩ := dk_of I.hok e
  obtain ⟨z2, hd2, vs2, rel2, dd2⟩ := dk_of I.hok e2
  refine call_meetsIn PySem.F.slot_dict_update dd.typeIs PySem.F.entry_dict_update (PySem.F.args_dict_update_2 _ _) (meets_dict_update (mixKind X.prog X.w) a b hn hd2) ⟨vs, vs2, dd, dd2, by rw [← rel.length, ← rel2.length]; exact hz, fun h' dd' _ hs => h _ ?_⟩
  have he : ∃ q, h'.get? a = some q := let ⟨q, _, _, hq, _⟩ := dd'; ⟨q, hq⟩
  exact d_write (t' := s.toks) I (by rw [e]; exact True.intro) hs he (dk_new (Nat.le_trans (length_mergeK _ _) hz) hd (KV.merge rel2 rel) dd')
/-- d.update(e) -/
def tDUpd (td ty : TE) : TE := fun σ H Q => td σ H fun x H1 => ∃ a, x = .ref a ∧ IsD H1 a ∧ ty σ H1 fun y H2 => ∃ b kvs more, y = .ref b ∧ a ≠ b ∧ H2 a = some (.dK kvs) ∧ H2 b = some (.dK more) ∧ kvs.length + more.length ≤ sizeLine ∧ Q .non (upd H2 a (.dK (mergeK kvs more)))
theorem pe_dupd (ho : PE X o td) (he : PE X e ty) (m : M1 X o "update" apos e cpos) : PE X (.Call (.Attribute o "update" apos) [e] [] cpos) (tDUpd td ty) := by
  refine ⟨fun pins s σ H Q I h => ?_⟩
  refine wpAny_Call_method m.base m.few m.line PySem.F.plainAttrs_dict PySem.F.slot_dict_update PySem.F.type_dict_update (thn (ho.run pins s σ H _ I h) fun u s1 ⟨x, H1, I1, rx, a, ex, d, q1⟩ => ?_)
  subst ex
  obtain rfl : u = Value.ref a := rx
  obtain ⟨t1, t2, _⟩ := isD_at I1 d
  refine ⟨t1, t2, ?_⟩
  rw [m.trees]
  refine Calls.callWith_builtin rfl (Calls.evalArgs_plain (Calls.spliced_cons (thn (he.run pins s1 σ H1 _ I1 q1) fun iv s2 ⟨y, H2, I2, ry, b, kvs, more, ey, hn, ea, eb, hz, q2⟩ => Calls.spliced_nil ?_)))
  subst ey
  obtain rfl : iv = Value.ref b := ry
  exact d_update I2 ea eb hn hz fun s3 I3 => ⟨.non, _, I3, rfl, q2⟩
end
theorem pi_tupK {X : Cx} (K : PySem.W.Frag) {tg l : Expr} {tl : TE} (hl : PE X l tl) (h : X.K = K := by rfl) : PI X tg l (iTup K tl) := by
  subst h
  exact pi_tup hl
theorem pg_tupK {X : Cx} (K : PySem.W.Frag) {es : List Expr} {k : Nat} {t : TGs} {n : Nat} {pos : Pos} (hc : X.calm = true) (h : PGs X es t) (hK : X.K = K := by rfl)
    (hn : (assignEach es X.env).length = n := by rfl) (hst : (assignEach es X.env).findIdx? (·.1) = none := by rfl) : PG X (.Tuple es k pos) (gTup K n t) := by
  subst hK
  exact pg_tup hc h hn hst
theorem call_tuple_ofK {X : Cx} (K : PySem.W.Frag) (h : X.K = K := by rfl) : CallR X (.type "tuple") (fun xs H Q => ∃ p ys, xs = [V.ref p] ∧ ((SqL K H p ys ∧ ∀ (l : Addr), H l = Option.none → Q (V.ref l) (upd H l (HO.tup ys))) ∨ SqT K H p ys ∧ Q (V.ref p) H)) := by
  subst h
  exact call_tuple_of
end Tw
namespace K12
open PySem PySem.Spec PyProof.Rows L2 He Tw
def exW (z : Str) : Str := if z = "left" then "right" else if z = "right" then "left" else if z = "less" then "more" else if z = "more" then "less" else if z = "new left" then "new right" else if z = "new right" then "new left" else z
def spEx : Sp := fun vs H Q _ => ∃ z, vs = [.str z] ∧ ∀ H', Same H H' → Q (.str (exW z)) H'
def exKeys : List Str := ["left", "right", "less", "more", "new left", "new right"]
theorem exW_not {z : Str} (h : z ∉ exKeys) : exW z = z := by
  simp only [exKeys, List.mem_cons, List.not_mem_nil, or_false, not_or] at h
  obtain ⟨h1, h2, h3, h4, h5, h6⟩ := h
  unfold exW
  rw [if_neg h1, if_neg h2, if_neg h3, if_neg h4, if_neg h5, if_neg h6]
abbrev s_ex : Stmt := topS 18
theorem sc_ex : FnScope ["word"] ["word"] (defScope s_ex) := ⟨rfl, rfl, rfl, by decide +kernel, rfl, by decide +kernel, by decide +kernel⟩
abbrev s_lex : Stmt := topS 41
theorem sc_lex : FnScope ["_law_word", "_law_table"] ["_law_word"] (defScope s_lex) := ⟨rfl, rfl, rfl, by decide +kernel, rfl, by decide +kernel, by decide +kernel⟩
def lexT : List (Key × V) := [(.inr "left", .str "right"), (.inr "right", .str "left"), (.inr "less", .str "more"), (.inr "more", .str "less")]
def lexU : List (Key × V) := [(.inr "new left", .str "new right"), (.inr "new right", .str "new left")]
theorem lexM : mergeK lexT lexU = lexT ++ lexU := by decide +kernel
theorem lex_val (z : Str) : (valV (lexT ++ lexU) (.inr z)).getD (.str z) = .str (exW z) := by
  by_cases hz : z ∈ exKeys
  · simp only [exKeys, List.mem_cons, List.not_mem_nil, or_false] at hz
    rcases hz with rfl | rfl | rfl | rfl | rfl | rfl <;> rfl
  · rw [exW_not hz]
    simp only [exKeys, List.mem_cons, List.not_mem_nil, or_false, not_or] at hz
    obtain ⟨h1, h2, h3, h4, h5, h6⟩ := hz
    have ne : ∀ {u : Str}, z ≠ u → ¬ (Sum.inr u : Key) = Sum.inr z := fun h q => h (by cases q; rfl)
    show (valV ([_, _, _, _, _, _] : List (Key × V)) _).getD _ = _
    rw [valV_neg (ne h1), valV_neg (ne h2), valV_neg (ne h3), valV_neg (ne h4), valV_neg (ne h5), valV_neg (ne h6), valV_nil]
    rfl
section
variable {P : Program} {w : World} {K : Fg} {mg : Str → Option Value} {base : Heap} {fd : Nat → FuncData}
theorem G_ex {es : Array DictEntry} {n : Nat} (D : DefsK K fd) (KD : KDict K w (ga K "EXCHANGED") es n) (T : Txt K mg) : FnOk P w K mg base CX0 1 (ga K "exchanged") (fd 27) ["word"] spEx := by
  have F : FnP K "exchanged" "exchanged" s_ex (ga K "exchanged") (fd 27) := D 27 _ rfl
  refine F.ok sc_ex (fun vs H Q E h => ?_) (fun cdv A outer s H vs Q E hr h => ?_)
  · obtain ⟨z, rfl, _⟩ := h
    rfl
  · obtain ⟨z, rfl, k⟩ := h
    have k := k H fun _ _ e => e
    refine ⟨_, PSs.nox (pss_one (ps_ret (pe_kget2 KD (pe_glob (v := .ref (ga K "EXCHANGED")) rfl T.gExch rfl) (pv 0) (pv 0) ⟨rfl, rfl, rfl, rfl⟩))), ?_⟩
    refine ⟨rfl, _, rfl, z, rfl, _, rfl, ?_⟩
    by_cases hz : z ∈ exKeys
    · simp only [exKeys, List.mem_cons, List.not_mem_nil, or_false] at hz
      rcases hz with rfl | rfl | rfl | rfl | rfl | rfl
      · obtain ⟨u, e, r⟩ := T.exch (q := ("left", .str "right")) (by simp [K12.exch])
        exact ⟨_, _, e, fun _ _ => r, k⟩
      · obtain ⟨u, e, r⟩ := T.exch (q := ("right", .str "left")) (by simp [K12.exch])
        exact ⟨_, _, e, fun _ _ => r, k⟩
      · obtain ⟨u, e, r⟩ := T.exch (q := ("less", .str "more")) (by simp [K12.exch])
        exact ⟨_, _, e, fun _ _ => r, k⟩
      · obtain ⟨u, e, r⟩ := T.exch (q := ("more", .str "less")) (by simp [K12.exch])
        exact ⟨_, _, e, fun _ _ => r, k⟩
      · obtain ⟨u, e, r⟩ := T.exch (q := ("new left", .str "new right")) (by simp [K12.exch])
        exact ⟨_, _, e, fun _ _ => r, k⟩
      · obtain ⟨u, e, r⟩ := T.exch (q := ("new right", .str "new left")) (by simp [K12.exch])
        exact ⟨_, _, e, fun _ _ => r, k⟩
    · rw [exW_not hz] at k
      exact ⟨_, _, T.exchN hz, fun u r => r, k⟩
theorem G_lex (D : DefsK K fd) (T : Txt K mg) : FnOk P w K mg base CX0 1 (ga K "_law_exchanged") (fd 20) ["_law_word"] spEx := by
  have F : FnP K "_law_exchanged" "_law_exchanged" s_lex (ga K "_law_exchanged") (fd 20) := D 20 _ rfl
  refine F.ok sc_lex (fun vs H Q E h => ?_) (fun cdv A outer s H vs Q E hr h => ?_)
  · obtain ⟨z, rfl, _⟩ := h
    rfl
  · obtain ⟨z, rfl, k⟩ := h
    refine ⟨_, PSs.nox (pss_cons (ps_set (i := 1) sc_lex.nd rfl (Or.inl rfl) (pe_disp (pps_cons pe_str pe_str (pps_cons pe_str pe_str (pps_cons pe_str pe_str (pps_cons pe_str pe_str pps_nil)))) (by rfl) (by rfl) (fun z => by cases z) (by decide)))
    (pss_cons (ps_expr (pe_dupd (pv 1) (pe_disp (pps_cons pe_str pe_str (pps_cons pe_str pe_str pps_nil)) (by rfl) (by rfl) (fun z => by cases z) (by decide)) ⟨rfl, rfl, rfl, rfl⟩))
    (pss_one (ps_ret (pe_dget2 (u1 hr) (pv 1) (pv 0) (pv 0) ⟨rfl, rfl, rfl, rfl⟩))))), ?_⟩
    refine fun p hp => ?_
    refine ⟨upd_same, lexT, rfl, by decide, ?_⟩
    rw [show mergeK [] lexT = lexT from rfl]
    have s1 : Same H (upd (upd H p (.dK [])) p (.dK lexT)) := fun b o e => by
      rw [upd_ne (ne_of_none e hp), upd_ne (ne_of_none e hp)]
      exact e
    have g1 : (upd (upd H p (.dK [])) p (.dK lexT)) p = some (.dK lexT) := upd_same
    generalize upd (upd H p (.dK [])) p (.dK lexT) = H1 at s1 g1 ⊢
    refine ⟨_, rfl, p, rfl, .inl ⟨lexT, .inl g1⟩, fun q hq => ?_⟩
    have nqp : p ≠ q := ne_of_none g1 hq
    refine ⟨upd_same, lexU, rfl, by decide, ?_⟩
    rw [show mergeK [] lexU = lexU from rfl]
    have s2 : Same H1 (upd (upd H1 q (.dK [])) q (.dK lexU)) := fun b o e => by
      rw [upd_ne (ne_of_none e hq), upd_ne (ne_of_none e hq)]
      exact e
    have g2 : (upd (upd H1 q (.dK [])) q (.dK lexU)) q = some (.dK lexU) := upd_same
    generalize upd (upd H1 q (.dK [])) q (.dK lexU) = H2 at s2 g2 ⊢
    refine ⟨q, lexT, lexU, rfl, nqp, s2 _ _ g1, g2, by decide, ?_⟩
    rw [lexM]
    have g3 : (upd H2 p (.dK (lexT ++ lexU))) p = some (.dK (lexT ++ lexU)) := upd_same
    have s3 : Same H (upd H2 p (.dK (lexT ++ lexU))) := fun b o e => by
      rw [upd_ne (ne_of_none e hp)]
      exact s2 _ _ (s1 _ _ e)
    generalize upd H2 p (.dK (lexT ++ lexU)) = H3 at s3 g3 ⊢
    refine ⟨_, rfl, p, rfl, .inl ⟨_, .inl g3⟩, _, rfl, _, rfl, _, DGet.k (k := .inr z) g3, ?_⟩
    rw [lex_val]
    exact k H3 s3
end
end K12
namespace K12
open PySem PySem.Spec PyProof.Rows L2 He Tw
/-! ### cases as they stand in a test: tuples all the way -/
abbrev Cs := List (List (Bool × Str))
/-- tuples stay -/
abbrev TK (H H' : Hp) : Prop := ∀ b us, H b = some (.tup us) → H' b = some (.tup us)
theorem TK.same {H H' : Hp} (s : Same H H') : TK H H' := fun b _ e => s b _ e
theorem TK.refl {H : Hp} : TK H H := fun _ _ e => e
theorem TK.trans {H H1 H2 : Hp} (a : TK H H1) (b : TK H1 H2) : TK H H2 := fun c us e => b c us (a c us e)
theorem TK.upd {H : Hp} {p : Addr} {u u' : HO} (h : H p = some u) (n : ∀ us, u ≠ .tup us) : TK H (upd H p u') := fun b us e => by
  by_cases z : b = p
  · rw [z, h] at e
    exact absurd (Option.some.inj e) (n us)
  · rw [upd_ne z]
    exact e
def PrT (H : Hp) (v : V) (x : Bool × Str) : Prop := ∃ q, v = .ref q ∧ H q = some (.tup [.bl x.1, .str x.2])
def RowT (H : Hp) (v : V) (r : List (Bool × Str)) : Prop := ∃ q ys, v = .ref q ∧ H q = some (.tup ys) ∧ Paired (PrT H) ys r
def CsT (H : Hp) (v : V) (cs : Cs) : Prop := ∃ q xs, v = .ref q ∧ H q = some (.tup xs) ∧ Paired (RowT H) xs cs
theorem PrT.keep {H H' : Hp} (e : TK H H') {v : V} {x : Bool × Str} : PrT H v x → PrT H' v x
  | ⟨q, h1, h2⟩ => ⟨q, h1, e _ _ h2⟩
theorem RowT.keep {H H' : Hp} (e : TK H H') {v : V} {r : List (Bool × Str)} : RowT H v r → RowT H' v r
  | ⟨q, ys, h1, h2, h3⟩ => ⟨q, ys, h1, e _ _ h2, pairUp (fun _ _ z => z.keep e) h3⟩
theorem CsT.keep {H H' : Hp} (e : TK H H') {v : V} {cs : Cs} : CsT H v cs → CsT H' v cs
  | ⟨q, xs, h1, h2, h3⟩ => ⟨q, xs, h1, e _ _ h2, pairUp (fun _ _ z => z.keep e) h3⟩
/-! ### asking -/
/-- a case is asked by a def that promises sl: the words in their order until one is false -/
def Asks (sl : Sp) (E : XK) : List (Bool × Str) → Hp → (Bool → Hp → Prop) → Prop
  | [], H, R => R true H
  | x :: r, H, R => ∀ Q : VK, (∀ (b : Bool) (H' : Hp), TK H H' → (if b = x.1 then R false H' else Asks sl E r H' R) → Q (.bl b) H') → sl [.str x.2] H Q E
theorem Asks.mono {sl : Sp} {E : XK} : ∀ {r : List (Bool × Str)} {H : Hp} {R R' : Bool → Hp → Prop}, (∀ b H', R b H' → R' b H') → Asks sl E r H R → Asks sl E r H R'
  | [], _, _, _, h, a => h _ _ a
  | x :: r, H, R, R', h, a => fun Q k => a Q fun b H' t q => k b H' t (by
      by_cases e : b = x.1
      · rw [if_pos e] at q ⊢
        exact h _ _ q
      · rw [if_neg e] at q ⊢
        exact Asks.mono h q)
def AsksC (sl : Sp) (E : XK) : Cs → Hp → (Bool → Hp → Prop) → Prop
  | [], H, R => R false H
  | c :: cs, H, R => Asks sl E c H (fun b H' => TK H H' ∧ if b = true then R true H' else AsksC sl E cs H' R)
abbrev s_true : Stmt := topS 30
abbrev N_true : List Str := ["case", "look", "is_not", "word"]
theorem sc_true : FnScope N_true ["case", "look"] (defScope s_true) := ⟨rfl, rfl, rfl, by decide +kernel, rfl, by decide +kernel, by decide +kernel⟩
abbrev s_call : Stmt := inClass (topS 29) 6
abbrev N_call : List Str := ["self", "look", "case"]
theorem sc_call : FnScope N_call ["self", "look"] (defScope s_call) := ⟨rfl, rfl, rfl, by decide +kernel, rfl, by decide +kernel, by decide +kernel⟩
def spTrue (P : Program) (w : World) (K : Fg) (mg : Str → Option Value) (base : Heap) : Sp := fun vs H Q E => ∃ (v : V) (f : Addr) (r : List (Bool × Str)) (sl : Sp), vs = [v, .ref f] ∧ RowT H v r ∧ PySem.W.FnAt f base ∧ FnR P w K mg base (L2.CX P w) 7 f sl ∧
  Asks sl E r H fun b H' => Q (.bl b) H'
def spCall (P : Program) (w : World) (K : Fg) (mg : Str → Option Value) (base : Heap) : Sp := fun vs H Q E => ∃ (a f dx t : Addr) (cs : Cs) (sl : Sp), vs = [.ref a, .ref f] ∧ H a = some (.ins (ga K "Test") dx [("cases", .ref t)]) ∧ CsT H (.ref t) cs ∧ PySem.W.FnAt f base ∧ FnR P w K mg base (L2.CX P w) 7 f sl ∧
  AsksC sl E cs H fun b H' => Q (.bl b) H'
section
variable {P : Program} {w : World} {K : Fg} {mg : Str → Option Value} {base : Heap} {fd : Nat → FuncData}
theorem G_true (D : DefsK K fd) (T : Txt K mg) : FnOk P w K mg base (L2.CX P w) 8 (ga K "is_true_case") (fd 26) ["case", "look"] (spTrue P w K mg base) := by
  have zbool : mg "bool" = none := T.bl (by decide +kernel)
  have F : FnP K "is_true_case" "is_true_case" s_true (ga K "is_true_case") (fd 26) := D 26 _ rfl
  refine F.ok sc_true (fun vs H Q E h => ?_) (fun cdv A outer s H vs Q E hr h => ?_)
  · obtain ⟨v, f, r, sl, rfl, _⟩ := h
    rfl
  · obtain ⟨v, f, r, sl, rfl, ⟨q0, ys, rfl, hq0, hp⟩, hf, FL, hask⟩ := h
    refine ⟨_, (pss_cons (ps_for (passes_of rfl) rfl (pi_tup (pv 0)) (pg_tup (by rfl) (pgs_cons (pg_name (i := 2) sc_true.nd rfl (Or.inl rfl)) (pgs_cons (pg_name (i := 3) sc_true.nd rfl (Or.inl rfl)) pgs_nil)))
    (pss_one (ps_if (pt_cmpR op_eq (pe_callTy call_bool1 (by rfl) zbool (by decide +kernel) (pa_cons (pe_callF (E := E) (i := 1) rfl (.inl rfl) hf FL hr (passes_call (takes_of rfl rfl rfl rfl) (fun _ _ _ _ h => h)) (pa_cons (pv 3) pa_nil)) pa_nil)) (pv 2) (nomark _)) (pss_one (ps_ret pe_bl)) pss_nil)))
    (pss_one (ps_ret pe_bl))), ?_⟩
    refine ⟨_, rfl, q0, rfl, ⟨_, SqT.of hq0⟩, for_tup (xs := ys) (fun i σ H' => ∃ v2 v3 : Option V, σ = [some (.ref q0), some (.ref f), v2, v3] ∧ TK H H' ∧ Asks sl E (r.drop i) H' fun b H' => Q (.bl b) H') ⟨none, none, rfl, TK.refl, hask⟩ (fun i σ H' _ ⟨_, _, _, t, _⟩ => SqT.of (t _ _ hq0)) ?_ ?_⟩
    · rintro i y σ H1 hy ⟨v2, v3, rfl, t1, a1⟩
      have hi : i < r.length := by
        rw [← Paired.length hp]
        exact (List.getElem?_eq_some_iff.mp hy).1
      have er : r[i]? = some r[i] := List.getElem?_eq_getElem hi
      obtain ⟨u, rfl, hu⟩ := (paired_get hp hy er).keep t1
      rw [List.drop_eq_getElem_cons hi] at a1
      generalize r[i] = x at hu a1
      refine ⟨u, _, rfl, SqT.of hu, rfl, ?_⟩
      refine ⟨_, _, rfl, _, _, rfl, rfl, ?_⟩
      refine ⟨rfl, _, rfl, a1 _ fun b H2 t2 k => ?_⟩
      refine .inr ⟨b, rfl, _, rfl, rfl, _, rfl, ?_⟩
      refine ite2 (fun hb => ?_) (fun hb => ?_)
      · have e : b = x.1 := by
          have := of_decide_eq_true hb
          cases this
          rfl
        rw [if_pos e] at k
        exact k
      · have e : ¬ b = x.1 := fun z => hb (decide_eq_true (by rw [z]))
        rw [if_neg e] at k
        exact ⟨_, _, rfl, t1.trans t2, k⟩
    · rintro σ H1 ⟨v2, v3, rfl, t1, a1⟩
      rw [List.drop_of_length_le (Nat.le_of_eq (Paired.length hp).symm)] at a1
      exact a1
theorem G_call (D : DefsK K fd) (T : Txt K mg) : FnOk P w K mg base (L2.CX P w) 9 (ma K (ga K "Test") "__call__") (fd 25) ["self", "look"] (spCall P w K mg base) := by
  have gT := T.fn (x := "is_true_case") (by decide +kernel)
  have FT : FnP K "is_true_case" "is_true_case" s_true (ga K "is_true_case") (fd 26) := D 26 _ rfl
  have GT : FnOk P w K mg base (L2.CX P w) 8 (ga K "is_true_case") (fd 26) ["case", "look"] (spTrue P w K mg base) := G_true D T
  have bT : Binds K (fd 26) ["case", "look"] [] := FT.bindsN fun _ _ _ _ _ _ us hl => match us, hl with | [_, _], _ => rfl
  have F : FnP K "__call__" "Test.__call__" s_call (ma K (ga K "Test") "__call__") (fd 25) := D 25 _ rfl
  refine F.ok sc_call (fun vs H Q E h => ?_) (fun cdv A outer s H vs Q E hr h => ?_)
  · obtain ⟨a, f, dx, t, cs, sl, rfl, _⟩ := h
    rfl
  · obtain ⟨a, f, dx, t, cs, sl, rfl, ha, ⟨q0, xs, eq0, hq0, hp⟩, hf, FL, hask⟩ := h
    obtain rfl : t = q0 := by cases eq0; rfl
    refine ⟨_, (pss_cons (ps_for (passes_of rfl) rfl (pi_tup (pe_fld (pv 0) rfl)) (pg_name (i := 2) sc_call.nd rfl (Or.inl rfl))
      (pss_one (ps_if (pt_val (pe_call (E := E) GT hr rfl gT FT.kp bT .nil (passes_call (takes_of rfl rfl rfl rfl) (fun _ _ _ _ h => h)) (pa_cons (pv 2) (pa_cons (pv 1) pa_nil)))) (pss_one (ps_ret pe_bl)) pss_nil)))
    (pss_one (ps_ret pe_bl))), ?_⟩
    refine ⟨_, rfl, a, _, dx, _, _, rfl, ha, T.clsT, T.naT, rfl, t, rfl, ⟨_, SqT.of hq0⟩, for_tup (xs := xs) (fun i σ H' => ∃ v2 : Option V, σ = [some (.ref a), some (.ref f), v2] ∧ TK H H' ∧ AsksC sl E (cs.drop i) H' fun b H' => Q (.bl b) H') ⟨none, rfl, TK.refl, hask⟩ (fun i σ H' _ ⟨_, _, t, _⟩ => SqT.of (t _ _ hq0)) ?_ ?_⟩
    · rintro i y σ H1 hy ⟨v2, rfl, t1, a1⟩
      have hi : i < cs.length := by
        rw [← Paired.length hp]
        exact (List.getElem?_eq_some_iff.mp hy).1
      have er : cs[i]? = some cs[i] := List.getElem?_eq_getElem hi
      have hrow := (paired_get hp hy er).keep t1
      rw [List.drop_eq_getElem_cons hi] at a1
      generalize cs[i] = c at hrow a1
      refine ⟨_, rfl, _, rfl, y, f, c, sl, rfl, hrow, hf, FL, Asks.mono (fun b H' q => ?_) a1⟩
      obtain ⟨t2, q⟩ := q
      refine ⟨_, rfl, ite2 (fun hb => ?_) (fun hb => ?_)⟩
      · rw [if_pos hb] at q
        exact q
      · rw [if_neg hb] at q
        exact ⟨_, rfl, t1.trans t2, q⟩
    · rintro σ H1 ⟨v2, rfl, t1, a1⟩
      rw [List.drop_of_length_le (Nat.le_of_eq (Paired.length hp).symm)] at a1
      exact a1
end
end K12
namespace K12
open PySem PySem.Spec PyProof.Rows L2 He Tw LamX
/-! ### truths -/
/-- a truth is kept at q -/
def TrAt (H : Hp) (q : Addr) (tr : Str → Bool) (ks : List Str) : Prop := ∃ kvs : List (Key × V), Rd H q (.dK kvs) ∧ kvs.map (·.1) = ks.map Sum.inr ∧ ∀ z ∈ ks, valV kvs (.inr z) = some (.bl (tr z))
theorem TrAt.get {H : Hp} {q : Addr} {tr : Str → Bool} {ks : List Str} {z : Str} (h : TrAt H q tr ks) (hz : z ∈ ks) : DGet H q (.str z) (some (.bl (tr z))) := by
  obtain ⟨kvs, h1, _, h3⟩ := h
  exact .inl ⟨kvs, .inr z, h1, rfl, (h3 z hz).symm⟩
theorem TrAt.but {H H' : Hp} {s q : Addr} {tr : Str → Bool} {ks : List Str} (h : TrAt H q tr ks) (b : But s H H') (n : q ≠ s) : TrAt H' q tr ks := by
  obtain ⟨kvs, h1, h2, h3⟩ := h
  refine ⟨kvs, ?_, h2, h3⟩
  rcases h1 with h1 | ⟨o, h1⟩
  · exact .inl (b _ _ h1 n)
  · exact .inr ⟨o, b _ _ h1 n⟩
theorem TrAt.same {H H' : Hp} {q : Addr} {tr : Str → Bool} {ks : List Str} (h : TrAt H q tr ks) (b : Same H H') : TrAt H' q tr ks := by
  obtain ⟨kvs, h1, h2, h3⟩ := h
  refine ⟨kvs, ?_, h2, h3⟩
  rcases h1 with h1 | ⟨o, h1⟩
  · exact .inl (b _ _ h1)
  · exact .inr ⟨o, b _ _ h1⟩
theorem TrAt.ext {H H' : Hp} {q : Addr} {tr : Str → Bool} {ks : List Str} (h : TrAt H q tr ks) (b : ExtN H H') : TrAt H' q tr ks := by
  obtain ⟨kvs, h1, h2, h3⟩ := h
  refine ⟨kvs, ?_, h2, h3⟩
  rcases h1 with h1 | ⟨o, h1⟩
  · exact .inl (b _ _ h1 fun _ z => nomatch z)
  · exact .inr ⟨o, b _ _ h1 fun _ z => nomatch z⟩
/-! ### what is asked -/
def askC (tr : Str → Bool) : List (Bool × Str) → Bool × List Str
  | [] => (true, [])
  | x :: r => if tr x.2 = x.1 then (false, [x.2]) else ((askC tr r).1, x.2 :: (askC tr r).2)
def askD (tr : Str → Bool) : Cs → Bool × List Str
  | [] => (false, [])
  | c :: cs => if (askC tr c).1 = true then (true, (askC tr c).2) else ((askD tr cs).1, (askC tr c).2 ++ (askD tr cs).2)
/-! ### _law_said, _law_fall -/
abbrev s_said : Stmt := topS 38
abbrev N_said : List Str := ["_law_seen", "_law_truths_here", "_law_word"]
theorem sc_said : FnScope N_said ["_law_seen", "_law_truths_here", "_law_word"] (defScope s_said) := ⟨rfl, rfl, rfl, by decide +kernel, rfl, by decide +kernel, by decide +kernel⟩
abbrev s_fall : Stmt := topS 42
abbrev N_fall : List Str := ["_law_word", "_law_truths_here", "_law_last"]
theorem sc_fall : FnScope N_fall ["_law_word", "_law_truths_here", "_law_last"] (defScope s_fall) := ⟨rfl, rfl, rfl, by decide +kernel, rfl, by decide +kernel, by decide +kernel⟩
def spSaid : Sp := fun vs H Q _ => ∃ (s q : Addr) (z : Str) (b : Bool) (ws : List Str), vs = [.ref s, .ref q, .str z] ∧ H s = some (.lst (ws.map V.str)) ∧ ws.length < 900 ∧ q ≠ s ∧ DGet H q (.str z) (some (.bl b)) ∧ Q (.bl b) (upd H s (.lst ((ws ++ [z]).map V.str)))
def spFall : Sp := fun vs H Q E => ∃ (q : Addr) (z last : Str) (b : Bool), vs = [.str z, .ref q, .str last] ∧ DGet H q (.str z) (some (.bl b)) ∧ (z = last → ∀ d, E (.type "KeyError") d H) ∧ (z ≠ last → Q (.bl b) H)
theorem dget_but {H H' : Hp} {s q : Addr} {z : Str} {o : Option V} (h : DGet H q (.str z) o) (b : But s H H') (n : q ≠ s) : DGet H' q (.str z) o := by
  rcases h with ⟨kvs, k, h1, h2, h3⟩ | ⟨kvs, k, t, h1, h2, h3, h4⟩
  · refine .inl ⟨kvs, k, ?_, h2, h3⟩
    rcases h1 with h1 | ⟨o, h1⟩
    · exact .inl (b _ _ h1 n)
    · exact .inr ⟨o, b _ _ h1 n⟩
  · exact nomatch h2
section
variable {P : Program} {w : World} {K : Fg} {mg : Str → Option Value} {base : Heap} {fd : Nat → FuncData}
theorem G_said (D : DefsK K fd) (T : Txt K mg) : FnOk P w K mg base CX0 1 (ga K "_law_said") (fd 17) ["_law_seen", "_law_truths_here", "_law_word"] spSaid := by
  have F : FnP K "_law_said" "_law_said" s_said (ga K "_law_said") (fd 17) := D 17 _ rfl
  refine F.ok sc_said (fun vs H Q E h => ?_) (fun cdv A outer s H vs Q E hr h => ?_)
  · obtain ⟨s, q, z, b, ws, rfl, _⟩ := h
    rfl
  · obtain ⟨s, q, z, b, ws, rfl, hs, hl, hn, hq, k⟩ := h
    refine ⟨_, PSs.nox (pss_cons (ps_expr (pe_bm PySem.F.plainAttrs_list PySem.F.slot_list_append PySem.F.type_list_append mt_append (pv 0) (pa_cons (pv 2) pa_nil)))
    (pss_one (ps_ret (pe_dget (u1 hr) (pv 1) (pv 2) (fun _ _ => rfl))))), ?_⟩
    refine ⟨_, rfl, .inl ⟨rfl, _, SqL.of hs⟩, _, rfl, s, _, _, rfl, rfl, hs, Nat.lt_of_le_of_lt (show (ws.map V.str).length ≤ 900 by rw [List.length_map]; omega) (by decide), ?_⟩
    refine ⟨_, rfl, _, rfl, q, _, rfl, dget_but hq But.upd hn, ?_⟩
    rw [List.map_append] at k
    exact k
theorem G_fall (D : DefsK K fd) (T : Txt K mg) : FnOk P w K mg base (L2.CX P w) 1 (ga K "_law_fall") (fd 21) ["_law_word", "_law_truths_here", "_law_last"] spFall := by
  have zK : mg "KeyError" = none := T.bl (by decide +kernel)
  have F : FnP K "_law_fall" "_law_fall" s_fall (ga K "_law_fall") (fd 21) := D 21 _ rfl
  refine F.ok sc_fall (fun vs H Q E h => ?_) (fun cdv A outer s H vs Q E hr h => ?_)
  · obtain ⟨q, z, last, b, rfl, _⟩ := h
    rfl
  · obtain ⟨q, z, last, b, rfl, hq, kb, kg⟩ := h
    refine ⟨_, (pss_cons (ps_if (pt_cmpR op_eq (pv 0) (pv 2) (nomark _)) (pss_one (ps_raise rfl (takes_of rfl rfl rfl rfl) (pmk_exc excClass_KeyError ty_KeyError rfl zK boot_KeyError (pa_cons pe_str pa_nil)))) pss_nil)
    (pss_one (ps_ret (pe_dget (u1 hr) (pv 1) (pv 0) (fun _ _ => rfl))))), ?_⟩
    refine ⟨_, rfl, _, rfl, rfl, _, rfl, ?_⟩
    refine ite2 (fun h => ?_) (fun h => ?_)
    · have e : z = last := by
        have := of_decide_eq_true h
        cases this
        rfl
      exact ⟨by decide, fun d => kb e d⟩
    · have e : z ≠ last := fun y => h (decide_eq_true (by rw [y]))
      exact ⟨_, rfl, _, rfl, q, _, rfl, hq, kg e⟩
end
end K12
namespace K12
open PySem PySem.Spec PyProof.Rows L2 He Tw LamX
/-- every word of the cases is known -/
def Knows (ks : List Str) (cs : Cs) : Prop := ∀ r ∈ cs, ∀ x ∈ r, x.2 ∈ ks
theorem TK.ext {H H' : Hp} (e : ExtN H H') : TK H H' := fun b _ h => e b _ h fun _ z => nomatch z
/-! ### asking with a fall at one word -/
theorem asks_fall {sl : Sp} {E : XK} {H : Hp} {last : Str} {tr : Str → Bool} {ks : List Str} {Ef : Prop} (hs : ∀ z ∈ ks, ∀ Q : VK, (z = last → Ef) → (z ≠ last → Q (.bl (tr z)) H) → sl [.str z] H Q E) :
    ∀ {r : List (Bool × Str)} {R : Bool → Hp → Prop}, (∀ x ∈ r, x.2 ∈ ks) → (last ∈ (askC tr r).2 → Ef) → (last ∉ (askC tr r).2 → R (askC tr r).1 H) → Asks sl E r H R
  | [], R, _, _, k => k (by simp [askC])
  | x :: r, R, hk, ke, k => fun Q kq => by
    refine hs _ (hk x List.mem_cons_self) Q (fun e => ke ?_) fun ne => kq _ H TK.refl ?_
    · unfold askC
      split
      · rw [← e]
        exact List.mem_cons_self
      · rw [← e]
        exact List.mem_cons_self
    · unfold askC at k ke
      by_cases e : tr x.2 = x.1
      · rw [if_pos e] at k ⊢
        exact k fun h => ne (List.mem_singleton.mp h).symm
      · rw [if_neg e] at k ke ⊢
        exact asks_fall hs (fun y hy => hk y (List.mem_cons_of_mem _ hy)) (fun h => ke (List.mem_cons_of_mem _ h)) fun h => k fun h2 => (List.mem_cons.mp h2).elim (fun z => ne z.symm) h
theorem asksC_fall {sl : Sp} {E : XK} {H : Hp} {last : Str} {tr : Str → Bool} {ks : List Str} {Ef : Prop} (hs : ∀ z ∈ ks, ∀ Q : VK, (z = last → Ef) → (z ≠ last → Q (.bl (tr z)) H) → sl [.str z] H Q E) :
    ∀ {cs : Cs} {R : Bool → Hp → Prop}, Knows ks cs → (last ∈ (askD tr cs).2 → Ef) → (last ∉ (askD tr cs).2 → R (askD tr cs).1 H) → AsksC sl E cs H R
  | [], R, _, _, k => k (by simp [askD])
  | c :: cs, R, hk, ke, k => by
    refine asks_fall hs (hk c List.mem_cons_self) (fun h => ke ?_) fun h => ⟨TK.refl, ?_⟩
    · unfold askD
      split
      · exact h
      · exact List.mem_append_left _ h
    · unfold askD at k ke
      by_cases e : (askC tr c).1 = true
      · rw [if_pos e] at k ⊢
        exact k h
      · rw [if_neg e] at k ke ⊢
        exact asksC_fall hs (fun r hr => hk r (List.mem_cons_of_mem _ hr)) (fun h2 => ke (List.mem_append_right _ h2)) fun h2 => k fun h3 => (List.mem_append.mp h3).elim h h2
/-! ### asking with a list of what was asked -/
theorem asks_said {sl : Sp} {E : XK} {St : List Str → Hp → Prop} {tr : Str → Bool} {ks : List Str} (hs : ∀ z ∈ ks, ∀ (ws : List Str) (H : Hp) (Q : VK), St ws H → ws.length < 900 → (∀ H', St (ws ++ [z]) H' → TK H H' → Q (.bl (tr z)) H') → sl [.str z] H Q E) :
    ∀ {r : List (Bool × Str)} {R : Bool → Hp → Prop} {ws : List Str} {H : Hp}, (∀ x ∈ r, x.2 ∈ ks) → St ws H → ws.length + r.length ≤ 900 → (∀ H', St (ws ++ (askC tr r).2) H' → TK H H' → R (askC tr r).1 H') → Asks sl E r H R
  | [], R, ws, H, _, st, _, k => k H (by rw [show (askC tr []).2 = [] from rfl, List.append_nil]; exact st) TK.refl
  | x :: r, R, ws, H, hk, st, hl, k => fun Q kq => by
    rw [List.length_cons] at hl
    refine hs _ (hk x List.mem_cons_self) ws H Q st (by omega) fun H' st' t => kq _ H' t ?_
    unfold askC at k
    by_cases e : tr x.2 = x.1
    · rw [if_pos e] at k ⊢
      exact k H' st' t
    · rw [if_neg e] at k ⊢
      refine asks_said hs (fun y hy => hk y (List.mem_cons_of_mem _ hy)) st' (by rw [List.length_append]; simp; omega) fun H2 st2 t2 => k H2 ?_ (t.trans t2)
      rw [List.append_assoc] at st2
      exact st2
theorem askC_len (tr : Str → Bool) : ∀ r : List (Bool × Str), (askC tr r).2.length ≤ r.length
  | [] => Nat.le_refl _
  | x :: r => by
    have := askC_len tr r
    unfold askC
    split
    · simp
    · simp
      omega
theorem asksC_said {sl : Sp} {E : XK} {St : List Str → Hp → Prop} {tr : Str → Bool} {ks : List Str} (hs : ∀ z ∈ ks, ∀ (ws : List Str) (H : Hp) (Q : VK), St ws H → ws.length < 900 → (∀ H', St (ws ++ [z]) H' → TK H H' → Q (.bl (tr z)) H') → sl [.str z] H Q E) :
    ∀ {cs : Cs} {R : Bool → Hp → Prop} {ws : List Str} {H : Hp}, Knows ks cs → (∀ r ∈ cs, r.length ≤ 6) → St ws H → ws.length + 6 * cs.length ≤ 900 → (∀ H', St (ws ++ (askD tr cs).2) H' → TK H H' → R (askD tr cs).1 H') → AsksC sl E cs H R
  | [], R, ws, H, _, _, st, _, k => k H (by rw [show (askD tr []).2 = [] from rfl, List.append_nil]; exact st) TK.refl
  | c :: cs, R, ws, H, hk, h6, st, hl, k => by
    rw [List.length_cons] at hl
    have l6 := h6 c List.mem_cons_self
    have la := askC_len tr c
    refine asks_said hs (hk c List.mem_cons_self) st (by omega) fun H' st' t => ⟨t, ?_⟩
    unfold askD at k
    by_cases e : (askC tr c).1 = true
    · rw [if_pos e] at k ⊢
      exact k H' st' t
    · rw [if_neg e] at k ⊢
      refine asksC_said hs (fun r hr => hk r (List.mem_cons_of_mem _ hr)) (fun r hr => h6 r (List.mem_cons_of_mem _ hr)) st' (by rw [List.length_append]; omega) fun H2 st2 t2 => k H2 ?_ (t.trans t2)
      rw [List.append_assoc] at st2
      exact st2
/-! ### _law_falls -/
def lamNameC (q : Str) (sc : Scope) : Str := (envOfC q sc 0 0 .none).qual ++ "<lambda>"
abbrev s_falls : Stmt := topS 43
abbrev N_falls : List Str := ["_law_made", "_law_truths_here", "_law_last"]
theorem sc_falls : FnScope N_falls ["_law_made", "_law_truths_here", "_law_last"] (defScope s_falls) := ⟨rfl, rfl, rfl, by decide +kernel, rfl, by decide +kernel, by decide +kernel⟩
abbrev s_right : Stmt := topS 44
abbrev N_right : List Str := ["_law_made", "_law_cases_here", "_law_truths_here", "_law_due_here", "_law_again", "_law_seen", "_law_found", "_law_last"]
theorem sc_right : FnScope N_right ["_law_made", "_law_cases_here", "_law_truths_here"] (defScope s_right) := ⟨rfl, rfl, rfl, by decide +kernel, rfl, by decide +kernel, by decide +kernel⟩
def Tb (K : Fg) : List (Addr × Str) := [(tabAt K (ga K "_law_right"), lamNameC "_law_right" (defScope s_right)), (tabAt K (ga K "_law_falls"), lamNameC "_law_falls" (defScope s_falls))]
theorem tb_two {K : Fg} {mg : Str → Option Value} (T : Txt K mg) : ∀ q ∈ Tb K, q.1 = tabAt K (ga K "_law_falls") → q.2 = lamNameC "_law_falls" (defScope s_falls) := fun q hq e => by
  simp only [Tb, List.mem_cons, List.not_mem_nil, or_false] at hq
  rcases hq with rfl | rfl
  · exact absurd e T.tabne
  · rfl
theorem tb_one {K : Fg} {mg : Str → Option Value} (T : Txt K mg) : ∀ q ∈ Tb K, q.1 = tabAt K (ga K "_law_right") → q.2 = lamNameC "_law_right" (defScope s_right) := fun q hq e => by
  simp only [Tb, List.mem_cons, List.not_mem_nil, or_false] at hq
  rcases hq with rfl | rfl
  · rfl
  · exact absurd e.symm T.tabne
theorem caps12 : ∀ (j : Nat) (y : Str) (i : Nat), (["_law_truths_here", "_law_last"] : List Str)[j]? = some y → ([1, 2] : List Nat)[j]? = some i → N_falls[i]? = some y := fun j y i h1 h2 => by
  match j with
  | 0 =>
    cases h1
    cases h2
    rfl
  | 1 =>
    cases h1
    cases h2
    rfl
  | n + 2 => cases h1
def spFalls (K : Fg) : Sp := fun vs H Q _ => ∃ (a q dx t : Addr) (last : Str) (cs : Cs) (tr : Str → Bool) (ks : List Str), vs = [.ref a, .ref q, .str last] ∧ H a = some (.ins (ga K "Test") dx [("cases", .ref t)]) ∧ CsT H (.ref t) cs ∧ TrAt H q tr ks ∧ Knows ks cs ∧ Tabs (Tb K) H ∧
  ∀ H', ExtN H H' → Tabs (Tb K) H' → Q (.bl (decide (last ∈ (askD tr cs).2))) H'
section
variable {P : Program} {w : World} {K : Fg} {mg : Str → Option Value} {base : Heap} {fd : Nat → FuncData}
theorem callO (D : DefsK K fd) (T : Txt K mg) : StX.CallO K (ga K "Test") (ma K (ga K "Test") "__call__") := by
  have m := T.mtT (m := "__call__") (by decide +kernel)
  have F : FnP K "__call__" "Test.__call__" s_call (ma K (ga K "Test") "__call__") (fd 25) := D 25 _ rfl
  obtain ⟨oc, od, dV, kV, doc, pm, an, cdv, ct, osl, e0, lk, hcd, _, _⟩ := F.ex
  refine ⟨m.at_, m.fn, ?_⟩
  unfold PySem.W.fnIn
  rw [lk]
theorem G_falls (D : DefsK K fd) (T : Txt K mg) (TB : TabB base mg (Tw.codeAt K (ga K "_law_falls")) (tabAt K (ga K "_law_falls"))) : FnOk P w K mg base CX0 12 (ga K "_law_falls") (fd 22) ["_law_made", "_law_truths_here", "_law_last"] (spFalls K) := by
  have zK : mg "KeyError" = none := T.bl (by decide +kernel)
  have gF := T.fn (x := "_law_fall") (by decide +kernel)
  have FF : FnP K "_law_fall" "_law_fall" s_fall (ga K "_law_fall") (fd 21) := D 21 _ rfl
  have GF : ∀ base : Heap, FnOk P w K mg base (L2.CX P w) 1 (ga K "_law_fall") (fd 21) ["_law_word", "_law_truths_here", "_law_last"] spFall := fun base => G_fall D T
  have bF : Binds K (fd 21) ["_law_word", "_law_truths_here", "_law_last"] [] := FF.bindsN fun _ _ _ _ _ _ us hl => match us, hl with | [_, _, _], _ => rfl
  have FC : FnP K "__call__" "Test.__call__" s_call (ma K (ga K "Test") "__call__") (fd 25) := D 25 _ rfl
  have bC : Binds K (fd 25) ["self", "look"] [] := FC.bindsN fun _ _ _ _ _ _ us hl => match us, hl with | [_, _], _ => rfl
  have GC : ∀ base : Heap, FnR P w K mg base (L2.CX P w) 9 (ma K (ga K "Test") "__call__") (spCall P w K mg base) := fun base => (FnOk.raw (G_call D T) bC .nil).imp fun vs H Q E h => by rw [List.append_nil]; exact h
  have F : FnP K "_law_falls" "_law_falls" s_falls (ga K "_law_falls") (fd 22) := D 22 _ rfl
  obtain ⟨oc, od, dV, kV, doc, pm, an, cdv, ct, osl, e0, lk, hcd, _, _⟩ := F.ex
  rw [e0] at lk ⊢
  obtain ⟨cc, rfl⟩ := codeIn_ref hcd
  have ec : Tw.codeAt K (ga K "_law_falls") = cc := by
    unfold Tw.codeAt
    rw [lk]
  rw [ec] at TB
  refine fn_of lk hcd sc_falls (fun vs H Q E h => ?_) (fun A outer s H vs Q E hr h => ?_)
  · obtain ⟨a, q, dx, t, last, cs, tr, ks, rfl, _⟩ := h
    rfl
  · obtain ⟨a, q, dx, t, last, cs, tr, ks, rfl, ha, hcs, htr, hkn, hT, k⟩ := h
    refine ⟨_, PSs.nox (pss_cons (ps_try_only (c := .type "KeyError") (Wout := fun _ _ _ _ => False) rfl rfl (names_blt rfl zK boot_KeyError) L2.takes0
      (fun W pn xe tk _ => pss_one (ps_expr (pe_callOL (k := 6) (qn := lamNameC "_law_falls" (defScope s_falls)) (T := Tb K) (x := "_law_word") (cs := ["_law_truths_here", "_law_last"]) (caps := [1, 2]) (pv 0) (callO D T) GC (hr.mono (by decide)) (fun σ => passAt tk σ) TB rfl (List.mem_cons_of_mem _ (List.mem_cons.mpr (.inl rfl))) (tb_two T) rfl
        (fun _ => rfl) (lamP_by (sc := defScope s_falls) (by decide +kernel)) caps12 rfl (by decide +kernel) (fun _ _ _ _ _ _ => rfl)
        (fun base A outer s1 H1 E f c' hr2 => pe_call (E := E) (GF base) (hr2.mono (by decide)) rfl gF FF.kp bF .nil (passes_call (takes_of rfl rfl rfl rfl) (fun _ _ _ _ h => h)) (pa_cons (pv 0) (pa_cons (pe_var (i := 1) rfl (.inr (.inr rfl))) (pa_cons (pe_var (i := 2) rfl (.inr (.inr rfl))) pa_nil)))))))
      (fun a oe cls d pn hz hf => pss_one (ps_ret pe_bl)))
    (pss_one (ps_ret pe_bl))), ?_⟩
    refine ⟨_, rfl, a, rfl, hT, fun f c' H1 base' e1 T1 hc hf FL => ?_⟩
    have ha1 := e1 _ _ ha fun _ z => nomatch z
    refine ⟨⟨dx, _, ha1⟩, a, f, dx, t, cs, _, rfl, ha1, hcs.keep (TK.ext e1), hf, FL, ?_⟩
    have ht1 := htr.ext e1
    refine asksC_fall (H := H1) (last := last) (tr := tr) (ks := ks) (Ef := last ∈ (askD tr cs).2) (fun z hz Q' ke kg => ?_) hkn (fun h => h) fun hn => ?_
    · refine ⟨_, rfl, hc, _, rfl, _, rfl, _, rfl, q, z, last, tr z, rfl, ht1.get hz, fun e d => ?_, kg⟩
      have hin := ke e
      refine ⟨true, exm_KE, fun _ b hb => ?_, fun z => nomatch z⟩
      have := k H1 e1 T1
      rw [decide_eq_true hin] at this
      exact this
    · have := k H1 e1 T1
      rw [decide_eq_false hn] at this
      exact this
end
end K12
namespace K12
open PySem PySem.Spec PyProof.Rows L2 He Tw LamX
/-! ### cases as the law keeps them: lists of lists of pairs, none of them at p -/
def LK (p : Addr) (H H' : Hp) : Prop := TK H H' ∧ ∀ b us, H b = some (.lst us) → b ≠ p → H' b = some (.lst us)
theorem LK.same {p : Addr} {H H' : Hp} (s : Same H H') : LK p H H' := ⟨TK.same s, fun b _ e _ => s b _ e⟩
theorem LK.ext {p : Addr} {H H' : Hp} (s : ExtN H H') : LK p H H' := ⟨TK.ext s, fun b _ e _ => s b _ e fun _ z => nomatch z⟩
theorem LK.but {p : Addr} {H H' : Hp} (s : But p H H') {us : List V} (hp : H p = some (.lst us)) : LK p H H' := ⟨fun b us e => s b _ e fun z => (by
  rw [z, hp] at e
  cases e), fun b _ e n => s b _ e n⟩
theorem LK.trans {p : Addr} {H H1 H2 : Hp} (a : LK p H H1) (b : LK p H1 H2) : LK p H H2 := ⟨a.1.trans b.1, fun c us e n => b.2 c us (a.2 c us e n) n⟩
def RowL (p : Addr) (H : Hp) (v : V) (r : List (Bool × Str)) : Prop := ∃ q ys, v = .ref q ∧ q ≠ p ∧ H q = some (.lst ys) ∧ Paired (PrT H) ys r
def CsL (p : Addr) (H : Hp) (v : V) (cs : Cs) : Prop := ∃ q xs, v = .ref q ∧ q ≠ p ∧ H q = some (.lst xs) ∧ Paired (RowL p H) xs cs
theorem RowL.keep {p : Addr} {H H' : Hp} (e : LK p H H') {v : V} {r : List (Bool × Str)} : RowL p H v r → RowL p H' v r
  | ⟨q, ys, h1, n, h2, h3⟩ => ⟨q, ys, h1, n, e.2 _ _ h2 n, pairUp (fun _ _ z => z.keep e.1) h3⟩
theorem CsL.keep {p : Addr} {H H' : Hp} (e : LK p H H') {v : V} {cs : Cs} : CsL p H v cs → CsL p H' v cs
  | ⟨q, xs, h1, n, h2, h3⟩ => ⟨q, xs, h1, n, e.2 _ _ h2 n, pairUp (fun _ _ z => z.keep e) h3⟩
abbrev s_due : Stmt := topS 39
abbrev N_due : List Str := ["_law_cases_here", "_law_truths_here", "_law_seen", "_law_row", "_law_is_so", "_law_is_not", "_law_word"]
theorem sc_due : FnScope N_due ["_law_cases_here", "_law_truths_here"] (defScope s_due) := ⟨rfl, rfl, rfl, by decide +kernel, rfl, by decide +kernel, by decide +kernel⟩
def Few (cs : Cs) : Prop := cs.length ≤ 6 ∧ ∀ r ∈ cs, r.length ≤ 6
def spDue : Sp := fun vs H Q _ => ∃ (p c q : Addr) (cs : Cs) (tr : Str → Bool) (ks : List Str), vs = [.ref c, .ref q] ∧ CsL p H (.ref c) cs ∧ TrAt H q tr ks ∧ Knows ks cs ∧ Few cs ∧
  ∀ (L S : Addr) (H' : Hp), Same H H' → H S = none → H L = none → L ≠ S → S ≠ sysModules → L ≠ sysModules → H' S = some (.lst ((askD tr cs).2.map V.str)) → H' L = some (.lst [.bl (askD tr cs).1, .ref S]) → Q (.ref L) H'
/-- within a case: what was asked, whether it stands -/
def InC (tr : Str → Bool) (r : List (Bool × Str)) (j : Nat) (so : Bool) (pre : List Str) : Prop :=
  (so = true ∧ askC tr r = ((askC tr (r.drop j)).1, pre ++ (askC tr (r.drop j)).2)) ∨ (so = false ∧ askC tr r = (false, pre))
theorem askC_cons (tr : Str → Bool) (x : Bool × Str) (r : List (Bool × Str)) : askC tr (x :: r) = if tr x.2 = x.1 then (false, [x.2]) else ((askC tr r).1, x.2 :: (askC tr r).2) := rfl
theorem InC.next {tr : Str → Bool} {r : List (Bool × Str)} {j : Nat} {pre : List Str} {x : Bool × Str} (hj : j < r.length) (hx : r[j] = x) (h : InC tr r j true pre) : InC tr r (j + 1) (!decide (tr x.2 = x.1)) (pre ++ [x.2]) := by
  rcases h with ⟨_, h⟩ | ⟨h, _⟩
  · rw [List.drop_eq_getElem_cons hj, hx, askC_cons] at h
    by_cases e : tr x.2 = x.1
    · rw [if_pos e] at h
      rw [decide_eq_true e]
      exact .inr ⟨rfl, h⟩
    · rw [if_neg e] at h
      rw [decide_eq_false e]
      refine .inl ⟨rfl, ?_⟩
      rw [List.append_assoc]
      exact h
  · cases h
theorem InC.stay {tr : Str → Bool} {r : List (Bool × Str)} {j : Nat} {pre : List Str} (h : InC tr r j false pre) : InC tr r (j + 1) false pre := by
  rcases h with ⟨h, _⟩ | h
  · cases h
  · exact .inr h
theorem InC.end {tr : Str → Bool} {r : List (Bool × Str)} {so : Bool} {pre : List Str} (h : InC tr r r.length so pre) : askC tr r = (so, pre) := by
  rcases h with ⟨rfl, h⟩ | ⟨rfl, h⟩
  · rw [List.drop_length] at h
    rw [h]
    simp [askC]
  · exact h
theorem askD_cons (tr : Str → Bool) (c : List (Bool × Str)) (cs : Cs) : askD tr (c :: cs) = if (askC tr c).1 = true then (true, (askC tr c).2) else ((askD tr cs).1, (askC tr c).2 ++ (askD tr cs).2) := rfl
section
variable {P : Program} {w : World} {K : Fg} {mg : Str → Option Value} {base : Heap} {fd : Nat → FuncData}
theorem G_due (D : DefsK K fd) (T : Txt K mg) : FnOk P w K mg base CX0 1 (ga K "_law_due") (fd 18) ["_law_cases_here", "_law_truths_here"] spDue := by
  have F : FnP K "_law_due" "_law_due" s_due (ga K "_law_due") (fd 18) := D 18 _ rfl
  refine F.ok sc_due (fun vs H Q E h => ?_) (fun cdv A outer s H vs Q E hr h => ?_)
  · obtain ⟨p, c, q, cs, tr, ks, rfl, _⟩ := h
    rfl
  · obtain ⟨p, c, q, cs, tr, ks, rfl, ⟨c', xs, ec, ncp, hc, hxs⟩, htr, hkn, ⟨f1, f2⟩, k⟩ := h
    obtain rfl : c = c' := by cases ec; rfl
    refine ⟨_, PSs.nox (pss_cons (ps_set (i := 2) sc_due.nd rfl (Or.inl rfl) (pe_lstN pa_nil))
    (pss_cons (ps_for PassesOwn.never rfl (pi_list (pv 0)) (pg_name (i := 3) sc_due.nd rfl (Or.inl rfl))
    (pss_cons (ps_set (i := 4) sc_due.nd rfl (Or.inl rfl) pe_bl)
    (pss_cons (ps_for PassesOwn.never rfl (pi_list (pv 3)) (pg_tup (by rfl) (pgs_cons (pg_name (i := 5) sc_due.nd rfl (Or.inl rfl)) (pgs_cons (pg_name (i := 6) sc_due.nd rfl (Or.inl rfl)) pgs_nil)))
    (pss_one (ps_if (pt_val (pv 4)) (pss_cons (ps_expr (pe_bm PySem.F.plainAttrs_list PySem.F.slot_list_append PySem.F.type_list_append mt_append (pv 2) (pa_cons (pv 6) pa_nil)))
    (pss_one (ps_set (i := 4) sc_due.nd rfl (Or.inl rfl) (pe_cmpR op_ne (pe_dget (u1 hr) (pv 1) (pv 6) (fun _ _ => rfl)) (pv 5) (nomark _))))) pss_nil)))
    (pss_one (ps_if (pt_val (pv 4)) (pss_one (ps_ret (pe_lstN (pa_cons pe_bl (pa_cons (pv 2) pa_nil))))) pss_nil)))))
    (pss_one (ps_ret (pe_lstN (pa_cons pe_bl (pa_cons (pv 2) pa_nil))))))), ?_⟩
    have lx : xs.length = cs.length := Paired.length hxs
    refine ⟨sz1000 (by decide), fun S H1 fS mS s1 gS => ?_⟩
    refine ⟨_, rfl, c, rfl, ⟨_, SqL.of (s1 _ _ hc)⟩, for_list (xs := xs) (fun i σ H' => ∃ (v3 v4 v5 v6 : Option V) (ws : List Str), σ = [some (.ref c), some (.ref q), some (.ref S), v3, v4, v5, v6] ∧ Same H H' ∧ H' S = some (.lst (ws.map V.str)) ∧ ws.length ≤ 6 * i ∧ askD tr cs = ((askD tr (cs.drop i)).1, ws ++ (askD tr (cs.drop i)).2))
      ⟨none, none, none, none, [], rfl, s1, gS, by simp, rfl⟩ (fun i σ H' _ ⟨_, _, _, _, _, _, s', _⟩ => SqL.of (s' _ _ hc)) ?_ ?_⟩
    · rintro i v σ H2 hv ⟨v3, v4, v5, v6, ws, rfl, s2, g2, hw, ea⟩
      have hi : i < cs.length := by
        rw [← lx]
        exact (List.getElem?_eq_some_iff.mp hv).1
      have er : cs[i]? = some cs[i] := List.getElem?_eq_getElem hi
      have hrow := paired_get hxs hv er
      have l6 : cs[i].length ≤ 6 := f2 _ (List.getElem_mem hi)
      have kn : ∀ x ∈ cs[i], x.2 ∈ ks := hkn _ (List.getElem_mem hi)
      rw [List.drop_eq_getElem_cons hi] at ea
      generalize cs[i] = r at hrow ea l6 kn
      obtain ⟨u, ys, rfl, nup, hu, hy⟩ := hrow
      have ly : ys.length = r.length := Paired.length hy
      refine ⟨_, rfl, u, rfl, ⟨_, SqL.of (s2 _ _ hu)⟩, for_list (xs := ys) (fun j σ H' => ∃ (so : Bool) (v5 v6 : Option V) (pre : List Str), σ = [some (.ref c), some (.ref q), some (.ref S), some (.ref u), some (.bl so), v5, v6] ∧ Same H H' ∧ H' S = some (.lst ((ws ++ pre).map V.str)) ∧ pre.length ≤ j ∧ InC tr r j so pre)
        ⟨true, v5, v6, [], rfl, s2, by rw [List.append_nil]; exact g2, Nat.le_refl _, .inl ⟨rfl, rfl⟩⟩ (fun i σ H' _ ⟨_, _, _, _, _, s', _⟩ => SqL.of (s' _ _ hu)) ?_ ?_⟩
      · rintro j y σ H3 hy1 ⟨so, v5, v6, pre, rfl, s3, g3, hp, ic⟩
        have hj : j < r.length := by
          rw [← ly]
          exact (List.getElem?_eq_some_iff.mp hy1).1
        have ex : r[j]? = some r[j] := List.getElem?_eq_getElem hj
        obtain ⟨t, rfl, ht⟩ := (paired_get hy hy1 ex).keep (TK.same s3)
        have knx := kn _ (List.getElem_mem hj)
        have icn := fun (h : InC tr r j true pre) => InC.next hj rfl h
        generalize r[j] = x at ht knx icn
        refine ⟨t, _, rfl, SqT.of ht, rfl, ?_⟩
        refine ⟨_, _, rfl, _, _, rfl, rfl, ?_⟩
        refine ⟨_, rfl, _, rfl, ?_⟩
        refine ite2 (fun hso => ?_) (fun hso => ?_)
        · subst hso
          refine ⟨_, rfl, .inl ⟨rfl, _, SqL.of g3⟩, _, rfl, S, _, _, rfl, rfl, g3, Nat.lt_of_le_of_lt (show ((ws ++ pre).map V.str).length ≤ 900 by rw [List.length_map, List.length_append]; omega) (by decide), ?_⟩
          have s4 : Same H (upd H3 S (.lst ((ws ++ pre).map V.str ++ [.str x.2]))) := fun b o e => by
            rw [upd_ne (ne_of_none e fS)]
            exact s3 _ _ e
          have g4 : (upd H3 S (.lst ((ws ++ pre).map V.str ++ [.str x.2]))) S = some (.lst ((ws ++ pre).map V.str ++ [.str x.2])) := upd_same
          generalize upd H3 S (.lst ((ws ++ pre).map V.str ++ [.str x.2])) = H4 at s4 g4
          refine ⟨_, rfl, _, rfl, q, _, rfl, (htr.same s4).get knx, _, rfl, ?_⟩
          have eb : (!decide (tr x.2 = x.1)) = (!decide (V.bl (tr x.2) = V.bl x.1)) := by
            cases tr x.2 <;> cases x.1 <;> rfl
          have ic2 := icn ic
          rw [eb] at ic2
          refine ⟨rfl, ?_⟩
          refine ⟨_, _, _, pre ++ [x.2], rfl, s4, ?_, ?_, ic2⟩
          · rw [g4, ← List.append_assoc, List.map_append (l₁ := ws ++ pre)]
            rfl
          · rw [List.length_append]
            exact Nat.add_le_add hp (Nat.le_refl 1)
        · obtain rfl := Bool.eq_false_iff.mpr hso
          exact ⟨_, _, _, pre, rfl, s3, g3, by omega, ic.stay⟩
      · rintro σ H3 ⟨so, v5, v6, pre, rfl, s3, g3, hp, ic⟩
        rw [ly] at ic hp
        have eC := ic.end
        rw [askD_cons, eC] at ea
        refine ⟨_, rfl, _, rfl, ite2 (fun hso => ?_) (fun hso => ?_)⟩
        · subst hso
          rw [if_pos rfl] at ea
          refine ⟨_, rfl, sz1000 (by show 2 ≤ 1000; decide), fun L H4 fL mL s4 g4 => ?_⟩
          refine k L S H4 (s3.trans s4) fS (s3.free fL) (fun z => ?_) mS mL ?_ ?_
          · rw [z, g3] at fL
            cases fL
          · rw [ea]
            exact s4 _ _ g3
          · rw [ea]
            exact g4
        · obtain rfl := Bool.eq_false_iff.mpr hso
          rw [if_neg (show ¬ ((false, pre) : Bool × List Str).1 = true from fun z => nomatch z)] at ea
          refine ⟨_, _, _, _, ws ++ pre, rfl, s3, g3, by rw [List.length_append]; omega, ?_⟩
          rw [List.append_assoc]
          exact ea
    · rintro σ H2 ⟨v3, v4, v5, v6, ws, rfl, s2, g2, hw, ea⟩
      rw [List.drop_of_length_le (Nat.le_of_eq lx.symm), show askD tr [] = (false, []) from rfl, List.append_nil] at ea
      refine ⟨_, rfl, sz1000 (by show 2 ≤ 1000; decide), fun L H4 fL mL s4 g4 => ?_⟩
      refine k L S H4 (s2.trans s4) fS (s2.free fL) (fun z => ?_) mS mL ?_ ?_
      · rw [z, g2] at fL
        cases fL
      · rw [ea]
        exact s4 _ _ g2
      · rw [ea]
        exact g4
end
end K12
/-! Tw: the law's end with tables of code objects, where no repr runs around. -/
namespace Tw
open PySem PySem.Spec PyProof.Rows L2 LamX
theorem law_tabG {P : Program} {w : World} {K : PySem.W.Frag} {mg mb : Str → Option Value} {CX : CXT} {k : Nat} {fa a : Addr} {cs : List (Addr × Addr)} {fd : FuncData} {x : Str} {sp : Sp} {s0 : Shared} {vs : List Value} {ns : List Int}
    (KX : K.In s0.heap) (hns : s0.heap.Ns mainGlobals mg) (hb : s0.heap.Ns builtinsNs mb) (hbb : ∀ x : Str, x ≠ "__name__" → mb x = bootBuiltins x) (hlim : s0.heap.NoLimit) (hg : s0.gens = #[])
    (hT : ∀ p ∈ cs, s0.heap.get? p.2 = some { cls := .none, data := .fields #[] }) (nT : ∀ p ∈ cs, K.lookup p.2 = none) (C : ∀ p ∈ cs, PySem.W.CodeHd s0.heap p.1 p.2)
    (hbm : ∃ (bm : Addr) (ob : Obj), mg "__builtins__" = some (.ref bm) ∧ bm ≠ builtinsNs ∧ s0.heap.get? bm = some ob ∧ ob.cls = .type "module" ∧ ob.dict = some builtinsNs ∧ ob.data = .plain)
    (ha : s0.heap.get? a = some { cls := .type "list", data := .seq vs.toArray }) (hi : IntsAre vs ns) (hl : ns.length ≤ sizeLine) (hr : Room k callerA)
    (F : ∀ base : Heap, K.In base → base.Ns mainGlobals mg → (∀ p ∈ cs, TabB base mg p.1 p.2) → FnG P w K mg base CX k fa fd [x] sp) (hbind : ∀ (s : Shared) (u : Value), BindsTo s fd ⟨[u], []⟩ [(x, u)])
    (hsp : ∀ H : Hp, (∀ p ∈ cs, H p.2 = some (.tbl #[])) → SqL K H a (ns.map V.int) → sp [.ref a] H (fun v _ => v = .bl true) fun _ _ _ => False)
    (hCX : ∀ H e s', CX [] H s0 (fun _ _ _ => False) e s' → False) :
    codeAny (model P w) callerA (.call (.ref fa) ⟨[.ref a], []⟩) (fun r s' => r = .ok (.ret (.bool true)) ∧ OldK s0.heap s'.heap ∧ s'.os = s0.os ∧ AllBare s'.gens) s0 := by
  have rv := vals_ints hi
  have lenVs := hi.length
  have atTab : ∀ b : Addr, b ∈ cs.map (·.2) → s0.heap.get? b = some { cls := .none, data := .fields #[] } := fun b hb => by
    obtain ⟨p, hp, e⟩ := List.mem_map.mp hb
    rw [← e]
    exact hT p hp
  have notTab : a ∉ cs.map (·.2) := fun z => by
    have q := atTab a z
    rw [ha] at q
    have z' : Data.seq vs.toArray _ = Data.fields #[] := congrArg Obj.data (Option.some.inj q)
    cases z'
  have inTab : ∀ p ∈ cs, p.2 ∈ cs.map (·.2) := fun p hp => List.mem_map.mpr ⟨p, hp, rfl⟩
  -- from an abstract heap in which nothing but the script and the tables may be tracked
  have body : ∀ H : Hp, (∀ p ∈ cs, H p.2 = some (.tbl #[])) → (∀ b, H b = none ∨ b ∈ cs.map (·.2) ∨ ∃ o xs, H b = some (.frz o (.lst xs))) → SqL K H a (ns.map V.int) → HOk P w H s0.heap → (∀ b, H b ≠ none → b = a ∨ b ∈ cs.map (·.2)) → (H a ≠ none → K.lookup a = none) →
      codeAny (model P w) callerA (.call (.ref fa) ⟨[.ref a], []⟩) (fun r s' => r = .ok (.ret (.bool true)) ∧ OldK s0.heap s'.heap ∧ s'.os = s0.os ∧ AllBare s'.gens) s0 := by
    intro H hH hO hS hok hA hK
    have getHid : ∀ {b : Addr} {o : Obj}, s0.heap.get? b = some o → H b = none → (hidT s0.heap H).get? b = some o := fun e n => hidT_get e n
    have noDat : ∀ {b : Addr} {o : Obj}, s0.heap.get? b = some o → (∀ vs n, o.data ≠ .seq vs n) → o.data ≠ .fields #[] → H b = none := fun {b o} e h1 h2 => by
      cases q : H b with
      | none => rfl
      | some u =>
        rcases hA b (by rw [q]; simp) with e' | e'
        · rw [e', ha] at e
          cases e
          exact (h1 _ _ rfl).elim
        · rw [atTab b e'] at e
          cases e
          exact (h2 rfl).elim
    have noDic : ∀ {b : Addr} {o : Obj} {es : Array DictEntry} {ep : Nat}, s0.heap.get? b = some o → o.data = .dict es ep → H b = none := fun {b o es ep} e d => by
      refine noDat e (fun vs n z => ?_) fun z => ?_
      · rw [d] at z
        cases z
      · rw [d] at z
        cases z
    have nsHid : ∀ {b : Addr} {m : Str → Option Value}, s0.heap.Ns b m → (hidT s0.heap H).Ns b m := fun {b m} ⟨o, es, ep, e, d, r⟩ => ⟨o, es, ep, getHid e (noDic e d), d, r⟩
    have kHid : K.In (hidT s0.heap H) := fun b o e => getHid (KX b o e) (by
      cases q : H b with
      | none => rfl
      | some u =>
        rcases hA b (by rw [q]; simp) with e' | e'
        · rw [e'] at e q
          rw [hK (by rw [q]; simp)] at e
          cases e
        · obtain ⟨p, hp, ep⟩ := List.mem_map.mp e'
          rw [← ep, nT p hp] at e
          cases e)
    have hMod : L2.Mod K mg (hidT s0.heap H) := ⟨kHid, nsHid hns, ⟨mb, nsHid hb, hbb⟩, let ⟨mc, h1, h2⟩ := hlim; ⟨mc, nsHid h1, h2⟩⟩
    have TB : ∀ p ∈ cs, TabB (hidT s0.heap H) mg p.1 p.2 := fun p hp => by
      have hTp := hT p hp
      refine ⟨?_, ?_, fun z => ?_⟩
      · obtain ⟨o, us, file, tf, flags, tg, inF, text, tt, e1, r1, r2, r3, r4, r5, r6, r7, r8, hne⟩ := C p hp
        refine ⟨o, us, file, tf, flags, tg, inF, text, tt, getHid e1 (noDat e1 (fun vs n z => ?_) fun z => ?_), r1, r2, r3, r4, r5, r6, r7, r8, hne⟩
        · rw [r2] at z
          cases z
        · rw [r2] at z
          cases z
          simp at r3
      · obtain ⟨bm, ob, b1, b2, b3, b4, b5, b6⟩ := hbm
        have nG : bm ≠ mainGlobals := fun q => by
          obtain ⟨o, es, ep, e, hd, _⟩ := hns
          rw [q, e] at b3
          cases b3
          rw [hd] at b6
          cases b6
        have nP : bm ≠ p.2 := fun q => by
          rw [q, hTp] at b3
          cases b3
          cases b6
        refine ⟨bm, ob, b1, b2, nG, nP, getHid b3 (noDat b3 (fun vs n z => ?_) fun z => ?_), b4, b5, b6⟩
        · rw [b6] at z
          cases z
        · rw [b6] at z
          cases z
      · obtain ⟨o, es, ep, e, hd, _⟩ := hns
        rw [z, hTp] at e
        cases e
        cases hd
    have e0 : Env0 P w K mg (hidT s0.heap H) callerA [] s0 H := ⟨rfl, hMod, fun b o e => of_hidT e, Nat.le_of_eq (hidT_size _ _), trivial, fun b hb => absurd (show b ∈ ([] : List Addr) from hb) (by simp), hok, .of_eq hg⟩
    refine codeAny_mono ((F _ kHid (nsHid hns) TB).run callerA [] s0 H ⟨[.ref a], []⟩ [.ref a] [.ref a] _ _ hr rfl e0 (hbind s0 (.ref a)) (.cons rfl .nil) (hsp H hH hS)) fun r s' h => ?_
    cases r with
    | error e => exact (hCX H e s' h).elim
    | ok fl =>
      cases fl with
      | next => exact False.elim h
      | brk => exact False.elim h
      | cont => exact False.elim h
      | ret u =>
        obtain ⟨v, H', os, bare, un, hok', r', q⟩ := h
        have q' : v = .bl true := q
        subst q'
        obtain rfl : u = Value.bool true := r'
        have keepB : ∀ b o, b ∉ cs.map (·.2) → s0.heap.get? b = some o → s'.heap.get? b = some o := fun b o nb e => by
          cases q : H b with
          | none => exact un.keep b o e q (by intro z; exact absurd (show b ∈ ([] : List Addr) from z) (by simp)) (by simp)
          | some u =>
            rcases hO b with z | z | ⟨ob, xs, z⟩
            · rw [q] at z; cases z
            · exact absurd z nb
            · have z2 := un.frzs b ob _ z
              obtain ⟨e1, _⟩ := hok b _ z
              obtain ⟨e2, _⟩ := hok' b _ z2
              rw [e] at e1; cases e1
              exact e2
        have more : ∀ p ∈ cs, ∃ mo : Array Value, s'.heap.get? p.2 = some { cls := .none, data := .fields mo } := fun p hp => by
          obtain ⟨mo, z⟩ := un.tbls p.2 #[] (hH p hp)
          exact ⟨_, hok' p.2 _ z⟩
        refine ⟨rfl, ⟨fun b o e => ?_, fun b o e => ?_⟩, os, bare⟩
        · by_cases hb : b ∈ cs.map (·.2)
          · obtain ⟨p, hp, ep⟩ := List.mem_map.mp hb
            obtain ⟨mo, hm⟩ := more p hp
            rw [← ep] at e ⊢
            rw [hT p hp] at e
            cases e
            exact .inr (.inl ⟨((C p hp).tab (hT p hp)).isCodeTable, rfl, #[], mo, rfl, by rw [Array.empty_append]; exact hm⟩)
          · exact .inl (keepB b o hb e)
        · by_cases hb : b ∈ cs.map (·.2)
          · obtain ⟨p, hp, ep⟩ := List.mem_map.mp hb
            obtain ⟨mo, hm⟩ := more p hp
            rw [← ep]
            exact ⟨_, hm⟩
          · exact ⟨o, keepB b o hb e⟩
  cases hk : K.lookup a with
  | some o =>
    have e := KX a o hk
    rw [ha] at e
    cases e
    refine body (fun b => if b ∈ cs.map (·.2) then some (.tbl #[]) else none) (fun p hp => if_pos (inTab p hp)) (fun b => ?_) (.inr ⟨_, vs.toArray, _, hk, rfl, rfl, rfl, by rw [List.size_toArray, lenVs]; exact hl, by simpa using rv⟩) (fun b u z => ?_) (fun b z => ?_) fun z => absurd (show (if a ∈ cs.map (·.2) then some (HO.tbl #[]) else none) = none from if_neg notTab) z
    · by_cases hb : b ∈ cs.map (·.2)
      · exact .inr (.inl hb)
      · exact .inl (if_neg hb)
    · by_cases hb : b ∈ cs.map (·.2)
      · have z' := (if_pos hb).symm.trans z
        cases z'
        exact atTab b hb
      · have z' := (if_neg hb).symm.trans z
        cases z'
    · by_cases hb : b ∈ cs.map (·.2)
      · exact .inr hb
      · exact absurd (if_neg hb) z
  | none =>
    refine body (fun b => if b = a then some (.frz { cls := .type "list", data := .seq vs.toArray } (.lst (ns.map V.int))) else if b ∈ cs.map (·.2) then some (.tbl #[]) else none) (fun p hp => (if_neg (show ¬ p.2 = a from fun z => notTab (by rw [← z]; exact inTab p hp))).trans (if_pos (inTab p hp))) (fun b => ?_)
      (.inl (.inr ⟨{ cls := .type "list", data := .seq vs.toArray }, if_pos rfl⟩)) (fun b u z => ?_) (fun b z => ?_) fun _ => hk
    · by_cases hb : b = a
      · exact .inr (.inr ⟨_, _, if_pos hb⟩)
      · by_cases hb2 : b ∈ cs.map (·.2)
        · exact .inr (.inl hb2)
        · exact .inl ((if_neg hb).trans (if_neg hb2))
    · by_cases hb : b = a
      · have z' := (if_pos hb).symm.trans z
        cases z'
        rw [hb]
        exact ⟨ha, by rw [List.length_map]; exact hl, vs, _, rv, ha⟩
      · have z1 := (if_neg hb).symm.trans z
        by_cases hb2 : b ∈ cs.map (·.2)
        · have z' := (if_pos hb2).symm.trans z1
          cases z'
          exact atTab b hb2
        · have z' := (if_neg hb2).symm.trans z1
          cases z'
    · by_cases hb : b = a
      · exact .inl hb
      · by_cases hb2 : b ∈ cs.map (·.2)
        · exact .inr hb2
        · exact absurd ((if_neg hb).trans (if_neg hb2)) z
/-- what is known of the law's promise at the head's heap -/
def LawAtG (l : PySem.W.OpenLaw) (w : World) (K : PySem.W.Frag) (CX : CXT) (k n : Nat) (x : Str) (mg : Str → Option Value) (fa : Addr) (h : Heap) : Prop :=
  ∃ (fd : FuncData) (cs : List (Addr × Addr)) (sp : Sp), (∀ p ∈ cs, h.get? p.2 = some { cls := .none, data := .fields #[] }) ∧ (∀ p ∈ cs, K.lookup p.2 = none) ∧ (∀ p ∈ cs, PySem.W.CodeHd h p.1 p.2) ∧ (∀ (s : Shared) (u : Value), BindsTo s fd ⟨[u], []⟩ [(x, u)]) ∧
    (∀ (H : Hp) (a : Addr) (ns : List Int), ns.length ≤ n → (∀ z ∈ ns, Builtin.Int.intBits z ≤ 1048576) → (∀ p ∈ cs, H p.2 = some (.tbl #[])) → SqL K H a (ns.map V.int) → sp [.ref a] H (fun v _ => v = .bl true) fun _ _ _ => False) ∧
    ∀ base : Heap, K.In base → base.Ns mainGlobals mg → (∀ p ∈ cs, TabB base mg p.1 p.2) → FnG l.prog w K mg base CX k fa fd [x] sp
theorem walk_ofTsG {l : PySem.W.OpenLaw} {n k : Nat} {q : Program} {loose : List Str} {XP : (Str → Option Value) → Heap → Prop} {YP : World → Heap → Prop} {d : DefRec} {CX : World → CXT} {x : Str}
    (hn : l.most = some n) (hn2 : n ≤ sizeLine) (hdf : d.params.defaults = []) (hr : Room k callerA)
    (F : ∀ (w : World) (mg : Str → Option Value) (fa : Addr) (h : Heap), YP w h → h.Ns mainGlobals mg → mg d.name = some (.ref fa) → ∃ K : PySem.W.Frag, K.In h ∧ LawAtG l w K (CX w) k n x mg fa h)
    (hCX : ∀ (w : World) (H : Hp) (s : Shared) (e : Value) (s' : Shared), CX w [] H s (fun _ _ _ => False) e s' → False) :
    PySem.W.WalkO q loose XP YP l.row.toRowW d [] (fun f vs => PySem.call f vs) := by
  refine Att.attach_callB hn hdf fun w s₀ s1 mg mb fa o pm cd doc a vs ns G Y ho hd hcd hmg hobj hints hlen hbits hg => ?_
  obtain ⟨K, KX, fd, cs, sp, hT, nT, C, hb, hsp, hF⟩ := F w mg fa _ Y G.T.g hmg
  exact law_tabG KX G.T.g G.T.b G.T.builtins G.T.nolimit hg hT nT C G.T.bmain hobj hints (Nat.le_trans hlen hn2) hr hF hb (fun H hH hS => hsp H a ns hlen hbits hH hS) fun H e s' => hCX w H s1 e s'
end Tw
namespace K12
open PySem PySem.Spec PyProof.Rows L2 He Tw LamX
theorem repr2 {n : Nat} (b : Bool) (zs : List Str) (h : ∀ z ∈ zs, Small n z) (hn : n ≤ 100) (hz : zs.length ≤ 1000) : mild (.list [.bool b, .list (zs.map .str)]) = true ∧ (PyData.list [.bool b, .list (zs.map .str)]).depth ≤ 64 ∧ cap (.list [.bool b, .list (zs.map .str)]) ≤ 16777216 := by
  obtain ⟨h1, h2⟩ := mildStrs zs h
  have h3 : (12 * n + 100) * zs.length ≤ 1300 * 1000 := Nat.mul_le_mul (by omega) hz
  refine ⟨by simpa [mild, mildAll] using h1, by simp only [PyData.depth, PyData.depthAll, depthStrs]; decide, ?_⟩
  simp only [cap, capAll]
  omega
theorem askC_words (tr : Str → Bool) : ∀ (r : List (Bool × Str)), ∀ z ∈ (askC tr r).2, ∃ x ∈ r, z = x.2
  | [], z, h => nomatch h
  | x :: r, z, h => by
    rw [askC_cons] at h
    by_cases e : tr x.2 = x.1
    · rw [if_pos e] at h
      exact ⟨x, List.mem_cons_self, List.mem_singleton.mp h⟩
    · rw [if_neg e] at h
      rcases List.mem_cons.mp h with q | q
      · exact ⟨x, List.mem_cons_self, q⟩
      · obtain ⟨y, hy, e⟩ := askC_words tr r z q
        exact ⟨y, List.mem_cons_of_mem _ hy, e⟩
theorem askD_words (tr : Str → Bool) : ∀ (cs : Cs), ∀ z ∈ (askD tr cs).2, ∃ r ∈ cs, ∃ x ∈ r, z = x.2
  | [], z, h => nomatch h
  | c :: cs, z, h => by
    rw [askD_cons] at h
    by_cases e : (askC tr c).1 = true
    · rw [if_pos e] at h
      exact ⟨c, List.mem_cons_self, askC_words tr c z h⟩
    · rw [if_neg e] at h
      rcases List.mem_append.mp h with q | q
      · exact ⟨c, List.mem_cons_self, askC_words tr c z q⟩
      · obtain ⟨y, hy, e⟩ := askD_words tr cs z q
        exact ⟨y, List.mem_cons_of_mem _ hy, e⟩
theorem askD_len (tr : Str → Bool) : ∀ (cs : Cs), (∀ r ∈ cs, r.length ≤ 6) → (askD tr cs).2.length ≤ 6 * cs.length
  | [], _ => Nat.le_refl _
  | c :: cs, h => by
    have a := askC_len tr c
    have b := h c List.mem_cons_self
    have d := askD_len tr cs fun r hr => h r (List.mem_cons_of_mem _ hr)
    rw [askD_cons]
    by_cases e : (askC tr c).1 = true
    · rw [if_pos e, List.length_cons]
      show (askC tr c).2.length ≤ _
      omega
    · rw [if_neg e, List.length_cons]
      show ((askC tr c).2 ++ (askD tr cs).2).length ≤ _
      rw [List.length_append]
      omega
/-- a truth, its dict at rest -/
def TrD (H : Hp) (q : Addr) (tr : Str → Bool) (ks : List Str) : Prop := ∃ kvs : List (Key × V), H q = some (.dK kvs) ∧ kvs.map (·.1) = ks.map Sum.inr ∧ ∀ z ∈ ks, valV kvs (.inr z) = some (.bl (tr z))
theorem TrD.at_ {H : Hp} {q : Addr} {tr : Str → Bool} {ks : List Str} : TrD H q tr ks → TrAt H q tr ks
  | ⟨kvs, h1, h2, h3⟩ => ⟨kvs, .inl h1, h2, h3⟩
theorem caps52 : ∀ (j : Nat) (y : Str) (i : Nat), (["_law_seen", "_law_truths_here"] : List Str)[j]? = some y → ([5, 2] : List Nat)[j]? = some i → N_right[i]? = some y := fun j y i h1 h2 => by
  match j with
  | 0 =>
    cases h1
    cases h2
    rfl
  | 1 =>
    cases h1
    cases h2
    rfl
  | n + 2 => cases h1
def spRight (K : Fg) : Sp := fun vs H Q _ => ∃ (p a c q dx t : Addr) (cs : Cs) (tr : Str → Bool) (ks : List Str), vs = [.ref a, .ref c, .ref q] ∧ H a = some (.ins (ga K "Test") dx [("cases", .ref t)]) ∧ CsT H (.ref t) cs ∧ CsL p H (.ref c) cs ∧ TrD H q tr ks ∧ Knows ks cs ∧ Few cs ∧ (∀ z ∈ ks, Small 12 z) ∧ Tabs (Tb K) H ∧
  ∀ H', ExtN H H' → Tabs (Tb K) H' → Q (.bl true) H'
section
variable {P : Program} {w : World} {K : Fg} {mg : Str → Option Value} {base : Heap} {fd : Nat → FuncData}
theorem G_right (D : DefsK K fd) (T : Txt K mg) (TB : TabB base mg (Tw.codeAt K (ga K "_law_right")) (tabAt K (ga K "_law_right"))) (TB2 : TabB base mg (Tw.codeAt K (ga K "_law_falls")) (tabAt K (ga K "_law_falls"))) : FnG P w K mg base CX0 14 (ga K "_law_right") (fd 23) ["_law_made", "_law_cases_here", "_law_truths_here"] (spRight K) := by
  have zr : mg "range" = none := T.bl (by decide +kernel)
  have zrepr : mg "repr" = none := T.bl (by decide +kernel)
  have gD := T.fn (x := "_law_due") (by decide +kernel)
  have gF := T.fn (x := "_law_falls") (by decide +kernel)
  have gS := T.fn (x := "_law_said") (by decide +kernel)
  have FD : FnP K "_law_due" "_law_due" s_due (ga K "_law_due") (fd 18) := D 18 _ rfl
  have GD : FnOk P w K mg base CX0 1 (ga K "_law_due") (fd 18) ["_law_cases_here", "_law_truths_here"] spDue := G_due D T
  have bD : Binds K (fd 18) ["_law_cases_here", "_law_truths_here"] [] := FD.bindsN fun _ _ _ _ _ _ us hl => match us, hl with | [_, _], _ => rfl
  have FF : FnP K "_law_falls" "_law_falls" s_falls (ga K "_law_falls") (fd 22) := D 22 _ rfl
  have GF : FnOk P w K mg base CX0 12 (ga K "_law_falls") (fd 22) ["_law_made", "_law_truths_here", "_law_last"] (spFalls K) := G_falls D T TB2
  have bF : Binds K (fd 22) ["_law_made", "_law_truths_here", "_law_last"] [] := FF.bindsN fun _ _ _ _ _ _ us hl => match us, hl with | [_, _, _], _ => rfl
  have FS : FnP K "_law_said" "_law_said" s_said (ga K "_law_said") (fd 17) := D 17 _ rfl
  have GS : ∀ base : Heap, FnOk P w K mg base CX0 1 (ga K "_law_said") (fd 17) ["_law_seen", "_law_truths_here", "_law_word"] spSaid := fun base => G_said D T
  have bS : Binds K (fd 17) ["_law_seen", "_law_truths_here", "_law_word"] [] := FS.bindsN fun _ _ _ _ _ _ us hl => match us, hl with | [_, _, _], _ => rfl
  have FC : FnP K "__call__" "Test.__call__" s_call (ma K (ga K "Test") "__call__") (fd 25) := D 25 _ rfl
  have bC : Binds K (fd 25) ["self", "look"] [] := FC.bindsN fun _ _ _ _ _ _ us hl => match us, hl with | [_, _], _ => rfl
  have GC : ∀ base : Heap, FnR P w K mg base (L2.CX P w) 9 (ma K (ga K "Test") "__call__") (spCall P w K mg base) := fun base => (FnOk.raw (G_call D T) bC .nil).imp fun vs H Q E h => by rw [List.append_nil]; exact h
  have F : FnP K "_law_right" "_law_right" s_right (ga K "_law_right") (fd 23) := D 23 _ rfl
  obtain ⟨oc, od, dV, kV, doc, pm, an, cdv, ct, osl, e0, lk, hcd, _, _⟩ := F.ex
  rw [e0] at lk ⊢
  obtain ⟨cc, rfl⟩ := codeIn_ref hcd
  have ec : Tw.codeAt K (ga K "_law_right") = cc := by
    unfold Tw.codeAt
    rw [lk]
  rw [ec] at TB
  refine fng lk hcd sc_right (fun vs H Q E h => ?_) (fun A outer s H vs Q E hr hg h => ?_)
  · obtain ⟨p, a, c, q, dx, t, cs, tr, ks, rfl, _⟩ := h
    rfl
  · obtain ⟨p, a, c, q, dx, t, cs, tr, ks, rfl, ha, hct, hcl, ⟨kvs, hq, ekv, hval⟩, hkn, few, hsm, hT, k⟩ := h
    have hu := room70 hr
    have htr : TrAt H q tr ks := ⟨kvs, .inl hq, ekv, hval⟩
    refine ⟨_, PSs.nox (pss_cons (ps_set (i := 3) sc_right.nd rfl (Or.inl rfl) (pe_call GD (hr.mono (by decide)) rfl gD FD.kp bD .nil pass0 (pa_cons (pv 1) (pa_cons (pv 2) pa_nil))))
    (pss_cons (ps_for PassesOwn.never rfl (pi_range1 rfl zr (pa_cons pe_int pa_nil)) (pg_name (i := 4) sc_right.nd rfl (Or.inl rfl))
    (pss_cons (ps_set (i := 5) sc_right.nd rfl (Or.inr rfl) (pe_lstN pa_nil))
    (pss_cons (ps_set (i := 6) sc_right.nd rfl (Or.inl rfl) (pe_callOL (k := 6) (E := fun _ => E0) (qn := lamNameC "_law_right" (defScope s_right)) (T := Tb K) (x := "_law_word") (cs := ["_law_seen", "_law_truths_here"]) (caps := [5, 2]) (pv 0) (callO D T) GC (hr.mono (by decide)) (fun σ pins H s e s' => passL pins σ H s e s') TB rfl (List.mem_cons.mpr (.inl rfl)) (tb_one T) rfl
        (fun _ => rfl) (lamP_by (sc := defScope s_right) (by decide +kernel)) caps52 rfl (by decide +kernel) (fun _ _ _ _ _ _ => rfl)
        (fun base A outer s1 H1 E f c' hr2 => pe_call (GS base) (hr2.mono (by decide)) rfl gS FS.kp bS .nil pass0 (pa_cons (pe_var (i := 1) rfl (.inr (.inr rfl))) (pa_cons (pe_var (i := 2) rfl (.inr (.inr rfl))) (pa_cons (pv 0) pa_nil))))))
    (pss_one (ps_if (pt_cmpR op_ne (pe_callB (call_reprD hg hu) (by rfl) zrepr Tw.boot_repr (pa_cons (pe_lstN (pa_cons (pv 6) (pa_cons (pv 5) pa_nil))) pa_nil)) (pe_callB (call_reprD hg hu) (by rfl) zrepr Tw.boot_repr (pa_cons (pv 3) pa_nil)) (nomark _)) (pss_one (ps_ret pe_bl)) pss_nil)))))
    (pss_cons (ps_lock (ps_for PassesOwn.never rfl (pi_keys (pv 2)) (pg_name (i := 7) sc_right.nd rfl (Or.inl rfl))
    (pss_one (ps_if (pt_cmpR op_ne (pe_call GF (hr.mono (by decide)) rfl gF FF.kp bF .nil pass0 (pa_cons (pv 0) (pa_cons (pv 2) (pa_cons (pv 7) pa_nil)))) (pe_cmpR op_in_seq (pv 7) (pe_ix ix_list (pv 3) pe_int (fun _ _ => rfl)) rfl) (nomark _)) (pss_one (ps_ret pe_bl)) pss_nil))))
    (pss_one (ps_ret pe_bl))))), ?_⟩
    refine ⟨_, rfl, _, rfl, p, c, q, cs, tr, ks, rfl, hcl, htr, hkn, few, fun L S H1 s1 fS fL nLS mS mL gS1 gL1 => ?_⟩
    have T1 := hT.ext s1
    refine ⟨2, rfl, by decide, by decide, for_range (lo := 0) (n := 2) (fun i σ H' => ∃ v4 v5 v6 : Option V, σ = [some (.ref a), some (.ref c), some (.ref q), some (.ref L), v4, v5, v6, none] ∧ ExtN H1 H' ∧ Tabs (Tb K) H') ⟨none, none, none, rfl, ExtN.refl _, T1⟩ ?_ ?_⟩
    · rintro i σ H2 hi ⟨v4, v5, v6, rfl, e2, T2⟩
      refine ⟨sz1000 (by decide), fun S2 H3 f3 m3 s3 g3 => ?_⟩
      have e3 := e2.trans (ExtN.of s3)
      have T3 := T2.ext s3
      have hq2 : H2 q = some (.dK kvs) := e2 _ _ (s1 _ _ hq) fun _ z => nomatch z
      have nq : q ≠ S2 := ne_of_none hq2 f3
      refine ⟨_, rfl, a, rfl, T3, fun f c' H4 base' e4 T4 hc' hf FL => ?_⟩
      have x4 : ExtN H H4 := ((ExtN.of s1).trans e3).trans e4
      have ha4 := x4 _ _ ha fun _ z => nomatch z
      have g4 : H4 S2 = some (.lst []) := e4 _ _ g3 fun _ z => nomatch z
      have nc : c' ≠ S2 := fun z => by
        rw [z, g4] at hc'
        exact nomatch hc'
      have htr4 := htr.ext x4
      refine ⟨⟨dx, _, ha4⟩, a, f, dx, t, cs, _, rfl, ha4, hct.keep (TK.ext x4), hf, FL, ?_⟩
      refine asksC_said (St := fun ws H' => H' S2 = some (.lst (ws.map V.str)) ∧ But S2 H4 H') (tr := tr) (ks := ks) (fun z hz ws H' Q' st hl k' => ?_) hkn few.2 (ws := []) ⟨g4, fun _ _ e _ => e⟩ (by have := few.1; simp; omega) fun H5 st _ => ?_
      · obtain ⟨g, b⟩ := st
        refine ⟨_, rfl, b _ _ hc' nc, _, rfl, _, rfl, _, rfl, S2, q, z, tr z, ws, rfl, g, hl, nq, (htr4.but b nq).get hz, ?_⟩
        exact k' _ ⟨upd_same, fun b' o e n => by
          rw [upd_ne n]
          exact b b' o e n⟩ (TK.upd g fun _ z => nomatch z)
      · obtain ⟨g5, b5⟩ := st
        rw [List.nil_append] at g5
        have x5 : ExtN H2 H5 := fun b o h n => b5 b o (e4 _ _ (s3 _ _ h) n) (ne_of_none h f3)
        have T5 : Tabs (Tb K) H5 := tabs_but T4 b5 (fun ps z => by
          rw [g4] at z
          cases z) fun c q z => by
          rw [g4] at z
          exact nomatch z
        obtain ⟨wm, wd, wc⟩ := repr2 (askD tr cs).1 (askD tr cs).2 (fun z hz => by
          obtain ⟨r, hr', x, hx, e⟩ := askD_words tr cs z hz
          rw [e]
          exact hsm _ (hkn r hr' x hx)) (by decide) (by have := askD_len tr cs few.2; have := few.1; omega)
        refine ⟨_, rfl, _, rfl, sz1000 (by show 2 ≤ 1000; decide), fun M H6 f6 m6 s6 g6 => ?_⟩
        refine ⟨M, _, rfl, .lst (SqL.of g6) (.cons (.bl _) (.cons (.lst (SqL.of (s6 _ _ g5)) (dpStrs _)) .nil)), wm, wd, wc, ?_⟩
        have xL : ExtN H1 H6 := (e2.trans x5).trans (ExtN.of s6)
        refine ⟨_, rfl, L, _, rfl, .lst (SqL.of (xL _ _ gL1 fun _ z => nomatch z)) (.cons (.bl _) (.cons (.lst (SqL.of (xL _ _ gS1 fun _ z => nomatch z)) (dpStrs _)) .nil)), wm, wd, wc, rfl, ?_⟩
        refine ⟨_, rfl, ite2 (fun h => absurd h (by simp)) (fun _ => ?_)⟩
        exact ⟨_, _, _, rfl, xL, T5.ext s6⟩
    · rintro σ H2 ⟨v4, v5, v6, rfl, e2, T2⟩
      have x2 : ExtN H H2 := (ExtN.of s1).trans e2
      have hq2 : H2 q = some (.dK kvs) := x2 _ _ hq fun _ z => nomatch z
      refine ⟨q, .dK kvs, hq2, trivial, fun od => ?_⟩
      have b3 : But q H2 (upd H2 q (.frz od (.dK kvs))) := But.upd
      have hq3 : (upd H2 q (.frz od (.dK kvs))) q = some (.frz od (.dK kvs)) := upd_same
      generalize upd H2 q (.frz od (.dK kvs)) = H3 at b3 hq3 ⊢
      have T3 : Tabs (Tb K) H3 := tabs_but T2 b3 (fun ps z => by
          rw [hq2] at z
          cases z) fun c q z => by
          rw [hq2] at z
          exact nomatch z
      have nqa : a ≠ q := fun z => by
        rw [z, hq] at ha
        cases ha
      have ha3 := b3 _ _ (x2 _ _ ha fun _ z => nomatch z) nqa
      have hct3 : CsT H3 (.ref t) cs := (hct.keep (TK.ext x2)).keep fun b us e => b3 _ _ e fun z => by
        rw [z, hq2] at e
        cases e
      have htr3 : TrAt H3 q tr ks := ⟨kvs, .inr ⟨od, hq3⟩, ekv, hval⟩
      have nL : L ≠ q := fun z => by
        rw [z, hq] at fL
        cases fL
      have nS : S ≠ q := fun z => by
        rw [z, hq] at fS
        cases fS
      have gL3 := b3 _ _ (e2 _ _ gL1 fun _ z => nomatch z) nL
      have gS3 := b3 _ _ (e2 _ _ gS1 fun _ z => nomatch z) nS
      refine ⟨_, rfl, q, od, rfl, .inl ⟨kvs, hq3, for_it walk_keys (fun i σ H' => ∃ v7 : Option V, σ = [some (.ref a), some (.ref c), some (.ref q), some (.ref L), v4, v5, v6, v7] ∧ ExtN H3 H' ∧ Tabs (Tb K) H') ⟨none, rfl, ExtN.refl _, T3⟩ (fun i σ H' _ ⟨_, _, e, _⟩ => e _ _ hq3 fun _ z => nomatch z) ?_ ?_⟩⟩
      · rintro i x σ H4 H4' hi ⟨v7, rfl, e4, T4⟩ ⟨rfl, kk, v, hk, rfl⟩
        obtain ⟨z, hz, rfl⟩ : ∃ z ∈ ks, kk = .inr z := by
          have h1 : (kvs.map (·.1))[i]? = some kk := by rw [List.getElem?_map, hk]; rfl
          rw [ekv, List.getElem?_map] at h1
          cases h2 : ks[i]? with
          | none =>
            rw [h2] at h1
            cases h1
          | some z =>
            rw [h2] at h1
            cases h1
            exact ⟨z, List.mem_of_getElem? h2, rfl⟩
        refine ⟨_, rfl, _, rfl, _, rfl, a, q, dx, t, z, cs, tr, ks, rfl, e4 _ _ ha3 (fun _ z => nomatch z), hct3.keep (TK.ext e4), htr3.ext e4, hkn, T4, fun H5 e5 T5 => ?_⟩
        have e35 := e4.trans e5
        refine ⟨_, rfl, _, rfl, L, _, 1, .ref S, rfl, rfl, SqL.of (e35 _ _ gL3 fun _ z => nomatch z), rfl, S, _, rfl, .inl (SqL.of (e35 _ _ gS3 fun _ z => nomatch z)), rfl, all_strs _, ?_⟩
        rw [if_neg (by decide), show L2.kV (Sum.inr z) = V.str z from rfl, inV_strs]
        refine ⟨rfl, _, rfl, ite2 (fun h => absurd h (by simp)) (fun _ => ?_)⟩
        exact ⟨_, rfl, e35, T5⟩
      · rintro σ H4 ⟨v7, rfl, e4, T4⟩
        have hq4 := e4 _ _ hq3 fun _ z => nomatch z
        refine ⟨hq4, k _ (fun b o h n => ?_) (tabs_but T4 But.upd (fun ps z => by
          rw [hq4] at z
          cases z) fun c q z => by
          rw [hq4] at z
          exact nomatch z)⟩
        by_cases hb : b = q
        · rw [hb, upd_same, ← hq, ← hb]
          exact h
        · rw [upd_ne hb]
          exact e4 _ _ (b3 _ _ (x2 _ _ h n) hb) n
end
end K12
namespace K12
open PySem PySem.Spec PyProof.Rows L2 He Tw
/-- one sign of a text -/
def spPickS : Sp := fun vs H Q _ => ∃ (p l : Addr) (z : Str) (c : Nat), vs = [.ref p, .str z] ∧ 0 < z.length ∧ z.length < 1000 ∧ PenL H p l c ∧ c ≤ 1000000 ∧
  ∀ (d : Nat) (H' : Hp), d ∈ z.cps.toList → PenL H' p l (c + 1) → But p H H' → Q (.str ⟨#[d]⟩) H'
theorem atI_gen {α : Type} {xs : List α} {i : Int} {v : α} (h0 : 0 ≤ i) (h : xs[i.toNat]? = some v) : atI xs i = some v := by
  have e : i = (i.toNat : Int) := (Int.toNat_of_nonneg h0).symm
  rw [e]
  exact atI_nat h
theorem joinL_nil : ∀ l : List (List Nat), TL.joinL [] l = l.flatten
  | [] => rfl
  | [p] => by
    show p = _
    simp
  | p :: q :: r => by
    show p ++ ([] ++ TL.joinL [] (q :: r)) = _
    rw [joinL_nil (q :: r), List.nil_append, List.flatten_cons (l := p)]
/-- signs drawn from the letters -/
def Sg (ys : List Str) : Prop := ∀ y ∈ ys, ∃ d, d ∈ letters.cps.toList ∧ y = ⟨#[d]⟩
theorem sg_flat : ∀ {ys : List Str}, Sg ys → ((ys.map TL.tl).flatten.length = ys.length) ∧ ∀ c ∈ (ys.map TL.tl).flatten, c ∈ letters.cps.toList
  | [], _ => ⟨rfl, fun _ h => nomatch h⟩
  | y :: ys, h => by
    obtain ⟨h1, h2⟩ := sg_flat (ys := ys) fun u hu => h u (List.mem_cons_of_mem _ hu)
    obtain ⟨d, hd, e⟩ := h y List.mem_cons_self
    subst e
    refine ⟨by rw [List.map_cons, List.flatten_cons, List.length_append, h1]; simp; omega, fun c hc => ?_⟩
    rw [List.map_cons, List.flatten_cons] at hc
    rcases List.mem_append.mp hc with z | z
    · have e : c = d := by simpa using z
      rw [e]
      exact hd
    · exact h2 c z
theorem join_sg {ys : List Str} (h : Sg ys) (hl : ys.length ≤ 8) : textOk (Txt.join "" ys) = true ∧ (Txt.join "" ys).length ≤ 8 := by
  obtain ⟨h1, h2⟩ := sg_flat h
  have e : TL.tl (Txt.join "" ys) = (ys.map TL.tl).flatten := by
    rw [TL.join_eq, TL.tl_join, show TL.tl "" = [] from rfl, joinL_nil]
  have e2 : (Txt.join "" ys).length ≤ 8 := by
    rw [TL.len_tl, e, h1]
    exact hl
  refine ⟨?_, e2⟩
  unfold textOk
  rw [decide_eq_true e2, Bool.true_and, List.all_eq_true]
  intro c hc
  rw [show (Txt.join "" ys).cps.toList = TL.tl (Txt.join "" ys) from rfl, e] at hc
  exact decide_eq_true (h2 c hc)
theorem sg_sum : ∀ {ys : List Str}, Sg ys → (ys.map (·.length)).sum = ys.length
  | [], _ => rfl
  | y :: ys, h => by
    obtain ⟨d, _, e⟩ := h y List.mem_cons_self
    rw [List.map_cons, List.sum_cons, sg_sum fun u hu => h u (List.mem_cons_of_mem _ hu), e]
    show 1 + ys.length = ys.length + 1
    omega
theorem letters_lt : ∀ c ∈ letters.cps.toList, c < 128 := by decide +kernel
theorem text_small {z : Str} (h : textOk z = true) : Small 8 z := by
  unfold textOk at h
  obtain ⟨h1, h2⟩ := ba h
  exact ⟨of_decide_eq_true h1, fun c hc => letters_lt c (of_decide_eq_true (List.all_eq_true.mp h2 c hc))⟩
theorem join_len {ys : List Str} (h : Sg ys) : (Txt.join "" ys).length = ys.length := by
  obtain ⟨h1, h2⟩ := sg_flat h
  have e : TL.tl (Txt.join "" ys) = (ys.map TL.tl).flatten := by
    rw [TL.join_eq, TL.tl_join, show TL.tl "" = [] from rfl, joinL_nil]
  rw [TL.len_tl, e, h1]
/-- a word that a test may ask -/
def OkW (z : Str) : Prop := wordOk (.str z) = true ∧ Small 12 z
theorem flag_word {z : Str} (h : flagOk (.str z) = true) : wordOk (.str z) = true := by
  unfold wordOk singleOk
  rw [h]
  rfl
theorem res_heads : ∀ r ∈ reserved, r.cps.toList.head? ≠ some 113 ∧ r.cps.toList.head? ≠ some 120 := by decide +kernel
/-- q or x and a few letters -/
theorem okW_app {u rest : Str} {c : Nat} (hu : u.cps.toList = [c]) (hc : c = 113 ∨ c = 120) (h : textOk rest = true) (hl : rest.length ≤ 7) : OkW (u ++ rest) := by
  have ht : (u ++ rest).cps.toList = c :: rest.cps.toList := by
    rw [show (u ++ rest).cps.toList = TL.tl (u ++ rest) from rfl, TL.tl_append, show TL.tl u = u.cps.toList from rfl, hu]
    rfl
  have hle : (u ++ rest).length ≤ 8 := by
    rw [Str.length_append, show u.length = 1 from by rw [TL.len_tl, show TL.tl u = u.cps.toList from rfl, hu]; rfl]
    omega
  have htx : textOk (u ++ rest) = true := by
    unfold textOk
    rw [decide_eq_true hle, Bool.true_and, ht, List.all_cons, Bool.and_eq_true]
    refine ⟨?_, ?_⟩
    · rcases hc with rfl | rfl <;> decide +kernel
    · exact (ba h).2
  refine ⟨flag_word ?_, (text_small htx).mono (by decide)⟩
  unfold flagOk
  have n1 : u ++ rest ≠ "" := fun z => by
    rw [z] at ht
    cases ht
  have n2 : u ++ rest ∉ reserved := fun z => by
    obtain ⟨a, b⟩ := res_heads _ z
    rw [ht] at a b
    rcases hc with rfl | rfl
    · exact a rfl
    · exact b rfl
  have e1 : decide (V.str (u ++ rest) = V.str "") = false := decide_eq_false fun z => n1 (by injection z)
  have e2 : among reserved (.str (u ++ rest)) = false := decide_eq_false n2
  rw [show nameOk (.str (u ++ rest)) = true from htx, e1, e2]
  rfl
theorem okW_dec {z : Str} (h : (wordOk (.str z) && smallB 12 z) = true) : OkW z := ⟨(ba h).1, smallB_ok (ba h).2⟩
abbrev s_flags : Stmt := topS 35
abbrev N_flags : List Str := ["_law_pen_here", "_law_letters", "_law_rest", "_law_k", "_law_first"]
theorem sc_flags : FnScope N_flags ["_law_pen_here"] (defScope s_flags) := ⟨rfl, rfl, rfl, by decide +kernel, rfl, by decide +kernel, by decide +kernel⟩
def spFlags2 : Sp := fun vs H Q _ => ∃ (p l : Addr) (c : Nat), vs = [.ref p] ∧ PenL H p l c ∧ c ≤ 900000 ∧ ∀ (q : Addr) (H' : Hp) (a b : Str), q ≠ p → PenL H' p l (c + 12) → But p H H' → H' q = some (.lst [.str a, .str b]) → OkW a → OkW b → Q (.ref q) H'
section
variable {P : Program} {w : World} {K : Fg} {mg : Str → Option Value} {base : Heap} {fd : Nat → FuncData}
theorem ok_pickS {f fD : Addr} {fd fdD : FuncData} (F : FnP K "_law_pick" "_law_pick" s_pick f fd) (FD : FnP K "_law_draw" "_law_draw" s_draw fD fdD) (gD : mg "_law_draw" = some (.ref fD)) (T : Txt K mg) : FnOk P w K mg base CX0 2 f fd ["_law_pen_here", "_law_some"] spPickS := by
  have zlen : mg "len" = none := T.bl (by decide +kernel)
  have G_draw : FnOk P w K mg base CX0 1 fD fdD ["_law_pen_here", "_law_many"] spDrawL := ok_draw FD T
  have b_draw : Binds K fdD ["_law_pen_here", "_law_many"] [] := FD.bindsN fun _ _ _ _ _ _ us hl => match us, hl with | [_, _], _ => rfl
  refine F.ok sc_pick (fun vs H Q E h => ?_) (fun cdv A outer s H vs Q E hr h => ?_)
  · obtain ⟨p, l, z, c, rfl, _⟩ := h
    rfl
  · obtain ⟨p, l, z, c, rfl, hz0, hz1, hP, hc, k⟩ := h
    refine ⟨_, PSs.nox (pss_one (ps_ret (pe_ix ix_str (pv 1) (pe_call G_draw (hr.mono (by decide)) rfl gD FD.kp b_draw .nil pass0 (pa_cons (pv 0) (pa_cons (pe_callB call_len (by rfl) zlen (by decide +kernel) (pa_cons (pv 1) pa_nil)) pa_nil))) (fun _ _ => rfl)))), ?_⟩
    have hzl : z.length ≤ sizeLine := Nat.le_trans (Nat.le_of_lt hz1) (by decide)
    refine ⟨_, rfl, _, rfl, _, rfl, _, _, rfl, ⟨hzl, rfl⟩, p, l, (z.length : Int), c, rfl, by omega, by omega, hP, hc, fun r H' h0 h1 hP' hB => ?_⟩
    have hlt : r.toNat < z.cps.toList.length := by
      have e : z.length = z.cps.toList.length := by simp [Str.length]
      omega
    exact ⟨z, r, _, rfl, rfl, hzl, atI_gen h0 (List.getElem?_eq_getElem hlt), k _ H' (List.getElem_mem hlt) hP' hB⟩
theorem G_flags (D : DefsK K fd) (T : Txt K mg) : FnOk P w K mg base CX0 3 (ga K "_law_flags") (fd 14) ["_law_pen_here"] spFlags2 := by
  have zr : mg "range" = none := T.bl (by decide +kernel)
  have gD := T.fn (x := "_law_draw") (by decide +kernel)
  have gP := T.fn (x := "_law_pick") (by decide +kernel)
  have FD : FnP K "_law_draw" "_law_draw" s_draw (ga K "_law_draw") (fd 12) := D 12 _ rfl
  have FP : FnP K "_law_pick" "_law_pick" s_pick (ga K "_law_pick") (fd 13) := D 13 _ rfl
  have GD : FnOk P w K mg base CX0 1 _ (fd 12) ["_law_pen_here", "_law_many"] spDrawL := ok_draw FD T
  have bD : Binds K (fd 12) ["_law_pen_here", "_law_many"] [] := FD.bindsN fun _ _ _ _ _ _ us hl => match us, hl with | [_, _], _ => rfl
  have GS : FnOk P w K mg base CX0 2 _ (fd 13) ["_law_pen_here", "_law_some"] spPickS := ok_pickS FP FD gD T
  have GP : FnOk P w K mg base CX0 2 _ (fd 13) ["_law_pen_here", "_law_some"] (spPickL K) := ok_pick FP FD gD T
  have bP : Binds K (fd 13) ["_law_pen_here", "_law_some"] [] := FP.bindsN fun _ _ _ _ _ _ us hl => match us, hl with | [_, _], _ => rfl
  have F : FnP K "_law_flags" "_law_flags" s_flags (ga K "_law_flags") (fd 14) := D 14 _ rfl
  refine F.ok sc_flags (fun vs H Q E h => ?_) (fun cdv A outer s H vs Q E hr h => ?_)
  · obtain ⟨p, l, c, rfl, _⟩ := h
    rfl
  · obtain ⟨p, l, c, rfl, hP, hc, k⟩ := h
    refine ⟨_, PSs.nox (pss_cons (ps_set (i := 1) sc_flags.nd rfl (Or.inr rfl) pe_str)
    (pss_cons (ps_set (i := 2) sc_flags.nd rfl (Or.inl rfl) (pe_join pe_str (pe_lc (own := [("_law_k", 3)]) (g := gName 3) (tt := tYes) (by rfl) sc_flags.nd (pi_range1 rfl zr (pa_cons (pe_call GD (hr.mono (by decide)) rfl gD FD.kp bD .nil pass0 (pa_cons (pv 0) (pa_cons pe_int pa_nil))) pa_nil)) (blkOk_by (own := [("_law_k", 3)]) (N := N_flags) (sc := defScope s_flags) (by decide +kernel)) (fun _ _ _ _ _ => (pg_name (i := 3) sc_flags.nd rfl (Or.inl rfl))) (fun _ _ _ _ _ => pts_nil) (fun _ _ _ _ _ => (pe_call GS (hr.mono (by decide)) rfl gP FP.kp bP .nil pass0 (pa_cons (pv 0) (pa_cons (pv 1) pa_nil)))))))
    (pss_cons (ps_set (i := 4) sc_flags.nd rfl (Or.inl rfl) (pe_call GP (hr.mono (by decide)) rfl gP FP.kp bP .nil pass0 (pa_cons (pv 0) (pa_cons (pe_lstN (pa_cons pe_str (pa_cons pe_str (pa_cons pe_str (pa_cons pe_str (pa_cons pe_str (pa_cons pe_str (pa_cons (pe_op op_add_str pe_str (pv 2)) pa_nil)))))))) pa_nil))))
    (pss_one (ps_ret (pe_lstN (pa_cons (pv 4) (pa_cons (pe_call GP (hr.mono (by decide)) rfl gP FP.kp bP .nil pass0 (pa_cons (pv 0) (pa_cons (pe_lstN (pa_cons pe_str (pa_cons pe_str (pa_cons pe_str (pa_cons pe_str (pa_cons pe_str (pa_cons pe_str (pa_cons (pe_op op_add_str pe_str (pv 2)) pa_nil)))))))) pa_nil))) pa_nil)))))))), ?_⟩
    refine ⟨⟨_, rfl⟩, _, rfl, p, l, 8, c, rfl, by decide, by decide, hP, by omega, fun n H2 a2 b2 P2 B2 => ?_⟩
    refine ⟨n, rfl, by omega, by omega, fun D hD => lc_range (lo := 0) (n := n.toNat) (fun i H' => PenL H' p l (c + 1 + i) ∧ But p H2 H' ∧ ∃ ys : List Str, ys.length = i ∧ Sg ys ∧ H' D = some (.lst (ys.map V.str))) ?_ ?_ ?_⟩
    · exact ⟨P2.same (same_new hD), But.of (same_new hD), [], rfl, (fun _ h => nomatch h), upd_same⟩
    · rintro i H' hi ⟨Pi, Bi, ys, ly, sy, gD1⟩
      obtain ⟨hDp, hDl⟩ := P2.new hD
      refine ⟨rfl, _, rfl, _, rfl, p, l, letters, c + 1 + i, rfl, by decide +kernel, by decide +kernel, Pi, by omega, fun d H3 hd P3 B3 => ⟨_, B3 _ _ gD1 hDp, ?_, ?_, ?_, ys ++ [⟨#[d]⟩], ?_, ?_, ?_⟩⟩
      · rw [List.length_map]
        exact Nat.lt_of_lt_of_le (show ys.length < 1000 by omega) (by decide)
      · exact P3.upd hDp hDl
      · exact fun b o hb hbp => by
          rw [upd_ne (ne_of_none hb hD)]
          exact B3 b o (Bi b o hb hbp) hbp
      · rw [List.length_append, ly]
        rfl
      · intro y hy
        rcases List.mem_append.mp hy with z | z
        · exact sy y z
        · exact ⟨d, hd, by simpa using z⟩
      · rw [upd_same, List.map_append]
        rfl
    · rintro H3 ⟨Pi, Bi, ys, ly, sy, gD1⟩
      have hl : ys.length ≤ 8 := by omega
      have jl := join_len sy
      obtain ⟨j1, j2⟩ := join_sg sy hl
      refine ⟨_, D, ys, rfl, rfl, .inl (SqL.of gD1), ?_, ?_⟩
      · rw [sg_sum sy]
        show ys.length + ys.length * 0 ≤ _
        omega
      have sm := text_small j1
      generalize Txt.join "" ys = rest at sm jl j1 ⊢
      have r7 : rest.length ≤ 7 := by omega
      have P3 := Pi.mono (show c + 1 + n.toNat ≤ c + 9 by omega)
      have B03 : But p H H3 := B2.trans Bi
      have app : ∀ {u : Str}, Small 1 u → Small 12 (u ++ rest) := fun h => (h.app sm).mono (by decide)
      have lz : ∀ {u : Str}, Small 1 u → u.length + rest.length ≤ sizeLine := fun h => sz1000 (by
        have := h.1
        have := sm.1
        omega)
      have sq : Small 1 "q" := smallB_ok (by decide +kernel)
      have sx : Small 1 "x" := smallB_ok (by decide +kernel)
      refine ⟨_, rfl, _, rfl, _, _, rfl, rfl, lz sq, sz1000 (by show 7 ≤ 1000; decide), fun q4 H4 f4 m4 s4 g4 => ?_⟩
      have n4 := P3.new f4
      refine ⟨p, l, q4, _, c + 9, rfl, SqL.of g4, n4.1, (by show 0 < 7; decide), (by show 7 < 1000; decide), P3.same s4, by omega, fun v H5 hv P5 B5 => ?_⟩
      obtain ⟨a, rfl, sa⟩ : ∃ a : Str, v = .str a ∧ OkW a := by
        simp only [List.mem_cons, List.not_mem_nil, or_false] at hv
        rcases hv with rfl | rfl | rfl | rfl | rfl | rfl | rfl
        all_goals first
          | exact ⟨_, rfl, okW_app (c := 113) rfl (.inl rfl) j1 r7⟩
          | exact ⟨_, rfl, okW_dec (by decide +kernel)⟩
      refine ⟨_, rfl, _, rfl, _, rfl, _, _, rfl, rfl, lz sx, sz1000 (by show 7 ≤ 1000; decide), fun q6 H6 f6 m6 s6 g6 => ?_⟩
      have n6 := P5.new f6
      refine ⟨p, l, q6, _, c + 10, rfl, SqL.of g6, n6.1, (by show 0 < 7; decide), (by show 7 < 1000; decide), P5.same s6, by omega, fun v H7 hv P7 B7 => ?_⟩
      obtain ⟨b, rfl, sb⟩ : ∃ a : Str, v = .str a ∧ OkW a := by
        simp only [List.mem_cons, List.not_mem_nil, or_false] at hv
        rcases hv with rfl | rfl | rfl | rfl | rfl | rfl | rfl
        all_goals first
          | exact ⟨_, rfl, okW_app (c := 120) rfl (.inr rfl) j1 r7⟩
          | exact ⟨_, rfl, okW_dec (by decide +kernel)⟩
      refine ⟨sz1000 (by show 2 ≤ 1000; decide), fun q8 H8 f8 m8 s8 g8 => ?_⟩
      exact k q8 H8 a b (P7.new f8).1 ((P7.same s8).mono (by omega)) (((B03.trans (But.of s4)).trans B5).trans (((But.of s6).trans B7).trans (But.of s8))) g8 sa sb
end
end K12
namespace K12
open PySem PySem.Spec PyProof.Rows L2 He Tw LamX
def prD (x : Bool × Str) : PyData := .tuple [.bool x.1, .str x.2]
def rowD (r : List (Bool × Str)) : PyData := .tuple (r.map prD)
def csD (cs : Cs) : List PyData := cs.map rowD
/-- p is no tuple -/
abbrev NoT (p : Addr) (H : Hp) : Prop := ∀ us, H p ≠ some (.tup us)
theorem NoT.of {p : Addr} {H : Hp} {us : List V} (h : H p = some (.lst us)) : NoT p H := fun vs z => by
  rw [h] at z
  cases z
theorem paired_map {α β γ : Type} {F : α → β → Prop} {G : α → γ → Prop} {f : β → γ} (k : ∀ a b, F a b → G a (f b)) : ∀ {xs : List α} {ys : List β}, Paired F xs ys → Paired G xs (ys.map f)
  | _, _, .nil => .nil
  | _, _, .cons a b => .cons (k _ _ a) (paired_map k b)
theorem PrT.da {p : Addr} {H : Hp} (hp : NoT p H) {v : V} {x : Bool × Str} : PrT H v x → Da p H v (prD x)
  | ⟨q, e, h⟩ => by
    subst e
    exact .tup h (fun z => hp _ (z ▸ h)) (.cons (.bl _) (.cons (.str _) .nil))
theorem RowT.da {p : Addr} {H : Hp} (hp : NoT p H) {v : V} {r : List (Bool × Str)} : RowT H v r → Da p H v (rowD r)
  | ⟨q, ys, e, h, t⟩ => by
    subst e
    exact .tup h (fun z => hp _ (z ▸ h)) (DaAll.of (paired_map (fun _ _ z => z.da hp) t))
theorem rows_da {p : Addr} {H : Hp} (hp : NoT p H) {xs : List V} {cs : Cs} (t : Paired (RowT H) xs cs) : DaAll p H xs (csD cs) := DaAll.of (paired_map (fun _ _ z => z.da hp) t)
theorem PrT.of {p : Addr} {H : Hp} {v : V} {x : Bool × Str} (h : Da p H v (prD x)) : PrT H v x := by
  unfold prD at h
  cases h with
  | tup h n t =>
    cases t with
    | cons a t =>
      cases t with
      | cons b t =>
        cases t
        cases a
        cases b
        exact ⟨_, rfl, h⟩
theorem prs_of {p : Addr} {H : Hp} : ∀ {r : List (Bool × Str)} {ys : List V}, DaAll p H ys (r.map prD) → Paired (PrT H) ys r
  | [], _, h => by
    cases h
    exact .nil
  | x :: r, _, h => by
    rw [List.map_cons] at h
    cases h with
    | cons a t => exact .cons (PrT.of a) (prs_of t)
theorem RowT.of {p : Addr} {H : Hp} {v : V} {r : List (Bool × Str)} (h : Da p H v (rowD r)) : RowT H v r := by
  unfold rowD at h
  cases h with
  | tup h n t => exact ⟨_, _, rfl, h, prs_of t⟩
theorem rows_of {p : Addr} {H : Hp} : ∀ {cs : Cs} {xs : List V}, DaAll p H xs (csD cs) → Paired (RowT H) xs cs
  | [], _, h => by
    cases h
    exact .nil
  | x :: r, _, h => by
    rw [show csD (x :: r) = rowD x :: csD r from rfl] at h
    cases h with
    | cons a t => exact .cons (RowT.of a) (rows_of t)
/-- a test that keeps these cases -/
def TestC (K : Fg) (H : Hp) (a : Addr) (cs : Cs) : Prop := ∃ dx t, H a = some (.ins (ga K "Test") dx [("cases", .ref t)]) ∧ CsT H (.ref t) cs
theorem TestC.of {K : Fg} {p : Addr} {H : Hp} {a : Addr} {cs : Cs} (h : TestAt K p H a (csD cs)) : TestC K H a cs := by
  obtain ⟨dx, t, h1, h2⟩ := h
  cases h2 with
  | tup h n t => exact ⟨_, _, h1, _, _, rfl, h, rows_of t⟩
theorem TestC.at_ {K : Fg} {p : Addr} {H : Hp} (hp : NoT p H) {a : Addr} {cs : Cs} (h : TestC K H a cs) : TestAt K p H a (csD cs) := by
  obtain ⟨dx, t, h1, q, xs, e, h2, h3⟩ := h
  cases e
  exact ⟨dx, t, h1, .tup h2 (fun z => hp _ (z ▸ h2)) (rows_da hp h3)⟩
theorem TestC.ext {K : Fg} {H H' : Hp} {a : Addr} {cs : Cs} (e : ExtN H H') (h : TestC K H a cs) : TestC K H' a cs := by
  obtain ⟨dx, t, h1, h2⟩ := h
  exact ⟨dx, t, e _ _ h1 (fun _ z => nomatch z), h2.keep (TK.ext e)⟩
theorem TestC.but {K : Fg} {H H' : Hp} {a p : Addr} {us : List V} {cs : Cs} (e : But p H H') (hp : H p = some (.lst us)) (h : TestC K H a cs) : TestC K H' a cs := by
  obtain ⟨dx, t, h1, h2⟩ := h
  exact ⟨dx, t, e _ _ h1 (fun z => by
    rw [z, hp] at h1
    cases h1), h2.keep (LK.but e hp).1⟩
/-- cases that a test takes -/
structure Good (cs : Cs) : Prop where
  some_ : cs ≠ []
  few : cs.length ≤ 4
  rows : ∀ r ∈ cs, r ≠ [] ∧ r.length ≤ 4 ∧ ∀ x ∈ r, OkW x.2
theorem Good.few6 {cs : Cs} (g : Good cs) : Few cs := ⟨Nat.le_trans g.few (by decide), fun r hr => Nat.le_trans (g.rows r hr).2.1 (by decide)⟩
theorem small_b {n : Nat} {z : Str} (h : Small n z) : smallB n z = true := by
  unfold smallB
  rw [decide_eq_true h.1, Bool.true_and, List.all_eq_true]
  exact fun c hc => decide_eq_true (h.2 c hc)
theorem Good.ok {cs : Cs} (g : Good cs) : okD 4 (.list (csD cs)) = true := by
  refine okL_of (by unfold csD; rw [List.length_map]; have := g.few; omega) fun d hd => ?_
  obtain ⟨r, hr, rfl⟩ := List.mem_map.mp hd
  obtain ⟨_, h4, hw⟩ := g.rows r hr
  refine okT_of (by rw [List.length_map]; omega) fun d hd => ?_
  obtain ⟨x, hx, rfl⟩ := List.mem_map.mp hd
  refine okT_of (by show 2 ≤ 6; decide) fun d hd => ?_
  simp only [List.mem_cons, List.not_mem_nil, or_false] at hd
  rcases hd with rfl | rfl
  · rfl
  · exact small_b (hw x hx).2
theorem firstNo_all : ∀ {os : List Bool} {n : Nat}, (∀ o ∈ os, o = true) → firstNo os n = none
  | [], _, _ => rfl
  | o :: os, n, h => by
    unfold firstNo
    rw [if_pos (h o List.mem_cons_self)]
    exact firstNo_all fun x hx => h x (List.mem_cons_of_mem _ hx)
theorem caseBad_all {os : List Bool} (h0 : os ≠ []) (h4 : os.length ≤ 4) (h : ∀ o ∈ os, o = true) : caseBad os = none := by
  unfold caseBad
  rw [if_neg h0, firstNo_all fun o ho => h o (List.mem_of_mem_take ho)]
  exact if_neg (by omega)
theorem firstCase_all : ∀ {rs : List (Option Nat)} {n : Nat}, (∀ r ∈ rs, r = none) → firstCase rs n = none
  | [], _, _ => rfl
  | some j :: rs, n, h => nomatch h _ List.mem_cons_self
  | none :: rs, n, h => firstCase_all (rs := rs) fun x hx => h x (List.mem_cons_of_mem _ hx)
theorem casesBad_all {rs : List (Option Nat)} (h0 : rs ≠ []) (h4 : rs.length ≤ 4) (h : ∀ r ∈ rs, r = none) : casesBad rs = none := by
  unfold casesBad
  rw [firstCase_all fun o ho => h o (List.mem_of_mem_take ho)]
  show (if 4 < rs.length then some (4, 0) else if rs = [] then some (0, 0) else none) = none
  rw [if_neg (by omega), if_neg h0]
theorem Good.due {cs : Cs} (g : Good cs) : dueD (csD cs) = none := by
  unfold dueD csD
  rw [List.map_map]
  refine casesBad_all (fun z => g.some_ (List.map_eq_nil_iff.mp z)) (by rw [List.length_map]; exact g.few) fun o ho => ?_
  obtain ⟨r, hr, rfl⟩ := List.mem_map.mp ho
  obtain ⟨h0, h4, hw⟩ := g.rows r hr
  show caseBad ((r.map prD).map pairOk) = none
  rw [List.map_map]
  refine caseBad_all (fun z => h0 (List.map_eq_nil_iff.mp z)) (by rw [List.length_map]; exact h4) fun o ho => ?_
  obtain ⟨x, hx, rfl⟩ := List.mem_map.mp ho
  exact (hw x hx).1
/-- a test made at a new place of good cases -/
theorem test_good {K : Fg} {p x dx : Addr} {xs us : List V} {cs : Cs} {H : Hp} {R : VK} {E : XK} (g : Good cs) (hx : H x = none) (hd : H dx = none) (hne : dx ≠ x) (h : Paired (RowT H) xs cs) (hp : H p = some (.lst us))
    (k : ∀ H', Same H H' → TestC K H' x cs → R .non H') : spTest K (.ref x :: xs) (upd (upd H dx (.own x)) x (.ins (ga K "Test") dx [])) R E :=
  test_or (p := p) hx hd hne (rows_da (NoT.of hp) h) g.ok (fun z => by
    rw [hp] at z
    cases z) (fun _ H' s t => k H' s (TestC.of t)) fun k j e => absurd (g.due.symm.trans e) (fun z => nomatch z)
/-! ### turned -/
def exR (r : List (Bool × Str)) : List (Bool × Str) := r.map fun x => (x.1, exW x.2)
def exCs (cs : Cs) : Cs := cs.map exR
theorem exW_two (z : Str) : exW (exW z) = z := by
  by_cases hz : z ∈ exKeys
  · simp only [exKeys, List.mem_cons, List.not_mem_nil, or_false] at hz
    rcases hz with rfl | rfl | rfl | rfl | rfl | rfl <;> decide +kernel
  · rw [exW_not hz, exW_not hz]
theorem exW_ok {z : Str} (h : OkW z) : OkW (exW z) := by
  by_cases hz : z ∈ exKeys
  · simp only [exKeys, List.mem_cons, List.not_mem_nil, or_false] at hz
    rcases hz with rfl | rfl | rfl | rfl | rfl | rfl <;> exact okW_dec (by decide +kernel)
  · rw [exW_not hz]
    exact h
theorem exCs_two (cs : Cs) : exCs (exCs cs) = cs := by
  unfold exCs exR
  rw [List.map_map]
  refine (List.map_congr_left fun r _ => ?_).trans (List.map_id _)
  show (r.map _).map _ = r
  rw [List.map_map]
  refine (List.map_congr_left fun x _ => ?_).trans (List.map_id _)
  show (x.1, exW (exW x.2)) = x
  rw [exW_two]
theorem Good.ex {cs : Cs} (g : Good cs) : Good (exCs cs) := by
  refine ⟨fun z => g.some_ (List.map_eq_nil_iff.mp z), by unfold exCs; rw [List.length_map]; exact g.few, fun r hr => ?_⟩
  obtain ⟨s, hs, rfl⟩ := List.mem_map.mp hr
  obtain ⟨h0, h4, hw⟩ := g.rows s hs
  refine ⟨fun z => h0 (List.map_eq_nil_iff.mp z), by unfold exR; rw [List.length_map]; exact h4, fun x hx => ?_⟩
  obtain ⟨y, hy, rfl⟩ := List.mem_map.mp hx
  exact exW_ok (hw y hy)
theorem Knows.ex {ks ks' : List Str} {cs : Cs} (h : Knows ks cs) (k : ∀ z ∈ ks, exW z ∈ ks') : Knows ks' (exCs cs) := fun r hr x hx => by
  obtain ⟨s, hs, rfl⟩ := List.mem_map.mp hr
  obtain ⟨y, hy, rfl⟩ := List.mem_map.mp hx
  exact k _ (h s hs y hy)
end K12
namespace K12
open PySem PySem.Spec PyProof.Rows L2 He Tw LamX
theorem paired_snoc {α β : Type} {F : α → β → Prop} {x : α} {y : β} (h : F x y) : ∀ {xs : List α} {ys : List β}, Paired F xs ys → Paired F (xs ++ [x]) (ys ++ [y])
  | _, _, .nil => .cons h .nil
  | _, _, .cons a b => .cons a (paired_snoc h b)
theorem take_snoc {α : Type} {l : List α} {i : Nat} {x : α} (h : l[i]? = some x) : l.take (i + 1) = l.take i ++ [x] := by
  rw [List.take_add_one, h]
  rfl
abbrev s_turned : Stmt := inClass (topS 29) 5
abbrev N_turned : List Str := ["self", "cases", "is_not", "word", "case"]
theorem sc_turned : FnScope N_turned ["self"] (defScope s_turned) := ⟨rfl, rfl, rfl, by decide +kernel, rfl, by decide +kernel, by decide +kernel⟩
def lcSc : Scope := match defBody s_turned with
  | .Assign _ (.ListComp _ _ sc _) _ :: _ => sc
  | _ => defScope s_turned
def spTurned (K : Fg) : Sp := fun vs H Q _ => ∃ (a : Addr) (cs : Cs), vs = [.ref a] ∧ TestC K H a cs ∧ Good cs ∧ ∀ (b : Addr) (H' : Hp), Same H H' → TestC K H' b (exCs cs) → Q (.ref b) H'
section
variable {P : Program} {w : World} {K : Fg} {mg : Str → Option Value} {base : Heap} {fd : Nat → FuncData}
theorem G_turned {es : Array DictEntry} {n : Nat} (D : DefsK K fd) (KD : KDict K w (ga K "EXCHANGED") es n) (T : Txt K mg) : FnOk P w K mg base CX0 12 (ma K (ga K "Test") "turned") (fd 3) ["self"] (spTurned K) := by
  have ztup : mg "tuple" = none := T.bl (by decide +kernel)
  have gT : mg "Test" = some (.ref (ga K "Test")) := T.cl (by decide +kernel)
  have gX := T.fn (x := "exchanged") (by decide +kernel)
  have FX : FnP K "exchanged" "exchanged" s_ex (ga K "exchanged") (fd 27) := D 27 _ rfl
  have GX : FnOk P w K mg base CX0 1 (ga K "exchanged") (fd 27) ["word"] spEx := G_ex D KD T
  have bX : Binds K (fd 27) ["word"] [] := FX.bindsN fun _ _ _ _ _ _ us hl => match us, hl with | [_], _ => rfl
  have F : FnP K "turned" "Test.turned" s_turned (ma K (ga K "Test") "turned") (fd 3) := D 3 _ rfl
  refine F.ok sc_turned (fun vs H Q E h => ?_) (fun cdv A outer s H vs Q E hr h => ?_)
  · obtain ⟨a, cs, rfl, _⟩ := h
    rfl
  · obtain ⟨a, cs, rfl, ⟨dx, t, ha, q0, xs, eq0, hq0, hxs⟩, hgood, k⟩ := h
    obtain rfl : t = q0 := by cases eq0; rfl
    refine ⟨_, PSs.nox (pss_cons (ps_setLc (i := 1) (own := [("case", 4)]) (g := gName 4) (tt := tYes) (by rfl) sc_turned.nd rfl rfl (sw_true rfl rfl rfl (by decide +kernel)) (pi_tup (pe_fld (pv 0) rfl)) (blkOk_by (own := [("case", 4)]) (N := N_turned) (sc := defScope s_turned) (by decide +kernel)) (fun _ _ _ _ _ => (pg_name (i := 4) sc_turned.nd rfl (Or.inl rfl))) (fun _ _ _ _ _ => pts_nil)
      (fun _ _ _ _ _ => (pe_callTy (call_tuple_ofK K) (by rfl) ztup (by decide +kernel) (pa_cons (pe_lc (own := [("is_not", 2), ("word", 3)]) (tt := tYes) (by rfl) sc_turned.nd (pi_tupK K (pv 4)) (blkOk_by (own := [("is_not", 2), ("word", 3)]) (N := N_turned) (sc := lcSc) (by decide +kernel)) (fun _ _ _ _ _ => pg_tupK K (n := 2) (by rfl) (pgs_cons (pg_name (i := 2) sc_turned.nd rfl (Or.inl rfl)) (pgs_cons (pg_name (i := 3) sc_turned.nd rfl (Or.inl rfl)) pgs_nil))) (fun _ _ _ _ _ => pts_nil)
        (fun _ _ _ _ _ => (pe_tupN (pa_cons (pv 2) (pa_cons (pe_call GX (hr.mono (by decide)) rfl gX FX.kp bX .nil pass0 (pa_cons (pv 3) pa_nil)) pa_nil))))) pa_nil))))
    (pss_one (ps_ret (pe_makeSt (E := E0) T.mkT (GR_test D T) (hr.mono (by decide)) rfl gT passL (pv 1))))), ?_⟩
    have lx : xs.length = cs.length := Paired.length hxs
    refine ⟨_, rfl, a, _, dx, _, _, rfl, ha, T.clsT, T.naT, rfl, t, rfl, ⟨_, SqT.of hq0⟩, fun D1 hD => ?_⟩
    refine lc_tup (xs := xs) (fun i H' => Same H H' ∧ ∃ zs : List V, H' D1 = some (.lst zs) ∧ Paired (RowT H') zs (exCs (cs.take i))) ⟨same_new hD, [], upd_same, .nil⟩ (fun i H' _ q => SqT.of (q.1 _ _ hq0)) ?_ ?_
    · rintro i v H1 hv ⟨s1, zs, g1, hzs⟩
      have hi : i < cs.length := by
        rw [← lx]
        exact (List.getElem?_eq_some_iff.mp hv).1
      have er : cs[i]? = some cs[i] := List.getElem?_eq_getElem hi
      obtain ⟨u, ys, rfl, hu, hy⟩ := (paired_get hxs hv er).keep (TK.same s1)
      obtain ⟨_, h4, hw⟩ := hgood.rows _ (List.getElem_mem hi)
      have tk := take_snoc er
      generalize cs[i] = r at hy h4 tk
      have ly : ys.length = r.length := Paired.length hy
      refine ⟨rfl, ?_⟩
      refine ⟨_, rfl, u, rfl, ⟨_, SqT.of hu⟩, fun D2 hD2 => ?_⟩
      refine lc_tup (xs := ys) (fun j H' => Same H1 H' ∧ ∃ ws : List V, H' D2 = some (.lst ws) ∧ Paired (PrT H') ws (exR (r.take j))) ⟨same_new hD2, [], upd_same, .nil⟩ (fun i H' _ q => SqT.of (q.1 _ _ hu)) ?_ ?_
      · rintro j y H2 hy1 ⟨s2, ws, g2, hws⟩
        have hj : j < r.length := by
          rw [← ly]
          exact (List.getElem?_eq_some_iff.mp hy1).1
        have ex : r[j]? = some r[j] := List.getElem?_eq_getElem hj
        obtain ⟨b, rfl, hb⟩ := (paired_get hy hy1 ex).keep (TK.same s2)
        have tj := take_snoc ex
        generalize r[j] = x at hb tj
        refine ⟨b, _, rfl, SqT.of hb, rfl, _, _, rfl, _, _, rfl, rfl, ?_⟩
        refine ⟨rfl, ?_⟩
        refine ⟨_, rfl, _, rfl, x.2, rfl, fun H3 s3 => ?_⟩
        refine ⟨sz1000 (by show 2 ≤ 1000; decide), fun q H4 f4 s4 g4 => ?_⟩
        have s24 := s3.trans s4
        have g2' := s24 _ _ g2
        have tu : TK H4 (upd H4 D2 (.lst (ws ++ [.ref q]))) := TK.upd g2' fun _ z => nomatch z
        have lw : ws.length = (exR (r.take j)).length := Paired.length hws
        have lw2 : (exR (r.take j)).length ≤ 4 := by
          unfold exR
          rw [List.length_map, List.length_take]
          omega
        refine ⟨ws, g2', Nat.lt_of_le_of_lt (show ws.length ≤ 4 by omega) (by decide), fun b' o e => ?_, ws ++ [.ref q], upd_same, ?_⟩
        · rw [upd_ne (ne_of_none e hD2)]
          exact s24 _ _ (s2 _ _ e)
        · rw [tj]
          have e2 : exR (r.take j ++ [x]) = exR (r.take j) ++ [(x.1, exW x.2)] := by
            unfold exR
            rw [List.map_append]
            rfl
          rw [e2]
          exact paired_snoc ⟨q, rfl, tu _ _ g4⟩ (pairUp (fun _ _ z => z.keep ((TK.same s24).trans tu)) hws)
      · rintro H2 ⟨s2, ws, g2, hws⟩
        rw [ly, List.take_length] at hws
        refine ⟨D2, ws, rfl, .inl ⟨SqL.of g2, fun l hl => ?_⟩⟩
        have s3 := same_new (o := .tup ws) hl
        have g3 : (upd H2 l (.tup ws)) l = some (.tup ws) := upd_same
        generalize upd H2 l (.tup ws) = H3 at s3 g3 ⊢
        have s13 := s2.trans s3
        have gD := s13 _ _ g1
        have tu : TK H3 (upd H3 D1 (.lst (zs ++ [.ref l]))) := TK.upd gD fun _ z => nomatch z
        have lz : zs.length = (exCs (cs.take i)).length := Paired.length hzs
        have lz2 : (exCs (cs.take i)).length ≤ 4 := by
          unfold exCs
          have := hgood.few
          rw [List.length_map, List.length_take]
          omega
        refine ⟨zs, gD, Nat.lt_of_le_of_lt (show zs.length ≤ 4 by omega) (by decide), fun b' o e => ?_, zs ++ [.ref l], upd_same, ?_⟩
        · rw [upd_ne (ne_of_none e hD)]
          exact s13 _ _ (s1 _ _ e)
        · rw [tk]
          have e2 : exCs (cs.take i ++ [r]) = exCs (cs.take i) ++ [exR r] := by
            unfold exCs
            rw [List.map_append]
            rfl
          rw [e2]
          exact paired_snoc ⟨l, ws, rfl, tu _ _ g3, pairUp (fun _ _ z => z.keep ((TK.same s3).trans tu)) hws⟩ (pairUp (fun _ _ z => z.keep ((TK.same s13).trans tu)) hzs)
    · rintro H1 ⟨s1, zs, g1, hzs⟩
      rw [lx, List.take_length] at hzs
      refine ⟨_, rfl, D1, zs, rfl, .inr (SqL.of g1), fun x dx2 hx hdx hne => ?_⟩
      exact test_good hgood.ex hx hdx hne hzs g1 fun H2 s2 tc => ⟨rfl, k x H2 (s1.trans s2) tc⟩
abbrev s_test : Stmt := topS 37
abbrev N_test : List Str := ["_law_cases_here", "_law_rows", "_law_row"]
theorem sc_test : FnScope N_test ["_law_cases_here"] (defScope s_test) := ⟨rfl, rfl, rfl, by decide +kernel, rfl, by decide +kernel, by decide +kernel⟩
def spTestL (K : Fg) : Sp := fun vs H Q _ => ∃ (p c : Addr) (cs : Cs), vs = [.ref c] ∧ CsL p H (.ref c) cs ∧ Good cs ∧ ∀ (b : Addr) (H' : Hp), Same H H' → TestC K H' b cs → Q (.ref b) H'
theorem G_test (D : DefsK K fd) (T : Txt K mg) : FnOk P w K mg base CX0 12 (ga K "_law_test") (fd 16) ["_law_cases_here"] (spTestL K) := by
  have ztup : mg "tuple" = none := T.bl (by decide +kernel)
  have zlen : mg "len" = none := T.bl (by decide +kernel)
  have gT : mg "Test" = some (.ref (ga K "Test")) := T.cl (by decide +kernel)
  have F : FnP K "_law_test" "_law_test" s_test (ga K "_law_test") (fd 16) := D 16 _ rfl
  refine F.ok sc_test (fun vs H Q E h => ?_) (fun cdv A outer s H vs Q E hr h => ?_)
  · obtain ⟨p, c, cs, rfl, _⟩ := h
    rfl
  · obtain ⟨p, c, cs, rfl, ⟨c', xs, ec, ncp, hc, hxs⟩, hgood, k⟩ := h
    obtain rfl : c = c' := by cases ec; rfl
    refine ⟨_, PSs.nox (pss_cons (ps_setLc (i := 1) (own := [("_law_row", 2)]) (g := gName 2) (tt := tYes) (by rfl) sc_test.nd rfl rfl (sw_true rfl rfl rfl (by decide +kernel)) (pi_list (pv 0)) (blkOk_by (own := [("_law_row", 2)]) (N := N_test) (sc := defScope s_test) (by decide +kernel)) (fun _ _ _ _ _ => (pg_name (i := 2) sc_test.nd rfl (Or.inl rfl))) (fun _ _ _ _ _ => pts_nil) (fun _ _ _ _ _ => (pe_callTy (call_tuple_ofK K) (by rfl) ztup (by decide +kernel) (pa_cons (pv 2) pa_nil))))
    (pss_cons (ps_if (pt_cmpR op_eq (pe_callB call_len (by rfl) zlen (by decide +kernel) (pa_cons (pv 1) pa_nil)) pe_int (nomark _)) (pss_one (ps_ret (StX.pe_makeR (E := E0) T.mkT (GR_test D T) (hr.mono (by decide)) rfl gT passL (pa_cons (pe_ix ix_list (pv 1) pe_int (fun _ _ => rfl)) pa_nil)))) pss_nil)
    (pss_cons (ps_if (pt_cmpR op_eq (pe_callB call_len (by rfl) zlen (by decide +kernel) (pa_cons (pv 1) pa_nil)) pe_int (nomark _)) (pss_one (ps_ret (StX.pe_makeR (E := E0) T.mkT (GR_test D T) (hr.mono (by decide)) rfl gT passL (pa_cons (pe_ix ix_list (pv 1) pe_int (fun _ _ => rfl)) (pa_cons (pe_ix ix_list (pv 1) pe_int (fun _ _ => rfl)) pa_nil))))) pss_nil)
    (pss_cons (ps_if (pt_cmpR op_eq (pe_callB call_len (by rfl) zlen (by decide +kernel) (pa_cons (pv 1) pa_nil)) pe_int (nomark _)) (pss_one (ps_ret (StX.pe_makeR (E := E0) T.mkT (GR_test D T) (hr.mono (by decide)) rfl gT passL (pa_cons (pe_ix ix_list (pv 1) pe_int (fun _ _ => rfl)) (pa_cons (pe_ix ix_list (pv 1) pe_int (fun _ _ => rfl)) (pa_cons (pe_ix ix_list (pv 1) pe_int (fun _ _ => rfl)) pa_nil)))))) pss_nil)
    (pss_one (ps_ret (StX.pe_makeR (E := E0) T.mkT (GR_test D T) (hr.mono (by decide)) rfl gT passL (pa_cons (pe_ix ix_list (pv 1) pe_int (fun _ _ => rfl)) (pa_cons (pe_ix ix_list (pv 1) pe_int (fun _ _ => rfl)) (pa_cons (pe_ix ix_list (pv 1) pe_int (fun _ _ => rfl)) (pa_cons (pe_ix ix_list (pv 1) pe_int (fun _ _ => rfl)) pa_nil))))))))))), ?_⟩
    have lx : xs.length = cs.length := Paired.length hxs
    refine ⟨_, rfl, c, rfl, ⟨_, SqL.of hc⟩, fun D1 hD => ?_⟩
    refine lc_list (xs := xs) (fun i H' => Same H H' ∧ ∃ zs : List V, H' D1 = some (.lst zs) ∧ Paired (RowT H') zs (cs.take i)) ⟨same_new hD, [], upd_same, .nil⟩ (fun i H' _ q => SqL.of (q.1 _ _ hc)) ?_ ?_
    · rintro i v H1 hv ⟨s1, zs, g1, hzs⟩
      have hi : i < cs.length := by
        rw [← lx]
        exact (List.getElem?_eq_some_iff.mp hv).1
      have er : cs[i]? = some cs[i] := List.getElem?_eq_getElem hi
      obtain ⟨u, ys, rfl, _, hu, hy⟩ := (paired_get hxs hv er).keep (LK.same s1)
      have tk := take_snoc er
      generalize cs[i] = r at hy tk
      refine ⟨rfl, _, rfl, u, ys, rfl, .inl ⟨SqL.of hu, fun l hl => ?_⟩⟩
      have s3 := same_new (o := .tup ys) hl
      have g3 : (upd H1 l (.tup ys)) l = some (.tup ys) := upd_same
      generalize upd H1 l (.tup ys) = H3 at s3 g3 ⊢
      have gD := s3 _ _ g1
      have tu : TK H3 (upd H3 D1 (.lst (zs ++ [.ref l]))) := TK.upd gD fun _ z => nomatch z
      have lz : zs.length = (cs.take i).length := Paired.length hzs
      have lz2 : (cs.take i).length ≤ 4 := by
        have := hgood.few
        rw [List.length_take]
        omega
      refine ⟨zs, gD, Nat.lt_of_le_of_lt (show zs.length ≤ 4 by omega) (by decide), fun b' o e => ?_, zs ++ [.ref l], upd_same, ?_⟩
      · rw [upd_ne (ne_of_none e hD)]
        exact s3 _ _ (s1 _ _ e)
      · rw [tk]
        exact paired_snoc ⟨l, ys, rfl, tu _ _ g3, pairUp (fun _ _ z => z.keep ((TK.same s3).trans tu)) hy⟩ (pairUp (fun _ _ z => z.keep ((TK.same s3).trans tu)) hzs)
    · rintro H1 ⟨s1, zs, g1, hzs⟩
      rw [lx, List.take_length] at hzs
      have lz : zs.length = cs.length := Paired.length hzs
      have l4 := hgood.few
      have fin : ∀ x dx2, H1 x = none → H1 dx2 = none → dx2 ≠ x → spTest K (V.ref x :: zs) (upd (upd H1 dx2 (.own x)) x (.ins (ga K "Test") dx2 [])) (fun v H2 => v = .non ∧ Q (.ref x) H2) E0 := fun x dx2 hx hdx hne => test_good hgood hx hdx hne hzs g1 fun H2 s2 tc => ⟨rfl, k x H2 (s1.trans s2) tc⟩
      refine ⟨_, rfl, _, _, rfl, .inl ⟨zs, SqL.of g1, rfl⟩, rfl, _, rfl, ?_⟩
      match zs, lz with
      | [], lz => exact absurd (List.length_eq_zero_iff.mp lz.symm) hgood.some_
      | [z0], _ =>
        refine iteT ?_
        exact ⟨_, rfl, D1, _, 0, z0, rfl, rfl, SqL.of g1, rfl, fin⟩
      | [z0, z1], _ =>
        refine iteF ?_
        refine ⟨_, rfl, _, _, rfl, .inl ⟨_, SqL.of g1, rfl⟩, rfl, _, rfl, iteT ?_⟩
        exact ⟨_, rfl, D1, _, 0, z0, rfl, rfl, SqL.of g1, rfl, _, rfl, D1, _, 1, z1, rfl, rfl, SqL.of g1, rfl, fin⟩
      | [z0, z1, z2], _ =>
        refine iteF ?_
        refine ⟨_, rfl, _, _, rfl, .inl ⟨_, SqL.of g1, rfl⟩, rfl, _, rfl, iteF ?_⟩
        refine ⟨_, rfl, _, _, rfl, .inl ⟨_, SqL.of g1, rfl⟩, rfl, _, rfl, iteT ?_⟩
        exact ⟨_, rfl, D1, _, 0, z0, rfl, rfl, SqL.of g1, rfl, _, rfl, D1, _, 1, z1, rfl, rfl, SqL.of g1, rfl, _, rfl, D1, _, 2, z2, rfl, rfl, SqL.of g1, rfl, fin⟩
      | [z0, z1, z2, z3], _ =>
        refine iteF ?_
        refine ⟨_, rfl, _, _, rfl, .inl ⟨_, SqL.of g1, rfl⟩, rfl, _, rfl, iteF ?_⟩
        refine ⟨_, rfl, _, _, rfl, .inl ⟨_, SqL.of g1, rfl⟩, rfl, _, rfl, iteF ?_⟩
        exact ⟨_, rfl, D1, _, 0, z0, rfl, rfl, SqL.of g1, rfl, _, rfl, D1, _, 1, z1, rfl, rfl, SqL.of g1, rfl, _, rfl, D1, _, 2, z2, rfl, rfl, SqL.of g1, rfl, _, rfl, D1, _, 3, z3, rfl, rfl, SqL.of g1, rfl, fin⟩
      | _ :: _ :: _ :: _ :: _ :: _, lz =>
        simp only [List.length_cons] at lz
        omega
end
end K12
namespace K12
open PySem PySem.Spec PyProof.Rows L2 He Tw LamX
def seven : List Str := ["left", "right", "less", "equal", "more", "new left", "new right"]
def dom (a b : Str) : List Str := seven ++ [a, b]
theorem dom_ok {a b : Str} (ha : OkW a) (hb : OkW b) : ∀ z ∈ dom a b, OkW z := fun z hz => by
  simp only [dom, seven, List.mem_cons, List.mem_append, List.not_mem_nil, or_false] at hz
  rcases hz with (rfl | rfl | rfl | rfl | rfl | rfl | rfl) | rfl | rfl
  all_goals first
    | exact ha
    | exact hb
    | exact okW_dec (by decide +kernel)
/-! ### truths drawn -/
def TrK (kvs : List (Key × V)) (ks : List Str) (tr : Str → Bool) : Prop := kvs.map (·.1) = ks.map Sum.inr ∧ ∀ z ∈ ks, valV kvs (.inr z) = some (.bl (tr z))
theorem TrK.mem {kvs : List (Key × V)} {ks : List Str} {tr : Str → Bool} (h : TrK kvs ks tr) {z : Str} (hz : valV kvs (.inr z) ≠ none) : z ∈ ks := by
  have h1 : (kvs.any fun kv => decide (kv.1 = (.inr z : Key))) = true := by
    rw [valV_any]
    cases e : valV kvs (.inr z) with
    | none => exact absurd e hz
    | some v => rfl
  obtain ⟨kv, hm, he⟩ := List.any_eq_true.mp h1
  have he := of_decide_eq_true he
  have h2 : (.inr z : Key) ∈ ks.map Sum.inr := by
    rw [← h.1, ← he]
    exact List.mem_map.mpr ⟨kv, hm, rfl⟩
  obtain ⟨y, hy, e⟩ := List.mem_map.mp h2
  cases e
  exact hy
theorem TrK.put {kvs : List (Key × V)} {ks : List Str} {tr : Str → Bool} (h : TrK kvs ks tr) (z : Str) (b : Bool) : ∃ ks' tr', TrK (putK kvs (.inr z) (.bl b)) ks' tr' ∧ z ∈ ks' ∧ (∀ y ∈ ks, y ∈ ks') ∧ ∀ y ∈ ks', y = z ∨ y ∈ ks := by
  have val : ∀ y, (y = z ∨ y ∈ ks) → valV (putK kvs (.inr z) (.bl b)) (.inr y) = some (.bl (if y = z then b else tr y)) := fun y hy => by
    rw [valV_put]
    by_cases e : y = z
    · rw [if_pos (by rw [e]), if_pos e]
    · rw [if_neg (fun q => e (by cases q; rfl)), if_neg e]
      exact h.2 y (hy.resolve_left e)
  cases e : valV kvs (.inr z) with
  | none =>
    refine ⟨ks ++ [z], _, ⟨?_, fun y hy => val y ?_⟩, List.mem_append_right _ List.mem_cons_self, fun y hy => List.mem_append_left _ hy, fun y hy => ?_⟩
    · rw [putK_new _ e, List.map_append, List.map_append, h.1]
      rfl
    · rcases List.mem_append.mp hy with q | q
      · exact .inr q
      · exact .inl (List.mem_singleton.mp q)
    · rcases List.mem_append.mp hy with q | q
      · exact .inr q
      · exact .inl (List.mem_singleton.mp q)
  | some v =>
    have hz : z ∈ ks := h.mem (by rw [e]; simp)
    refine ⟨ks, _, ⟨?_, fun y hy => val y (.inr hy)⟩, hz, fun y hy => hy, fun y hy => .inr hy⟩
    have h1 : (kvs.any fun kv => decide (kv.1 = (.inr z : Key))) = true := by rw [valV_any, e]; rfl
    unfold putK
    rw [if_pos h1, List.map_map, ← h.1]
    refine List.map_congr_left fun kv _ => ?_
    show (if kv.1 = (.inr z : Key) then (kv.1, V.bl b) else kv).1 = kv.1
    split <;> rfl
abbrev s_truths : Stmt := topS 40
abbrev N_truths : List Str := ["_law_pen_here", "_law_flags_here", "_law_found", "_law_word"]
theorem sc_truths : FnScope N_truths ["_law_pen_here", "_law_flags_here"] (defScope s_truths) := ⟨rfl, rfl, rfl, by decide +kernel, rfl, by decide +kernel, by decide +kernel⟩
def spTruths : Sp := fun vs H Q _ => ∃ (p l fl : Addr) (c : Nat) (a b : Str), vs = [.ref p, .ref fl] ∧ PenL H p l c ∧ c ≤ 900000 ∧ H fl = some (.lst [.str a, .str b]) ∧ fl ≠ p ∧
  ∀ (q : Addr) (H' : Hp) (tr : Str → Bool) (ks : List Str), q ≠ p → q ≠ sysModules → H q = none → PenL H' p l (c + 9) → But p H H' → TrD H' q tr ks → (∀ z ∈ dom a b, z ∈ ks) → (∀ z ∈ ks, z ∈ dom a b) → ks.length ≤ 9 → Q (.ref q) H'
section
variable {P : Program} {w : World} {K : Fg} {mg : Str → Option Value} {base : Heap} {fd : Nat → FuncData}
theorem G_truths (D : DefsK K fd) (T : Txt K mg) : FnOk P w K mg base CX0 3 (ga K "_law_truths") (fd 19) ["_law_pen_here", "_law_flags_here"] spTruths := by
  have gD := T.fn (x := "_law_draw") (by decide +kernel)
  have FD : FnP K "_law_draw" "_law_draw" s_draw (ga K "_law_draw") (fd 12) := D 12 _ rfl
  have GD : FnOk P w K mg base CX0 1 _ (fd 12) ["_law_pen_here", "_law_many"] spDrawL := ok_draw FD T
  have bD : Binds K (fd 12) ["_law_pen_here", "_law_many"] [] := FD.bindsN fun _ _ _ _ _ _ us hl => match us, hl with | [_, _], _ => rfl
  have F : FnP K "_law_truths" "_law_truths" s_truths (ga K "_law_truths") (fd 19) := D 19 _ rfl
  refine F.ok sc_truths (fun vs H Q E h => ?_) (fun cdv A outer s H vs Q E hr h => ?_)
  · obtain ⟨p, l, fl, c, a, b, rfl, _⟩ := h
    rfl
  · obtain ⟨p, l, fl, c, a, b, rfl, hP, hc, hf, nf, k⟩ := h
    refine ⟨_, PSs.nox (pss_cons (ps_set (i := 2) sc_truths.nd rfl (Or.inl rfl) pe_dnewN)
    (pss_cons (ps_for PassesOwn.never rfl (pi_list (pe_op op_catN (pe_lstN (pa_cons pe_str (pa_cons pe_str (pa_cons pe_str (pa_cons pe_str (pa_cons pe_str (pa_cons pe_str (pa_cons pe_str pa_nil)))))))) (pv 1))) (pg_name (i := 3) sc_truths.nd rfl (Or.inl rfl))
    (pss_one (ps_dput (u1 hr) (pv 2) (pv 3) (pe_cmpR op_eq (pe_call GD (hr.mono (by decide)) rfl gD FD.kp bD .nil pass0 (pa_cons (pv 0) (pa_cons pe_int pa_nil))) pe_int (nomark _)) rfl)))
    (pss_one (ps_ret (pv 2))))), ?_⟩
    refine fun D1 H1 f1 m1 s1 g1 => ?_
    refine ⟨sz1000 (by show 7 ≤ 1000; decide), fun q2 H2 f2 m2 s2 g2 => ?_⟩
    refine ⟨_, rfl, q2, fl, _, _, rfl, rfl, g2, s2 _ _ (s1 _ _ hf), sz1000 (by show 7 + 2 ≤ 1000; decide), fun qw H3 f3 m3 s3 g3 => ?_⟩
    have P3 := hP.same ((s1.trans s2).trans s3)
    have nw : qw ≠ p := ((hP.same (s1.trans s2)).new f3).1
    have nD : D1 ≠ p ∧ D1 ≠ l := hP.new f1
    have gD3 : H3 D1 = some (.dK []) := s3 _ _ (s2 _ _ g1)
    have nDw : D1 ≠ qw := ne_of_none (s2 _ _ g1) f3
    refine ⟨qw, rfl, ⟨_, SqL.of g3⟩, for_list (xs := (dom a b).map V.str) (fun i σ H' => ∃ (v3 : Option V) (kvs : List (Key × V)) (ks : List Str) (tr : Str → Bool), σ = [some (.ref p), some (.ref fl), some (.ref D1), v3] ∧ PenL H' p l (c + i) ∧ But p H H' ∧ H' D1 = some (.dK kvs) ∧ H' qw = some (.lst ((dom a b).map V.str)) ∧ TrK kvs ks tr ∧ (∀ z ∈ (dom a b).take i, z ∈ ks) ∧ (∀ z ∈ ks, z ∈ dom a b) ∧ kvs.length ≤ i)
      ⟨none, [], [], fun _ => true, rfl, P3, But.of ((s1.trans s2).trans s3), gD3, g3, ⟨rfl, fun _ h => nomatch h⟩, (fun _ h => nomatch h), (fun _ h => nomatch h), Nat.le_refl _⟩ (fun i σ H' _ ⟨_, _, _, _, _, _, _, _, g, _⟩ => SqL.of g) ?_ ?_⟩
    · rintro i x σ H4 hx ⟨v3, kvs, ks, tr, rfl, P4, B4, gd4, gw4, tk, d1, d2, lk⟩
      have l9 : (dom a b).length = 9 := rfl
      have hi : i < 9 := by
        have := (List.getElem?_eq_some_iff.mp hx).1
        rw [List.length_map, l9] at this
        exact this
      obtain ⟨z, hz, rfl⟩ : ∃ z, (dom a b)[i]? = some z ∧ x = .str z := by
        rw [List.getElem?_map] at hx
        cases e : (dom a b)[i]? with
        | none =>
          rw [e] at hx
          cases hx
        | some z =>
          rw [e] at hx
          cases hx
          exact ⟨z, rfl, rfl⟩
      refine ⟨_, rfl, p, l, 2, c + i, rfl, by decide, by decide, P4, by omega, fun d H5 d0 _ P5 B5 => ?_⟩
      have gd5 := B5 _ _ gd4 nD.1
      have gw5 := B5 _ _ gw4 nw
      refine ⟨rfl, _, rfl, _, rfl, D1, _, rfl, DPut.k (k := .inr z) gd5 (Nat.lt_of_le_of_lt (show kvs.length ≤ 9 by omega) (by decide)), ?_⟩
      obtain ⟨ks', tr', t1, t2, t3, t4⟩ := tk.put z (decide (V.int d = V.int 0))
      refine ⟨_, _, ks', tr', rfl, P5.upd nD.1 nD.2, fun b' o hb hbp => ?_, upd_same, by rw [upd_ne nDw.symm]; exact gw5, t1, fun y hy => ?_, fun y hy => ?_, ?_⟩
      · rw [upd_ne (ne_of_none hb f1)]
        exact B5 _ _ (B4 _ _ hb hbp) hbp
      · rw [take_snoc hz] at hy
        rcases List.mem_append.mp hy with q | q
        · exact t3 _ (d1 _ q)
        · rw [List.mem_singleton.mp q]
          exact t2
      · rcases t4 y hy with q | q
        · rw [q]
          exact List.mem_of_getElem? hz
        · exact d2 _ q
      · have := length_putK kvs (.inr z) (V.bl (decide (V.int d = V.int 0)))
        omega
    · rintro σ H4 ⟨v3, kvs, ks, tr, rfl, P4, B4, gd4, gw4, tk, d1, d2, lk⟩
      rw [show ((dom a b).map V.str).length = 9 from rfl] at P4 lk d1
      refine ⟨_, rfl, k D1 H4 tr ks nD.1 m1 f1 P4 B4 ⟨kvs, gd4, tk.1, tk.2⟩ (fun z hz => d1 z ?_) d2 ?_⟩
      · rw [List.take_of_length_le (show (dom a b).length ≤ 9 from Nat.le_refl _)]
        exact hz
      · have := congrArg List.length tk.1
        rw [List.length_map, List.length_map] at this
        omega
end
end K12
namespace K12
open PySem PySem.Spec PyProof.Rows L2 He Tw LamX
/-- a row, at none of two places -/
def RowX (p f : Addr) (H : Hp) (v : V) (r : List (Bool × Str)) : Prop := ∃ q ys, v = .ref q ∧ q ≠ p ∧ q ≠ f ∧ H q = some (.lst ys) ∧ Paired (PrT H) ys r
theorem RowX.keep {p f : Addr} {H H' : Hp} (t : TK H H') (e : ∀ b us, H b = some (.lst us) → b ≠ p → b ≠ f → H' b = some (.lst us)) {v : V} {r : List (Bool × Str)} : RowX p f H v r → RowX p f H' v r
  | ⟨q, ys, h1, n, m, h2, h3⟩ => ⟨q, ys, h1, n, m, e _ _ h2 n m, pairUp (fun _ _ z => z.keep t) h3⟩
theorem RowX.l {p f : Addr} {H : Hp} {v : V} {r : List (Bool × Str)} : RowX p f H v r → RowL p H v r
  | ⟨q, ys, h1, n, _, h2, h3⟩ => ⟨q, ys, h1, n, h2, h3⟩
def six : List Nat := [1, 1, 1, 2, 3, 4]
theorem num_at {ns : List Nat} {r : Int} (h0 : 0 ≤ r) (h1 : r < ns.length) (h4 : ∀ n ∈ ns, 1 ≤ n ∧ n ≤ 4) : ∃ n : Nat, 1 ≤ n ∧ n ≤ 4 ∧ atI (ns.map fun n => V.int (n : Nat)) r = some (.int (n : Nat)) := by
  have hlt : r.toNat < ns.length := by omega
  obtain ⟨a, b⟩ := h4 _ (List.getElem_mem hlt)
  refine ⟨ns[r.toNat], a, b, atI_gen h0 ?_⟩
  rw [List.getElem?_map, List.getElem?_eq_getElem hlt]
  rfl
/-- a row that a test takes, its words known -/
def RowG (a b : Str) (r : List (Bool × Str)) : Prop := r ≠ [] ∧ r.length ≤ 4 ∧ ∀ x ∈ r, x.2 ∈ dom a b
abbrev s_lcases : Stmt := topS 36
abbrev N_lcases : List Str := ["_law_pen_here", "_law_flags_here", "_law_words", "_law_found", "_law_k", "_law_size", "_law_j"]
theorem sc_lcases : FnScope N_lcases ["_law_pen_here", "_law_flags_here"] (defScope s_lcases) := ⟨rfl, rfl, rfl, by decide +kernel, rfl, by decide +kernel, by decide +kernel⟩
def spLCases : Sp := fun vs H Q _ => ∃ (p l fl : Addr) (c : Nat) (a b : Str), vs = [.ref p, .ref fl] ∧ PenL H p l c ∧ c ≤ 800000 ∧ H fl = some (.lst [.str a, .str b]) ∧ fl ≠ p ∧ OkW a ∧ OkW b ∧
  ∀ (q : Addr) (H' : Hp) (cs : Cs), PenL H' p l (c + 100) → But p H H' → CsL p H' (.ref q) cs → Good cs → Knows (dom a b) cs → Q (.ref q) H'
section
variable {P : Program} {w : World} {K : Fg} {mg : Str → Option Value} {base : Heap} {fd : Nat → FuncData}
theorem G_lcases (D : DefsK K fd) (T : Txt K mg) : FnOk P w K mg base CX0 3 (ga K "_law_cases") (fd 15) ["_law_pen_here", "_law_flags_here"] spLCases := by
  have zr : mg "range" = none := T.bl (by decide +kernel)
  have gD := T.fn (x := "_law_draw") (by decide +kernel)
  have gP := T.fn (x := "_law_pick") (by decide +kernel)
  have FD : FnP K "_law_draw" "_law_draw" s_draw (ga K "_law_draw") (fd 12) := D 12 _ rfl
  have FP : FnP K "_law_pick" "_law_pick" s_pick (ga K "_law_pick") (fd 13) := D 13 _ rfl
  have GD : FnOk P w K mg base CX0 1 _ (fd 12) ["_law_pen_here", "_law_many"] spDrawL := ok_draw FD T
  have bD : Binds K (fd 12) ["_law_pen_here", "_law_many"] [] := FD.bindsN fun _ _ _ _ _ _ us hl => match us, hl with | [_, _], _ => rfl
  have GP : FnOk P w K mg base CX0 2 _ (fd 13) ["_law_pen_here", "_law_some"] (spPickL K) := ok_pick FP FD gD T
  have bP : Binds K (fd 13) ["_law_pen_here", "_law_some"] [] := FP.bindsN fun _ _ _ _ _ _ us hl => match us, hl with | [_, _], _ => rfl
  have F : FnP K "_law_cases" "_law_cases" s_lcases (ga K "_law_cases") (fd 15) := D 15 _ rfl
  refine F.ok sc_lcases (fun vs H Q E h => ?_) (fun cdv A outer s H vs Q E hr h => ?_)
  · obtain ⟨p, l, fl, c, a, b, rfl, _⟩ := h
    rfl
  · obtain ⟨p, l, fl, c, a, b, rfl, hP, hc, hf, nf, oa, ob, k⟩ := h
    refine ⟨_, PSs.nox (pss_cons (ps_set (i := 2) sc_lcases.nd rfl (Or.inr rfl) (pe_lstN (pa_cons pe_str (pa_cons pe_str (pa_cons pe_str (pa_cons pe_str (pa_cons pe_str (pa_cons pe_str (pa_cons pe_str pa_nil)))))))))
    (pss_cons (ps_set (i := 3) sc_lcases.nd rfl (Or.inl rfl) (pe_lstN pa_nil))
    (pss_cons (ps_for PassesOwn.never rfl (pi_range1 rfl zr (pa_cons (pe_ix ix_list (pe_lstN (pa_cons pe_int (pa_cons pe_int (pa_cons pe_int (pa_cons pe_int (pa_cons pe_int (pa_cons pe_int pa_nil))))))) (pe_call GD (hr.mono (by decide)) rfl gD FD.kp bD .nil pass0 (pa_cons (pv 0) (pa_cons pe_int pa_nil))) (fun _ _ => rfl)) pa_nil)) (pg_name (i := 4) sc_lcases.nd rfl (Or.inl rfl))
    (pss_cons (ps_set (i := 5) sc_lcases.nd rfl (Or.inl rfl) (pe_ix ix_list (pe_lstN (pa_cons pe_int (pa_cons pe_int (pa_cons pe_int (pa_cons pe_int (pa_cons pe_int (pa_cons pe_int pa_nil))))))) (pe_call GD (hr.mono (by decide)) rfl gD FD.kp bD .nil pass0 (pa_cons (pv 0) (pa_cons pe_int pa_nil))) (fun _ _ => rfl)))
    (pss_one (ps_expr (pe_bm PySem.F.plainAttrs_list PySem.F.slot_list_append PySem.F.type_list_append mt_append (pv 3) (pa_cons (pe_lc (own := [("_law_j", 6)]) (g := gName 6) (tt := tYes) (by rfl) sc_lcases.nd (pi_range1 rfl zr (pa_cons (pv 5) pa_nil)) (blkOk_by (own := [("_law_j", 6)]) (N := N_lcases) (sc := defScope s_lcases) (by decide +kernel)) (fun _ _ _ _ _ => (pg_name (i := 6) sc_lcases.nd rfl (Or.inl rfl))) (fun _ _ _ _ _ => pts_nil) (fun _ _ _ _ _ => (pe_tupN (pa_cons (pe_cmpR op_eq (pe_call GD (hr.mono (by decide)) rfl gD FD.kp bD .nil pass0 (pa_cons (pv 0) (pa_cons pe_int pa_nil))) pe_int (nomark _)) (pa_cons (pe_call GP (hr.mono (by decide)) rfl gP FP.kp bP .nil pass0 (pa_cons (pv 0) (pa_cons (pe_op op_catN (pe_op op_catN (pv 2) (pv 2)) (pv 1)) pa_nil))) pa_nil))))) pa_nil))))))
    (pss_one (ps_ret (pv 3)))))), ?_⟩
    refine ⟨sz1000 (by show 7 ≤ 1000; decide), fun qw H2 f2 m2 s2 g2 => ?_⟩
    refine ⟨sz1000 (by show 0 ≤ 1000; decide), fun qf H3 f3 m3 s3 g3 => ?_⟩
    have P3 := hP.same (s2.trans s3)
    have nw : qw ≠ p := (hP.new f2).1
    have nq : qf ≠ p ∧ qf ≠ l := (hP.same s2).new f3
    have gw3 := s3 _ _ g2
    have ffH : H qf = none := s2.free f3
    have nwf : qw ≠ qf := ne_of_none g2 f3
    have nlf : fl ≠ qf := ne_of_none hf ffH
    refine ⟨sz1000 (by show 6 ≤ 1000; decide), fun q4 H4 f4 m4 s4 g4 => ?_⟩
    refine ⟨_, rfl, p, l, 6, c, rfl, by decide, by decide, P3.same s4, by omega, fun r H5 r0 r9 P5 B5 => ?_⟩
    have n4 : q4 ≠ p := (P3.new f4).1
    obtain ⟨n, n1, n6, hix⟩ := num_at (ns := six) r0 r9 (by decide)
    refine ⟨q4, _, r, .int (n : Nat), rfl, rfl, SqL.of (B5 _ _ g4 n4), hix, ?_⟩
    have B05 : But p H H5 := (But.of (s2.trans s3)).trans ((But.of s4).trans B5)
    have gw5 := B5 _ _ (s4 _ _ gw3) nw
    have gf5 := B5 _ _ (s4 _ _ g3) nq.1
    clear g4 hix
    refine ⟨(n : Nat), rfl, by omega, by omega, ?_⟩
    refine for_range (lo := 0) (n := ((n : Nat) : Int).toNat) (fun i σ H' => ∃ (v4 v5 v6 : Option V) (xs : List V) (cs : Cs), σ = [some (.ref p), some (.ref fl), some (.ref qw), some (.ref qf), v4, v5, v6] ∧ PenL H' p l (c + 1 + 9 * i) ∧ But p H H' ∧ H' qw = some (.lst (seven.map V.str)) ∧ H' qf = some (.lst xs) ∧ cs.length = i ∧ Paired (RowX p qf H') xs cs ∧ ∀ r ∈ cs, RowG a b r)
      ⟨none, none, none, [], [], rfl, P5, B05, gw5, gf5, rfl, .nil, fun _ h => nomatch h⟩ ?_ ?_
    · rintro i σ G0 hi ⟨v4, v5, v6, xs, cs, rfl, P0, B0, gw0, gf0, ld, cp, rg⟩
      rw [Int.toNat_natCast] at hi
      refine ⟨sz1000 (by show 6 ≤ 1000; decide), fun q1 G1 f1 m1 s1 g1 => ?_⟩
      refine ⟨_, rfl, p, l, 6, c + 1 + 9 * i, rfl, by decide, by decide, P0.same s1, by omega, fun r G2 r0 r9 P2 B2 => ?_⟩
      have n1 : q1 ≠ p := (P0.new f1).1
      obtain ⟨m, hm1, hm6, hix⟩ := num_at (ns := six) r0 r9 (by decide)
      refine ⟨q1, _, r, .int (m : Nat), rfl, rfl, SqL.of (B2 _ _ g1 n1), hix, ?_⟩
      have B02 : But p G0 G2 := (But.of s1).trans B2
      have gw2 := B02 _ _ gw0 nw
      have gf2 := B02 _ _ gf0 nq.1
      clear g1 hix
      obtain ⟨us0, pl0⟩ : ∃ us, G0 p = some (.lst us) := by
        obtain ⟨ns, i, g, q1, _⟩ := P0
        exact ⟨_, q1⟩
      have t02 : TK G0 G2 := (LK.but B02 pl0).1
      refine ⟨_, rfl, .inl ⟨rfl, _, SqL.of gf2⟩, ?_⟩
      refine ⟨_, rfl, (m : Nat), rfl, by omega, by omega, fun D1 hD => lc_range (lo := 0) (n := ((m : Nat) : Int).toNat) (fun j H' => PenL H' p l (c + 1 + 9 * i + 1 + 2 * j) ∧ But p G2 H' ∧ TK G2 H' ∧ ∃ (zs : List V) (r : List (Bool × Str)), r.length = j ∧ H' D1 = some (.lst zs) ∧ Paired (PrT H') zs r ∧ ∀ x ∈ r, x.2 ∈ dom a b) ?_ ?_ ?_⟩
      · exact ⟨P2.same (same_new hD), But.of (same_new hD), TK.same (same_new hD), [], [], rfl, upd_same, .nil, fun _ h => nomatch h⟩
      · rintro j G3 hj ⟨P3, B3, t3, zs, es, le, gD3, pp, kn⟩
        rw [Int.toNat_natCast] at hj
        obtain ⟨hDp, hDl⟩ := P2.new hD
        obtain ⟨us3, pl3⟩ : ∃ us, G3 p = some (.lst us) := by
          obtain ⟨ns, i, g, q1, _⟩ := P3
          exact ⟨_, q1⟩
        refine ⟨rfl, ?_⟩
        refine ⟨_, rfl, p, l, 3, c + 1 + 9 * i + 1 + 2 * j, rfl, by decide, by decide, P3, by omega, fun d G4 d0 d2 P4 B4 => ?_⟩
        refine ⟨rfl, ?_⟩
        have gw4 := B4 _ _ (B3 _ _ gw2 nw) nw
        have gl4 : G4 fl = some (.lst [.str a, .str b]) := B4 _ _ (B3 _ _ (B02 _ _ (B0 _ _ hf nf) nf) nf) nf
        refine ⟨_, rfl, _, rfl, _, rfl, qw, qw, _, _, rfl, rfl, gw4, gw4, sz1000 (by show 7 + 7 ≤ 1000; decide), fun qa G4a fa ma sa ga => ?_⟩
        refine ⟨_, rfl, qa, fl, _, _, rfl, rfl, ga, sa _ _ gl4, sz1000 (by show 14 + 2 ≤ 1000; decide), fun qb G4b fb mb sb gb => ?_⟩
        have nb : qb ≠ p := ((P4.same sa).new fb).1
        refine ⟨p, l, qb, _, c + 1 + 9 * i + 1 + 2 * j + 1, rfl, SqL.of gb, nb, (by show 0 < 16; decide), (by show 16 < 1000; decide), P4.same (sa.trans sb), by omega, fun v G5 hv P5 B5 => ?_⟩
        obtain ⟨z, rfl, sz⟩ : ∃ z : Str, v = .str z ∧ z ∈ dom a b := by
          simp only [seven, List.map_cons, List.map_nil, List.mem_cons, List.mem_append, List.not_mem_nil, or_false] at hv
          rcases hv with ((rfl | rfl | rfl | rfl | rfl | rfl | rfl) | (rfl | rfl | rfl | rfl | rfl | rfl | rfl)) | rfl | rfl
          all_goals exact ⟨_, rfl, by simp [dom, seven]⟩
        refine ⟨sz1000 (by show 2 ≤ 1000; decide), fun t G6 f6 s6 g6 => ?_⟩
        have B36 : But p G3 G6 := ((B4.trans (But.of (sa.trans sb))).trans B5).trans (But.of s6)
        have t36 : TK G3 G6 := (LK.but B36 pl3).1
        have gD6 := B36 _ _ gD3 hDp
        have lz : zs.length = es.length := Paired.length pp
        have tu : TK G6 (upd G6 D1 (.lst (zs ++ [.ref t]))) := TK.upd gD6 fun _ z => nomatch z
        refine ⟨_, gD6, Nat.lt_of_le_of_lt (show zs.length ≤ 4 by omega) (by decide), (P5.same s6).upd hDp hDl, fun b o hb hbp => ?_, (t3.trans t36).trans tu, zs ++ [.ref t], es ++ [(decide (V.int d = V.int 0), z)], by rw [List.length_append, le]; rfl, upd_same, paired_snoc ⟨t, rfl, tu _ _ g6⟩ (pairUp (fun _ _ q => q.keep (t36.trans tu)) pp), fun x hx => ?_⟩
        · rw [upd_ne (ne_of_none hb hD)]
          exact B36 _ _ (B3 _ _ hb hbp) hbp
        · rcases List.mem_append.mp hx with q | q
          · exact kn x q
          · rw [List.mem_singleton.mp q]
            exact sz
      · rintro G3 ⟨P3, B3, t3, zs, es, le, gD3, pp, kn⟩
        rw [Int.toNat_natCast] at P3 le
        obtain ⟨hDp, hDl⟩ := P2.new hD
        have gf3 := B3 _ _ gf2 nq.1
        have nDf : D1 ≠ qf := (ne_of_none gf2 hD).symm
        have lx : xs.length = cs.length := Paired.length cp
        refine ⟨qf, _, _, rfl, rfl, gf3, Nat.lt_of_le_of_lt (show xs.length ≤ 6 by omega) (by decide), ?_⟩
        have tu : TK G3 (upd G3 qf (.lst (xs ++ [.ref D1]))) := TK.upd gf3 fun _ z => nomatch z
        refine ⟨_, _, _, xs ++ [.ref D1], cs ++ [es], rfl, (P3.upd nq.1 nq.2).mono (by omega), fun b o hb hbp => ?_, ?_, upd_same, by rw [List.length_append, ld]; rfl, paired_snoc ⟨D1, zs, rfl, hDp, nDf, by rw [upd_ne nDf]; exact gD3, pairUp (fun _ _ z => z.keep tu) pp⟩ (pairUp (fun _ _ z => z.keep ((t02.trans t3).trans tu) fun b us h1 h2 h3 => ?_) cp), fun r hr => ?_⟩
        · rw [upd_ne (ne_of_none hb ffH)]
          exact B3 _ _ (B02 _ _ (B0 _ _ hb hbp) hbp) hbp
        · rw [upd_ne nwf]
          exact B3 _ _ gw2 nw
        · rcases List.mem_append.mp hr with q | q
          · exact rg r q
          · rw [List.mem_singleton.mp q]
            exact ⟨fun z => by
              rw [z] at le
              simp at le
              omega, by omega, kn⟩
        · rw [upd_ne h3]
          exact B3 _ _ (B02 _ _ h1 h2) h2
    · rintro σ H6 ⟨v4, v5, v6, xs, cs, rfl, P6, B6, gw6, gf6, ld, cp, rg⟩
      rw [Int.toNat_natCast] at P6 ld
      refine ⟨_, rfl, k qf H6 cs (P6.mono (by omega)) B6 ⟨qf, xs, rfl, nq.1, gf6, pairUp (fun _ _ z => z.l) cp⟩ ⟨fun z => ?_, by omega, fun r hr => ⟨(rg r hr).1, (rg r hr).2.1, fun x hx => dom_ok oa ob _ ((rg r hr).2.2 x hx)⟩⟩ fun r hr x hx => (rg r hr).2.2 x hx⟩
      rw [z] at ld
      simp at ld
      omega
end
end K12
namespace K12
open PySem PySem.Spec PyProof.Rows L2 He Tw LamX
abbrev s_law : Stmt := topS 45
abbrev N_law : List Str := ["_law_script", "_law_pen_here", "_law_flags_here", "_law_turn", "_law_cases_here", "_law_made", "_law_about", "_law_other", "_law_row", "_law_is_not", "_law_word", "_law_again", "_law_truths_here", "_law_back"]
theorem sc_law : FnScope N_law ["_law_script"] (defScope s_law) := ⟨rfl, rfl, rfl, by decide +kernel, rfl, by decide +kernel, by decide +kernel⟩
def spLaw (K : Fg) : Sp := fun vs H Q _ => ∃ (a : Addr) (ns : List Int), vs = [.ref a] ∧ SqL K H a (ns.map V.int) ∧ ns.length ≤ 63 ∧ Tabs (Tb K) H ∧ ∀ H', Q (.bl true) H'
/-- what stands between the law's steps -/
structure Ld (K : Fg) (H : Hp) (p l fl : Addr) (a b : Str) (c : Nat) : Prop where
  t : Tabs (Tb K) H
  P : PenL H p l c
  g : H fl = some (.lst [.str a, .str b])
  n : fl ≠ p
theorem Ld.pen {K : Fg} {H H' : Hp} {p l fl : Addr} {a b : Str} {c c' : Nat} (S : Ld K H p l fl a b c) (P : PenL H' p l c') (B : But p H H') : Ld K H' p l fl a b c' := ⟨tabs_pen S.t B S.P, P, B _ _ S.g S.n, S.n⟩
theorem Ld.ext {K : Fg} {H H' : Hp} {p l fl : Addr} {a b : Str} {c : Nat} (S : Ld K H p l fl a b c) (e : ExtN H H') (t : Tabs (Tb K) H') : Ld K H' p l fl a b c := ⟨t, penN S.P e, e _ _ S.g (fun _ z => nomatch z), S.n⟩
theorem Ld.same {K : Fg} {H H' : Hp} {p l fl : Addr} {a b : Str} {c : Nat} (S : Ld K H p l fl a b c) (e : Same H H') : Ld K H' p l fl a b c := S.ext (ExtN.of e) (S.t.ext e)
theorem Ld.mono {K : Fg} {H : Hp} {p l fl : Addr} {a b : Str} {c c' : Nat} (S : Ld K H p l fl a b c) (h : c ≤ c') : Ld K H p l fl a b c' := ⟨S.t, S.P.mono h, S.g, S.n⟩
theorem Ld.lst {K : Fg} {H : Hp} {p l fl : Addr} {a b : Str} {c : Nat} (S : Ld K H p l fl a b c) : ∃ us, H p = some (.lst us) := by
  obtain ⟨ns, i, g, q1, _⟩ := S.P
  exact ⟨_, q1⟩
/-- the tests of a turn and the cases they are held against -/
structure Wk (K : Fg) (H : Hp) (p mb ab cq o : Addr) (cs : Cs) : Prop where
  m : TestC K H mb cs
  a : TestC K H ab (exCs cs)
  c : CsL p H (.ref cq) cs
  o : CsL p H (.ref o) (exCs cs)
theorem Wk.but {K : Fg} {H H' : Hp} {p mb ab cq o : Addr} {cs : Cs} {us : List V} (W : Wk K H p mb ab cq o cs) (e : But p H H') (hp : H p = some (.lst us)) : Wk K H' p mb ab cq o cs := ⟨W.m.but e hp, W.a.but e hp, W.c.keep (LK.but e hp), W.o.keep (LK.but e hp)⟩
theorem Wk.ext {K : Fg} {H H' : Hp} {p mb ab cq o : Addr} {cs : Cs} (W : Wk K H p mb ab cq o cs) (e : ExtN H H') : Wk K H' p mb ab cq o cs := ⟨W.m.ext e, W.a.ext e, W.c.keep (LK.ext e), W.o.keep (LK.ext e)⟩
theorem canLay_cs {cs : Cs} (g : Good cs) : PyData.canLayAll0 (csD cs) = true := right_lay (n := 1) (right_of g.due) (okL g.ok).2
theorem shaped_cs {cs : Cs} (g : Good cs) : SeqAt.shaped (.tuple (csD cs)) = true := by
  have c := canLay_cs g
  have okT4 : okD 4 (.tuple (csD cs)) = true := g.ok
  have d : (PyData.tuple (csD cs)).depth ≤ 4 := (okD_facts 4 _ okT4).2.2
  simp [PyData.depth] at d
  simp [SeqAt.shaped, PyData.canLay0, PyData.depth, c]
  omega
theorem canLay_t {cs : Cs} (g : Good cs) : (PyData.tuple (csD cs)).canLay0 = true := SeqAt.canLay_of_shaped (shaped_cs g)
theorem csT_dp {K : Fg} {H : Hp} {q : Addr} {xs : List V} {cs : Cs} (g : Good cs) (h : H q = some (.tup xs)) (t : Paired (RowT H) xs cs) {p : Addr} (hp : NoT p H) : Dp K H (.ref q) (.tuple (csD cs)) := .tup (SqT.of h) ((rows_da hp t).dp (canLay_cs g))
section
variable {P : Program} {w : World} {K : Fg} {mg : Str → Option Value} {base : Heap} {fd : Nat → FuncData}
theorem G_law {es : Array DictEntry} {n : Nat} (D : DefsK K fd) (KD : KDict K w (ga K "EXCHANGED") es n) (T : Txt K mg) (TB : TabB base mg (Tw.codeAt K (ga K "_law_right")) (tabAt K (ga K "_law_right"))) (TB2 : TabB base mg (Tw.codeAt K (ga K "_law_falls")) (tabAt K (ga K "_law_falls"))) : FnG P w K mg base CX0 16 (ga K "law") (fd 24) ["_law_script"] (spLaw K) := by
  have zr : mg "range" = none := T.bl (by decide +kernel)
  have zrepr : mg "repr" = none := T.bl (by decide +kernel)
  have ztup : mg "tuple" = none := T.bl (by decide +kernel)
  have gP := T.fn (x := "_law_pen") (by decide +kernel)
  have gF := T.fn (x := "_law_flags") (by decide +kernel)
  have gC := T.fn (x := "_law_cases") (by decide +kernel)
  have gM := T.fn (x := "_law_test") (by decide +kernel)
  have gX := T.fn (x := "_law_exchanged") (by decide +kernel)
  have gU := T.fn (x := "_law_truths") (by decide +kernel)
  have gR := T.fn (x := "_law_right") (by decide +kernel)
  have FP : FnP K "_law_pen" "_law_pen" s_pen (ga K "_law_pen") (fd 11) := D 11 _ rfl
  have GP : FnOk P w K mg base CX0 1 (ga K "_law_pen") (fd 11) ["_law_script"] (spPenL K) := ok_pen FP T
  have bP : Binds K (fd 11) ["_law_script"] [] := FP.bindsN fun _ _ _ _ _ _ us hl => match us, hl with | [_], _ => rfl
  have FF : FnP K "_law_flags" "_law_flags" s_flags (ga K "_law_flags") (fd 14) := D 14 _ rfl
  have GF : FnOk P w K mg base CX0 3 (ga K "_law_flags") (fd 14) ["_law_pen_here"] spFlags2 := G_flags D T
  have bF : Binds K (fd 14) ["_law_pen_here"] [] := FF.bindsN fun _ _ _ _ _ _ us hl => match us, hl with | [_], _ => rfl
  have FC : FnP K "_law_cases" "_law_cases" s_lcases (ga K "_law_cases") (fd 15) := D 15 _ rfl
  have GC : FnOk P w K mg base CX0 3 (ga K "_law_cases") (fd 15) ["_law_pen_here", "_law_flags_here"] spLCases := G_lcases D T
  have bC : Binds K (fd 15) ["_law_pen_here", "_law_flags_here"] [] := FC.bindsN fun _ _ _ _ _ _ us hl => match us, hl with | [_, _], _ => rfl
  have FM : FnP K "_law_test" "_law_test" s_test (ga K "_law_test") (fd 16) := D 16 _ rfl
  have GM : FnOk P w K mg base CX0 12 (ga K "_law_test") (fd 16) ["_law_cases_here"] (spTestL K) := G_test D T
  have bM : Binds K (fd 16) ["_law_cases_here"] [] := FM.bindsN fun _ _ _ _ _ _ us hl => match us, hl with | [_], _ => rfl
  have FX : FnP K "_law_exchanged" "_law_exchanged" s_lex (ga K "_law_exchanged") (fd 20) := D 20 _ rfl
  have GX : FnOk P w K mg base CX0 1 (ga K "_law_exchanged") (fd 20) ["_law_word"] spEx := G_lex D T
  have bX : Binds K (fd 20) ["_law_word"] [] := FX.bindsN fun _ _ _ _ _ _ us hl => match us, hl with | [_], _ => rfl
  have FU : FnP K "_law_truths" "_law_truths" s_truths (ga K "_law_truths") (fd 19) := D 19 _ rfl
  have GU : FnOk P w K mg base CX0 3 (ga K "_law_truths") (fd 19) ["_law_pen_here", "_law_flags_here"] spTruths := G_truths D T
  have bU : Binds K (fd 19) ["_law_pen_here", "_law_flags_here"] [] := FU.bindsN fun _ _ _ _ _ _ us hl => match us, hl with | [_, _], _ => rfl
  have FR : FnP K "_law_right" "_law_right" s_right (ga K "_law_right") (fd 23) := D 23 _ rfl
  have GR : FnG P w K mg base CX0 14 (ga K "_law_right") (fd 23) ["_law_made", "_law_cases_here", "_law_truths_here"] (spRight K) := G_right D T TB TB2
  have bR : Binds K (fd 23) ["_law_made", "_law_cases_here", "_law_truths_here"] [] := FR.bindsN fun _ _ _ _ _ _ us hl => match us, hl with | [_, _, _], _ => rfl
  have FT : FnP K "turned" "Test.turned" s_turned (ma K (ga K "Test") "turned") (fd 3) := D 3 _ rfl
  have GT : FnOk P w K mg base CX0 12 (ma K (ga K "Test") "turned") (fd 3) ["self"] (spTurned K) := G_turned D KD T
  have bT : Binds K (fd 3) ["self"] [] := FT.bindsN fun _ _ _ _ _ _ us hl => match us, hl with | [_], _ => rfl
  have mT := T.mtT (m := "turned") (by decide +kernel)
  have FE : FnP K "__eq__" "Test.__eq__" s_teq (ma K (ga K "Test") "__eq__") (fd 2) := D 2 _ rfl
  have GE : FnOk P w K mg base CX0 1 (ma K (ga K "Test") "__eq__") (fd 2) ["self", "other"] (spTeq K) := G_teq D T
  have bE : Binds K (fd 2) ["self", "other"] [] := FE.bindsN fun _ _ _ _ _ _ us hl => match us, hl with | [_, _], _ => rfl
  have mE := T.mtT (m := "__eq__") (by decide +kernel)
  have F : FnP K "law" "law" s_law (ga K "law") (fd 24) := D 24 _ rfl
  refine F.okG sc_law (fun vs H Q E h => ?_) (fun cdv A outer s H vs Q E hr hg h => ?_)
  · obtain ⟨a, ns, rfl, _⟩ := h
    rfl
  · obtain ⟨a0, ns, rfl, hS, hl, hT, k⟩ := h
    have hu := room70 hr
    refine ⟨_, PSs.nox (pss_cons (ps_set (i := 1) sc_law.nd rfl (Or.inl rfl) (pe_call GP (hr.mono (by decide)) rfl gP FP.kp bP .nil pass0 (pa_cons (pv 0) pa_nil)))
    (pss_cons (ps_set (i := 2) sc_law.nd rfl (Or.inl rfl) (pe_call GF (hr.mono (by decide)) rfl gF FF.kp bF .nil pass0 (pa_cons (pv 1) pa_nil)))
    (pss_cons (ps_for PassesOwn.never rfl (pi_range1 rfl zr (pa_cons pe_int pa_nil)) (pg_name (i := 3) sc_law.nd rfl (Or.inl rfl))
    (pss_cons (ps_set (i := 4) sc_law.nd rfl (Or.inl rfl) (pe_call GC (hr.mono (by decide)) rfl gC FC.kp bC .nil pass0 (pa_cons (pv 1) (pa_cons (pv 2) pa_nil))))
    (pss_cons (ps_set (i := 5) sc_law.nd rfl (Or.inl rfl) (pe_call GM (hr.mono (by decide)) rfl gM FM.kp bM .nil pass0 (pa_cons (pv 4) pa_nil)))
    (pss_cons (ps_set (i := 6) sc_law.nd rfl (Or.inl rfl) (pe_meth0 (E := E0) (pv 5) T.clsT mT GT (hr.mono (by decide)) bT .nil pass0))
    (pss_cons (ps_set (i := 7) sc_law.nd rfl (Or.inl rfl) (pe_lstN pa_nil))
    (pss_cons (ps_for PassesOwn.never rfl (pi_list (pv 4)) (pg_name (i := 8) sc_law.nd rfl (Or.inl rfl))
      (pss_one (ps_expr (pe_bm PySem.F.plainAttrs_list PySem.F.slot_list_append PySem.F.type_list_append mt_append (pv 7) (pa_cons (pe_lc (own := [("_law_is_not", 9), ("_law_word", 10)]) (tt := tYes) (by rfl) sc_law.nd (pi_list (pv 8)) (blkOk_by (own := [("_law_is_not", 9), ("_law_word", 10)]) (N := N_law) (sc := defScope s_law) (by decide +kernel)) (fun _ _ _ _ _ => (pg_tupK K (n := 2) (by rfl) (pgs_cons (pg_name (i := 9) sc_law.nd rfl (Or.inl rfl)) (pgs_cons (pg_name (i := 10) sc_law.nd rfl (Or.inl rfl)) pgs_nil)))) (fun _ _ _ _ _ => pts_nil)
        (fun _ _ _ _ _ => (pe_tupN (pa_cons (pv 9) (pa_cons (pe_call GX (hr.mono (by decide)) rfl gX FX.kp bX .nil pass0 (pa_cons (pv 10) pa_nil)) pa_nil))))) pa_nil)))))
    (pss_cons (ps_if (PW.pt (pw_or (pt_cmpR op_ne (pe_callB (call_reprD hg hu) (by rfl) zrepr Tw.boot_repr (pa_cons (pe_fld (pv 6) rfl) pa_nil)) (pe_callB (call_reprD hg hu) (by rfl) zrepr Tw.boot_repr (pa_cons (pe_callTy (call_tuple_ofK K) (by rfl) ztup (by decide +kernel) (pa_cons (pe_lc (own := [("_law_row", 8)]) (g := gName 8) (tt := tYes) (by rfl) sc_law.nd (pi_list (pv 7)) (blkOk_by (own := [("_law_row", 8)]) (N := N_law) (sc := defScope s_law) (by decide +kernel)) (fun _ _ _ _ _ => (pg_name (i := 8) sc_law.nd rfl (Or.inl rfl))) (fun _ _ _ _ _ => pts_nil) (fun _ _ _ _ _ => (pe_callTy (call_tuple_ofK K) (by rfl) ztup (by decide +kernel) (pa_cons (pv 8) pa_nil)))) pa_nil)) pa_nil)) (nomark _))
        (pw_or1 (pt_not (pt_cmpR (op_eqOwn (E := E0) mE.at_ mE.fn GE (hr.mono (by decide)) bE pass0) (pe_meth0 (E := E0) (pv 6) T.clsT mT GT (hr.mono (by decide)) bT .nil pass0) (pv 5) (nomark _)))))) (pss_one (ps_ret pe_bl)) pss_nil)
    (pss_cons (ps_for PassesOwn.never rfl (pi_range1 rfl zr (pa_cons pe_int pa_nil)) (pg_name (i := 11) sc_law.nd rfl (Or.inl rfl))
      (pss_cons (ps_set (i := 12) sc_law.nd rfl (Or.inl rfl) (pe_call GU (hr.mono (by decide)) rfl gU FU.kp bU .nil pass0 (pa_cons (pv 1) (pa_cons (pv 2) pa_nil))))
      (pss_cons (ps_set (i := 13) sc_law.nd rfl (Or.inl rfl) pe_dnewN)
      (pss_cons (ps_lock (ps_for PassesOwn.never rfl (pi_keys (pv 12)) (pg_name (i := 10) sc_law.nd rfl (Or.inl rfl))
        (pss_one (ps_dput (u1 hr) (pv 13) (pe_call GX (hr.mono (by decide)) rfl gX FX.kp bX .nil pass0 (pa_cons (pv 10) pa_nil)) (pe_dget (u1 hr) (pv 12) (pv 10) (fun _ _ => rfl)) rfl))))
      (pss_one (ps_if (PW.pt (pw_or (pt_not (pt_val (pe_callG GR (hr.mono (by decide)) hg rfl gR FR.kp bR .nil pass0 (pa_cons (pv 5) (pa_cons (pv 4) (pa_cons (pv 12) pa_nil)))))) (pw_or1 (pt_not (pt_val (pe_callG GR (hr.mono (by decide)) hg rfl gR FR.kp bR .nil pass0 (pa_cons (pv 6) (pa_cons (pv 7) (pa_cons (pv 13) pa_nil))))))))) (pss_one (ps_ret pe_bl)) pss_nil))))))
    (pss_one (ps_if (pt_cmpR op_ne (pe_callB (call_reprD hg hu) (by rfl) zrepr Tw.boot_repr (pa_cons (pe_fld (pv 5) rfl) pa_nil)) (pe_callB (call_reprD hg hu) (by rfl) zrepr Tw.boot_repr (pa_cons (pe_callTy (call_tuple_ofK K) (by rfl) ztup (by decide +kernel) (pa_cons (pe_lc (own := [("_law_row", 8)]) (g := gName 8) (tt := tYes) (by rfl) sc_law.nd (pi_list (pv 4)) (blkOk_by (own := [("_law_row", 8)]) (N := N_law) (sc := defScope s_law) (by decide +kernel)) (fun _ _ _ _ _ => (pg_name (i := 8) sc_law.nd rfl (Or.inl rfl))) (fun _ _ _ _ _ => pts_nil) (fun _ _ _ _ _ => (pe_callTy (call_tuple_ofK K) (by rfl) ztup (by decide +kernel) (pa_cons (pv 8) pa_nil)))) pa_nil)) pa_nil)) (nomark _)) (pss_one (ps_ret pe_bl)) pss_nil))))))))))
    (pss_one (ps_ret pe_bl))))), ?_⟩
    refine ⟨_, rfl, a0, ns, rfl, hS, hl, fun p l H1 hp P1 s1 => ?_⟩
    refine ⟨_, rfl, p, l, 0, rfl, P1, by omega, fun fl H2 a b nf P2 B2 g2 oa ob => ?_⟩
    have S2 : Ld K H2 p l fl a b 12 := ⟨tabs_pen (hT.ext s1) B2 P1, P2, g2, nf⟩
    refine ⟨4, rfl, by decide, by decide, for_range (lo := 0) (n := 4) (fun i σ H' => ∃ v3 v4 v5 v6 v7 v8 v9 v10 v11 v12 v13 : Option V, σ = [some (.ref a0), some (.ref p), some (.ref fl), v3, v4, v5, v6, v7, v8, v9, v10, v11, v12, v13] ∧ Ld K H' p l fl a b (12 + 230 * i)) ⟨none, none, none, none, none, none, none, none, none, none, none, rfl, S2⟩ ?_ ?_⟩
    · rintro i σ A0 hi ⟨v3, v4, v5, v6, v7, v8, v9, v10, v11, v12, v13, rfl, S0⟩
      refine ⟨_, rfl, _, rfl, p, l, fl, 12 + 230 * i, a, b, rfl, S0.P, by omega, S0.g, S0.n, oa, ob, fun cq H3 cs P3 B3 hcl hgood hkn => ?_⟩
      have S3 := S0.pen P3 B3
      refine ⟨_, rfl, p, cq, cs, rfl, hcl, hgood, fun mb H4 s4 tcm => ?_⟩
      obtain ⟨dxm, tm, hm1, hm2⟩ := id tcm
      refine ⟨_, rfl, mb, dxm, _, rfl, hm1, rfl, mb, cs, rfl, tcm, hgood, fun ab H5 s5 tca => ?_⟩
      refine ⟨sz1000 (by show 0 ≤ 1000; decide), fun o H6 f6 m6 s6 g6 => ?_⟩
      have hcl5 := hcl.keep (LK.same (s4.trans s5))
      have S5 := S3.same (s4.trans s5)
      obtain ⟨cq', xs, eq, ncp, hc, hxs⟩ := id hcl5
      obtain rfl : cq = cq' := by cases eq; rfl
      have lx : xs.length = cs.length := Paired.length hxs
      have no : o ≠ p := by
        obtain ⟨us, hp⟩ := S5.lst
        exact (ne_of_none hp f6).symm
      have fo : H5 o = none := f6
      refine ⟨_, rfl, cq, rfl, ⟨_, SqL.of (s6 _ _ hc)⟩, for_list (xs := xs) (fun j σ H' => ∃ (v8 : Option V) (zs : List V), σ = [some (.ref a0), some (.ref p), some (.ref fl), some (.int (0 + (i : Nat))), some (.ref cq), some (.ref mb), some (.ref ab), some (.ref o), v8, v9, v10, v11, v12, v13] ∧ Same H5 H' ∧ H' o = some (.lst zs) ∧ Paired (RowX p o H') zs (exCs (cs.take j))) ⟨v8, [], rfl, s6, g6, .nil⟩ (fun i σ H' _ ⟨_, _, _, s', _⟩ => SqL.of (s' _ _ hc)) ?_ ?_⟩
      · rintro j v σ H7 hv ⟨v8, zs, rfl, s7, g7, hzs⟩
        have hj : j < cs.length := by
          rw [← lx]
          exact (List.getElem?_eq_some_iff.mp hv).1
        have er : cs[j]? = some cs[j] := List.getElem?_eq_getElem hj
        obtain ⟨u, ys, rfl, nup, hu', hy⟩ := (paired_get hxs hv er).keep (LK.same s7)
        obtain ⟨_, h4, hw⟩ := hgood.rows _ (List.getElem_mem hj)
        have tk := take_snoc er
        generalize cs[j] = r at hy h4 tk
        have ly : ys.length = r.length := Paired.length hy
        refine ⟨_, rfl, .inl ⟨rfl, _, SqL.of g7⟩, ?_⟩
        refine ⟨_, rfl, u, rfl, ⟨_, SqL.of hu'⟩, fun D2 hD2 => ?_⟩
        refine lc_list (xs := ys) (fun j H' => Same H7 H' ∧ ∃ ws : List V, H' D2 = some (.lst ws) ∧ Paired (PrT H') ws (exR (r.take j))) ⟨same_new hD2, [], upd_same, .nil⟩ (fun i H' _ q => SqL.of (q.1 _ _ hu')) ?_ ?_
        · rintro j' y H8 hy1 ⟨s8, ws, g8, hws⟩
          have hj' : j' < r.length := by
            rw [← ly]
            exact (List.getElem?_eq_some_iff.mp hy1).1
          have ex : r[j']? = some r[j'] := List.getElem?_eq_getElem hj'
          obtain ⟨b', rfl, hb⟩ := (paired_get hy hy1 ex).keep (TK.same s8)
          have tj := take_snoc ex
          generalize r[j'] = x at hb tj
          refine ⟨b', _, rfl, SqT.of hb, rfl, _, _, rfl, _, _, rfl, rfl, ?_⟩
          refine ⟨rfl, ?_⟩
          refine ⟨_, rfl, _, rfl, x.2, rfl, fun H9 s9 => ?_⟩
          refine ⟨sz1000 (by show 2 ≤ 1000; decide), fun q H10 f10 s10 g10 => ?_⟩
          have s24 := s9.trans s10
          have g8' := s24 _ _ g8
          have tu : TK H10 (upd H10 D2 (.lst (ws ++ [.ref q]))) := TK.upd g8' fun _ z => nomatch z
          have lw : ws.length = (exR (r.take j')).length := Paired.length hws
          have lw2 : (exR (r.take j')).length ≤ 4 := by
            unfold exR
            rw [List.length_map, List.length_take]
            omega
          refine ⟨ws, g8', Nat.lt_of_le_of_lt (show ws.length ≤ 4 by omega) (by decide), fun b' o e => ?_, ws ++ [.ref q], upd_same, ?_⟩
          · rw [upd_ne (ne_of_none e hD2)]
            exact s24 _ _ (s8 _ _ e)
          · rw [tj]
            have e2 : exR (r.take j' ++ [x]) = exR (r.take j') ++ [(x.1, exW x.2)] := by
              unfold exR
              rw [List.map_append]
              rfl
            rw [e2]
            exact paired_snoc ⟨q, rfl, tu _ _ g10⟩ (pairUp (fun _ _ z => z.keep ((TK.same s24).trans tu)) hws)
        · rintro H8 ⟨s8, ws, g8, hws⟩
          rw [ly, List.take_length] at hws
          have gO := s8 _ _ g7
          have nDo : D2 ≠ o := (ne_of_none g7 hD2).symm
          have nDp : D2 ≠ p := by
            obtain ⟨us, hp⟩ := (S5.same s7).lst
            exact (ne_of_none hp hD2).symm
          have tu : TK H8 (upd H8 o (.lst (zs ++ [.ref D2]))) := TK.upd gO fun _ z => nomatch z
          have lz : zs.length = (exCs (cs.take j)).length := Paired.length hzs
          have lz2 : (exCs (cs.take j)).length ≤ 4 := by
            unfold exCs
            have := hgood.few
            rw [List.length_map, List.length_take]
            omega
          refine ⟨o, _, _, rfl, rfl, gO, Nat.lt_of_le_of_lt (show zs.length ≤ 4 by omega) (by decide), ?_⟩
          refine ⟨_, zs ++ [.ref D2], rfl, fun b' o' e => ?_, upd_same, ?_⟩
          · rw [upd_ne (ne_of_none e fo)]
            exact s8 _ _ (s7 _ _ e)
          · rw [tk]
            have e2 : exCs (cs.take j ++ [r]) = exCs (cs.take j) ++ [exR r] := by
              unfold exCs
              rw [List.map_append]
              rfl
            rw [e2]
            refine paired_snoc ⟨D2, ws, rfl, nDp, nDo, by rw [upd_ne nDo]; exact g8, pairUp (fun _ _ z => z.keep tu) hws⟩ (pairUp (fun _ _ z => z.keep ((TK.same s8).trans tu) fun b us h1 h2 h3 => ?_) hzs)
            rw [upd_ne h3]
            exact s8 _ _ h1
      · rintro σ H7 ⟨v8, zo, rfl, s7, ho7, hzo⟩
        rw [lx, List.take_length] at hzo
        have lzo : zo.length = (exCs cs).length := Paired.length hzo
        have S7 : Ld K H7 p l fl a b (12 + 230 * i + 100) := S5.same s7
        have W7 : Wk K H7 p mb ab cq o cs := ⟨tcm.ext (ExtN.of (s5.trans s7)), tca.ext (ExtN.of s7), hcl5.keep (LK.same s7), o, zo, rfl, no, ho7, pairUp (fun _ _ z => z.l) hzo⟩
        have okE4 : okD 4 (.tuple (csD (exCs cs))) = true := hgood.ex.ok
        obtain ⟨wm, wd, wc⟩ := okD_show okE4
        have eqv1 : PyData.eqvAll (csD cs) (csD cs) = true := by
          have := SeqAt.eqv_refl _ (canLay_t hgood)
          simpa [PyData.eqv] using this
        obtain ⟨dxa, ta, ha7, qa, za, eqa, hqa, hza⟩ := id W7.a
        cases eqa
        have np7 : NoT p H7 := by
          obtain ⟨us, hp⟩ := S7.lst
          exact NoT.of hp
        refine ⟨_, rfl, ab, _, dxa, _, _, rfl, ha7, T.clsT, T.naT, rfl, ta, _, rfl, csT_dp hgood.ex hqa hza np7, wm, wd, wc, ?_⟩
        refine ⟨_, rfl, o, rfl, ⟨_, SqL.of ho7⟩, fun D1 hD => ?_⟩
        refine lc_list (xs := zo) (fun i H' => Same H7 H' ∧ ∃ zs : List V, H' D1 = some (.lst zs) ∧ Paired (RowT H') zs ((exCs cs).take i)) ⟨same_new hD, [], upd_same, .nil⟩ (fun i H' _ q => SqL.of (q.1 _ _ ho7)) ?_ ?_
        · rintro i v H1' hv ⟨s1', zs, g1', hzs⟩
          have hi : i < (exCs cs).length := by
            rw [← lzo]
            exact (List.getElem?_eq_some_iff.mp hv).1
          have er : (exCs cs)[i]? = some (exCs cs)[i] := List.getElem?_eq_getElem hi
          obtain ⟨u, ys, rfl, _, hu', hy⟩ := (paired_get (pairUp (fun _ _ z => RowX.l z) hzo) hv er).keep (LK.same s1')
          have tk := take_snoc er
          generalize (exCs cs)[i] = r at hy tk
          refine ⟨rfl, _, rfl, u, ys, rfl, .inl ⟨SqL.of hu', fun l' hl' => ?_⟩⟩
          have s3' := same_new (o := .tup ys) hl'
          have g3' : (upd H1' l' (.tup ys)) l' = some (.tup ys) := upd_same
          generalize upd H1' l' (.tup ys) = H3' at s3' g3' ⊢
          have gD' := s3' _ _ g1'
          have tu : TK H3' (upd H3' D1 (.lst (zs ++ [.ref l']))) := TK.upd gD' fun _ z => nomatch z
          have lz : zs.length = ((exCs cs).take i).length := Paired.length hzs
          have lz2 : ((exCs cs).take i).length ≤ 4 := by
            have := hgood.ex.few
            rw [List.length_take]
            omega
          refine ⟨zs, gD', Nat.lt_of_le_of_lt (show zs.length ≤ 4 by omega) (by decide), fun b' o e => ?_, zs ++ [.ref l'], upd_same, ?_⟩
          · rw [upd_ne (ne_of_none e hD)]
            exact s3' _ _ (s1' _ _ e)
          · rw [tk]
            exact paired_snoc ⟨l', ys, rfl, tu _ _ g3', pairUp (fun _ _ z => z.keep ((TK.same s3').trans tu)) hy⟩ (pairUp (fun _ _ z => z.keep ((TK.same s3').trans tu)) hzs)
        · rintro H1' ⟨s1', zs, g1', hzs⟩
          rw [lzo, List.take_length] at hzs
          refine ⟨D1, zs, rfl, .inl ⟨SqL.of g1', fun t' ht' => ?_⟩⟩
          have s2' := same_new (o := .tup zs) ht'
          have g2' : (upd H1' t' (.tup zs)) t' = some (.tup zs) := upd_same
          generalize upd H1' t' (.tup zs) = HT at s2' g2' ⊢
          have hzs' := pairUp (fun _ _ z => RowT.keep (TK.same s2') z) hzs
          have sT : Same H7 HT := s1'.trans s2'
          clear s1' s2' hzs g1'
          have S8 := S7.same sT
          have W8 := W7.ext (ExtN.of sT)
          have nt : NoT p HT := by
            obtain ⟨us, hp⟩ := S8.lst
            exact NoT.of hp
          refine ⟨t', _, rfl, csT_dp hgood.ex g2' hzs' nt, wm, wd, wc, rfl, ?_⟩
          refine ⟨_, rfl, ite2 (fun h => absurd h (by simp)) (fun _ => ?_)⟩
          obtain ⟨dxb, tb', ha8, _⟩ := id W8.a
          refine ⟨_, rfl, ab, dxb, _, rfl, ha8, rfl, ab, exCs cs, rfl, W8.a, hgood.ex, fun bb HB sB tcb => ?_⟩
          rw [exCs_two] at tcb
          have S9 := S8.same sB
          have W9 := W8.ext (ExtN.of sB)
          have nb : NoT p HB := by
            obtain ⟨us, hp⟩ := S9.lst
            exact NoT.of hp
          obtain ⟨dxc, tc', hb9, _⟩ := id tcb
          obtain ⟨dxd, td', hm9, _⟩ := id W9.m
          refine ⟨_, rfl, bb, dxc, _, .ref (ga K "Test"), rfl, hb9, testTy (p := p) T hm9, T.nfT, p, bb, .ref mb, csD cs, rfl, TestC.at_ nb tcb, .inl ⟨mb, csD cs, rfl, TestC.at_ nb W9.m, shaped_cs hgood, shaped_cs hgood, ?_⟩⟩
          rw [eqv1]
          refine ⟨_, rfl, iteF ?_⟩
          clear tcb hb9 hm9 ha8
          refine ⟨12, rfl, by decide, by decide, for_range (lo := 0) (n := 12) (fun j σ H' => ∃ v8 v9 v10 v11 v12 v13 : Option V, σ = [some (.ref a0), some (.ref p), some (.ref fl), some (.int (0 + (i : Nat))), some (.ref cq), some (.ref mb), some (.ref ab), some (.ref o), v8, v9, v10, v11, v12, v13] ∧ Ld K H' p l fl a b (12 + 230 * i + 100 + 9 * j) ∧ Wk K H' p mb ab cq o cs) ⟨v8, v9, v10, v11, v12, v13, rfl, S9, W9⟩ ?_ ?_⟩
          · rintro j σ G0 hj ⟨v8, v9, v10, v11, v12, v13, rfl, R0, V0⟩
            refine ⟨_, rfl, _, rfl, p, l, fl, 12 + 230 * i + 100 + 9 * j, a, b, rfl, R0.P, by omega, R0.g, R0.n, fun tq G1 tr ks ntp mt ft Pq Bq htr d1 d2 lks => ?_⟩
            have Q1 := R0.pen Pq Bq
            have V1 : Wk K G1 p mb ab cq o cs := by
              obtain ⟨us, hp⟩ := R0.lst
              exact V0.but Bq hp
            refine fun bq G2 f2' m2' s2' g2' => ?_
            obtain ⟨kvs, hq1, ekv, hval⟩ := htr
            have hq2 := s2' _ _ hq1
            have nbt : tq ≠ bq := ne_of_none hq1 f2'
            have lkv : kvs.length = ks.length := by
              have := congrArg List.length ekv
              rw [List.length_map, List.length_map] at this
              exact this
            refine ⟨tq, .dK kvs, hq2, trivial, fun od => ?_⟩
            have b3 : But tq G2 (upd G2 tq (.frz od (.dK kvs))) := But.upd
            have hq3 : (upd G2 tq (.frz od (.dK kvs))) tq = some (.frz od (.dK kvs)) := upd_same
            generalize upd G2 tq (.frz od (.dK kvs)) = G3 at b3 hq3 ⊢
            have g3 := b3 _ _ g2' nbt.symm
            refine ⟨_, rfl, tq, od, rfl, .inl ⟨kvs, hq3, for_it walk_keys (fun m σ H' => ∃ (v10 : Option V) (kvs' : List (Key × V)) (ks' : List Str) (tr' : Str → Bool), σ = [some (.ref a0), some (.ref p), some (.ref fl), some (.int (0 + (i : Nat))), some (.ref cq), some (.ref mb), some (.ref ab), some (.ref o), v8, v9, v10, some (.int (0 + (j : Nat))), some (.ref tq), some (.ref bq)] ∧ But bq G3 H' ∧ H' bq = some (.dK kvs') ∧ TrK kvs' ks' tr' ∧ (∀ z ∈ ks.take m, exW z ∈ ks') ∧ (∀ y ∈ ks', ∃ z ∈ ks, y = exW z) ∧ kvs'.length ≤ m)
              ⟨v10, [], [], fun _ => true, rfl, (fun _ _ e _ => e), g3, ⟨rfl, fun _ h => nomatch h⟩, (fun _ h => nomatch h), (fun _ h => nomatch h), Nat.le_refl _⟩ (fun m σ H' _ ⟨_, _, _, _, _, B, _⟩ => B _ _ hq3 nbt) ?_ ?_⟩⟩
            · rintro m x σ G4 G4' hm ⟨v10, kvs', ks', tr', rfl, B4, g4, tk', e1, e2, lk'⟩ ⟨rfl, kk, v, hk, rfl⟩
              obtain ⟨z, hz, rfl⟩ : ∃ z, ks[m]? = some z ∧ kk = .inr z := by
                have h1 : (kvs.map (·.1))[m]? = some kk := by rw [List.getElem?_map, hk]; rfl
                rw [ekv, List.getElem?_map] at h1
                cases h2 : ks[m]? with
                | none =>
                  rw [h2] at h1
                  cases h1
                | some z =>
                  rw [h2] at h1
                  cases h1
                  exact ⟨z, rfl, rfl⟩
              have hzk := List.mem_of_getElem? hz
              refine ⟨_, rfl, _, rfl, tq, _, rfl, .inl ⟨kvs, .inr z, .inr ⟨od, B4 _ _ hq3 nbt⟩, rfl, (hval z hzk).symm⟩, ?_⟩
              refine ⟨_, rfl, _, rfl, z, rfl, fun G5 s5' => ?_⟩
              have g5 := s5' _ _ g4
              refine ⟨bq, _, rfl, DPut.k (k := .inr (exW z)) g5 (Nat.lt_of_le_of_lt (show kvs'.length ≤ 9 by omega) (by decide)), ?_⟩
              obtain ⟨ks2, tr2, t1, t2, t3, t4⟩ := tk'.put (exW z) (tr z)
              refine ⟨_, _, ks2, tr2, rfl, fun b' o' hb n => ?_, upd_same, t1, fun y hy => ?_, fun y hy => ?_, ?_⟩
              · rw [upd_ne n]
                exact s5' _ _ (B4 _ _ hb n)
              · rw [take_snoc hz] at hy
                rcases List.mem_append.mp hy with q | q
                · exact t3 _ (e1 _ q)
                · rw [List.mem_singleton.mp q]
                  exact t2
              · rcases t4 y hy with q | q
                · exact ⟨z, hzk, q⟩
                · exact e2 _ q
              · have := length_putK kvs' (.inr (exW z)) (V.bl (tr z))
                omega
            · rintro σ G4 ⟨v10, kvs', ks', tr', rfl, B4, g4, tk', e1, e2, lk'⟩
              rw [lkv, List.take_length] at e1
              refine ⟨B4 _ _ hq3 nbt, ?_⟩
              have sG : Same G1 (upd G4 tq (.dK kvs)) := fun b' o' e => by
                by_cases hb : b' = tq
                · rw [hb, upd_same, ← hq1, ← hb]
                  exact e
                · rw [upd_ne hb]
                  exact B4 _ _ (b3 _ _ (s2' _ _ e) hb) (ne_of_none e f2')
              have q5 : (upd G4 tq (.dK kvs)) tq = some (.dK kvs) := upd_same
              have b5 : (upd G4 tq (.dK kvs)) bq = some (.dK kvs') := by
                rw [upd_ne nbt.symm]
                exact g4
              generalize upd G4 tq (.dK kvs) = G5 at sG q5 b5 ⊢
              have Q5 := Q1.same sG
              have V5 := V1.ext (ExtN.of sG)
              obtain ⟨dm, t5, hm5, hc5⟩ := id V5.m
              have kn5 : Knows ks cs := fun r hr x hx => d1 _ (hkn r hr x hx)
              have ok5 : ∀ z ∈ ks, OkW z := fun z hz => dom_ok oa ob _ (d2 _ hz)
              refine ⟨_, rfl, _, rfl, _, rfl, p, mb, cq, tq, dm, t5, cs, tr, ks, rfl, hm5, hc5, V5.c, ⟨kvs, q5, ekv, hval⟩, kn5, hgood.few6, fun z hz => (ok5 z hz).2, Q5.t, fun G6 e6 T6 => ?_⟩
              have Q6 := Q5.ext e6 T6
              have V6 := V5.ext e6
              obtain ⟨da, t6, ha6, hc6⟩ := id V6.a
              refine ⟨_, rfl, ?_⟩
              refine ⟨_, rfl, _, rfl, _, rfl, p, ab, o, bq, da, t6, exCs cs, tr', ks', rfl, ha6, hc6, V6.o, ⟨kvs', e6 _ _ b5 (fun _ z => nomatch z), tk'.1, tk'.2⟩, kn5.ex e1, hgood.ex.few6, fun y hy => ?_, Q6.t, fun G7 e7 T7 => ?_⟩
              · obtain ⟨z, hz, rfl⟩ := e2 y hy
                exact (exW_ok (ok5 z hz)).2
              have Q7 := Q6.ext e7 T7
              have V7 := V6.ext e7
              refine ⟨_, rfl, ?_⟩
              exact ⟨_, _, _, _, _, _, rfl, Q7.mono (by omega), V7⟩
          · rintro σ G0 ⟨v8, v9, v10, v11, v12, v13, rfl, R0, V0⟩
            have okM4 : okD 4 (.tuple (csD cs)) = true := hgood.ok
            obtain ⟨um, ud, uc⟩ := okD_show okM4
            obtain ⟨dm, tm', hm0, qm, zm, eqm, hqm, hzm⟩ := id V0.m
            cases eqm
            have np0 : NoT p G0 := by
              obtain ⟨us, hp⟩ := R0.lst
              exact NoT.of hp
            obtain ⟨cq2, xs2, eq2, _, hc2, hxs2⟩ := id V0.c
            obtain rfl : cq = cq2 := by cases eq2; rfl
            have lx2 : xs2.length = cs.length := Paired.length hxs2
            refine ⟨_, rfl, mb, _, dm, _, _, rfl, hm0, T.clsT, T.naT, rfl, tm', _, rfl, csT_dp hgood hqm hzm np0, um, ud, uc, ?_⟩
            refine ⟨_, rfl, cq, rfl, ⟨_, SqL.of hc2⟩, fun D1 hD => ?_⟩
            refine lc_list (xs := xs2) (fun i H' => Same G0 H' ∧ ∃ zs : List V, H' D1 = some (.lst zs) ∧ Paired (RowT H') zs ((cs).take i)) ⟨same_new hD, [], upd_same, .nil⟩ (fun i H' _ q => SqL.of (q.1 _ _ hc2)) ?_ ?_
            · rintro i v H1' hv ⟨s1', zs, g1', hzs⟩
              have hi : i < (cs).length := by
                rw [← lx2]
                exact (List.getElem?_eq_some_iff.mp hv).1
              have er : (cs)[i]? = some (cs)[i] := List.getElem?_eq_getElem hi
              obtain ⟨u, ys, rfl, _, hu', hy⟩ := (paired_get hxs2 hv er).keep (LK.same s1')
              have tk := take_snoc er
              generalize (cs)[i] = r at hy tk
              refine ⟨rfl, _, rfl, u, ys, rfl, .inl ⟨SqL.of hu', fun l' hl' => ?_⟩⟩
              have s3' := same_new (o := .tup ys) hl'
              have g3' : (upd H1' l' (.tup ys)) l' = some (.tup ys) := upd_same
              generalize upd H1' l' (.tup ys) = H3' at s3' g3' ⊢
              have gD' := s3' _ _ g1'
              have tu : TK H3' (upd H3' D1 (.lst (zs ++ [.ref l']))) := TK.upd gD' fun _ z => nomatch z
              have lz : zs.length = ((cs).take i).length := Paired.length hzs
              have lz2 : ((cs).take i).length ≤ 4 := by
                have := hgood.few
                rw [List.length_take]
                omega
              refine ⟨zs, gD', Nat.lt_of_le_of_lt (show zs.length ≤ 4 by omega) (by decide), fun b' o e => ?_, zs ++ [.ref l'], upd_same, ?_⟩
              · rw [upd_ne (ne_of_none e hD)]
                exact s3' _ _ (s1' _ _ e)
              · rw [tk]
                exact paired_snoc ⟨l', ys, rfl, tu _ _ g3', pairUp (fun _ _ z => z.keep ((TK.same s3').trans tu)) hy⟩ (pairUp (fun _ _ z => z.keep ((TK.same s3').trans tu)) hzs)
            · rintro H1' ⟨s1', zs, g1', hzs⟩
              rw [lx2, List.take_length] at hzs
              refine ⟨D1, zs, rfl, .inl ⟨SqL.of g1', fun t' ht' => ?_⟩⟩
              have s2' := same_new (o := .tup zs) ht'
              have g2' : (upd H1' t' (.tup zs)) t' = some (.tup zs) := upd_same
              generalize upd H1' t' (.tup zs) = HT at s2' g2' ⊢
              have hzs' := pairUp (fun _ _ z => RowT.keep (TK.same s2') z) hzs
              have sT : Same G0 HT := s1'.trans s2'
              clear s1' s2' hzs g1'
              have nt : NoT p HT := by
                obtain ⟨us, hp⟩ := (R0.same sT).lst
                exact NoT.of hp
              refine ⟨t', _, rfl, csT_dp hgood g2' hzs' nt, um, ud, uc, rfl, ?_⟩
              refine ⟨_, rfl, ite2 (fun h => absurd h (by simp)) (fun _ => ?_)⟩
              exact ⟨_, _, _, _, _, _, _, _, _, _, _, rfl, (R0.same sT).mono (by omega)⟩
    · rintro σ A0 ⟨v3, v4, v5, v6, v7, v8, v9, v10, v11, v12, v13, rfl, S0⟩
      exact k A0
end
end K12
namespace K12
open PySem PySem.Spec PyProof.Rows L2 He Tw
abbrev R : PySem.W.OpenRow := PySem.W.OpenLaw.row PySem.Challenge.rw_twoheads_k12_words_asked
def ls : List (Fg → Addr) := [fun K => ga K "_law_right", fun K => ga K "_law_falls"]
abbrev hk : PySem.W.Hook := hookZT 6 fs fn ts ls
def ob (s : PySem.W.SharedT) : AlZT := obsZTG 6 fs fn ts ls (HandSHeadRun.getT s)
theorem ob_eq (s : PySem.W.SharedT) : ob s = hk.obs s.abs := obsZTG_eq (HandSHeadRun.getT_eq s)
def others : List Str := clss ++ fnames.dropLast ++ (["LONGEST", "LETTERS", "LIMIT", "SIDES", "ORDERS", "NEWS", "RESERVED", "EXCHANGED", "_wall", "case_text", "read_cases", "read_case", "read_pair"] : List Str)
theorem run_f (w : World) : HandSHeadRun.RunEq R (PySem.W.view R.prog [45]) hk ob 9000 others (w.withFollow "special-get-raises" false) := by
  intro os
  kernel_rfl
theorem run_t (w : World) : HandSHeadRun.RunEq R (PySem.W.view R.prog [45]) hk ob 9000 others (w.withFollow "special-get-raises" true) := by
  intro os
  kernel_rfl
theorem run (w : World) : HandSHeadRun.RunEq R (PySem.W.view R.prog [45]) hk ob 9000 others w := PySem.W.byRow2 "special-get-raises" run_f run_t w
theorem facts {P : Program} {w : World} {K : Fg} {h : Heap} {mg : Str → Option Value} (X : K.In h) (G : h.Ns mainGlobals mg) (c : SaysZ fs fn K) (d : SaysZT ts w K) :
    ∃ (u : FuncData), Txt K mg ∧ (∀ (s : Shared) (v : Value), BindsTo s u ⟨[v], []⟩ [("_law_script", v)]) ∧ ∀ base : Heap, K.In base → base.Ns mainGlobals mg → (∀ p ∈ csZ ls K, LamX.TabB base mg p.1 p.2) → FnG P w K mg base CX0 16 (ga K "law") u ["_law_script"] (spLaw K) := by
  obtain ⟨fd, D⟩ := c.defs (d0 := fn.headD (dF "law" 45)) rfl
  obtain ⟨es, n, KD⟩ := d.tab 0
  have T : Txt K mg := ⟨c, fun x hx => He.glo_ok X G hx, fun x hx => He.free_ok X G hx, fun x i hx => He.int_ok X G hx, fun x z hx => He.str_ok X G hx⟩
  have F : FnP K "law" "law" s_law (ga K "law") (fd 24) := D 24 _ rfl
  have b : ∀ (s : Shared) (us : List Value), us.length = (["_law_script"] : List Str).length → BindsTo s (fd 24) ⟨us, []⟩ ((["_law_script"] : List Str).zip us) := FunD.bindsA (ps := ["_law_script"]) F fun _ _ _ _ _ _ us hl => match us, hl with | [_], _ => rfl
  exact ⟨fd 24, T, fun s v => b s [v] rfl, fun base _ _ tb => G_law D KD T (tb _ (List.mem_cons.mpr (.inl rfl))) (tb _ (List.mem_cons_of_mem _ (List.mem_cons.mpr (.inl rfl))))⟩
end K12
open PySem PySem.W PySem.Calls PyProof.Rows
set_option maxHeartbeats 0 in
theorem PySem.Challenge.cw_twoheads_k12_words_asked_holds : PySem.Challenge.rw_twoheads_k12_words_asked.Holds := by
  w_on; o_law
  refine HandSHeadRun.head_any (r := OpenLaw.row PySem.Challenge.rw_twoheads_k12_words_asked) (q := view (OpenLaw.row PySem.Challenge.rw_twoheads_k12_words_asked).prog [45]) (H := K12.hk) (ob := K12.ob) (M := 9000) (loose := K12.others) (d := HandSHeadRun.topDef (OpenLaw.row PySem.Challenge.rw_twoheads_k12_words_asked).prog 45) (kwd := []) K12.ob_eq
    (by kernel_rfl) (fun s => by kernel_rfl) K12.run (by kernel_rfl) (by kernel_rfl) (by kernel_rfl) (by rfl) (by first | assumption | decide +kernel) (by decide +kernel) ⟨rfl, rfl, rfl, rfl, rfl, by decide +kernel⟩ ?hw ?hc
  case hw => w_witness2
  case hc =>
    refine Tw.walk_ofTsG (l := PySem.Challenge.rw_twoheads_k12_words_asked) (n := 63) (k := 16) (x := "_law_script") (CX := fun _ => L2.CX0) rfl (by decide) (by kernel_rfl) ⟨rfl, by decide, by decide⟩ ?F (fun _ _ _ _ _ z => z)
    intro w mg fa h Y G hmg0
    obtain ⟨K, KX, c, tabs, dd⟩ := Y
    have hmg : mg ("law" : PySem.Str) = some (.ref fa) := by
      have e : (HandSHeadRun.topDef (OpenLaw.row PySem.Challenge.rw_twoheads_k12_words_asked).prog 45).name = ("law" : PySem.Str) := by kernel_rfl
      rw [← e]
      exact hmg0
    obtain ⟨fd, T, hb, hF⟩ := K12.facts (P := (PySem.Challenge.rw_twoheads_k12_words_asked).prog) (w := w) KX G c dd
    have T0 : mg ("law" : PySem.Str) = some (.ref (He.ga K "law")) := T.fn (x := "law") (by decide +kernel)
    have ef : fa = He.ga K "law" := by
      rw [hmg] at T0
      exact Value.ref.inj (Option.some.inj T0)
    subst ef
    have tb : ∀ f ∈ K12.ls, Tw.tabB K (f K) = true := fun f hf => by
      simp only [K12.ls, List.mem_cons, List.not_mem_nil, or_false] at hf
      rcases hf with rfl | rfl
      · exact T.tab1
      · exact T.tab2
    refine ⟨K, KX, fd, Tw.csZ K12.ls K, K12.spLaw K, fun p hp => ?_, fun p hp => ?_, fun p hp => ?_, hb, fun H a ns hl _ hH hS => ⟨a, ns, rfl, hS, hl, fun q hq => ?_, fun _ => rfl⟩, hF⟩
    · obtain ⟨f, hf, rfl⟩ := List.mem_map.mp hp
      exact Tw.isTab_ok (tabs f hf)
    · obtain ⟨f, hf, rfl⟩ := List.mem_map.mp hp
      exact Option.isNone_iff_eq_none.mp (Bool.and_eq_true_iff.mp (tb f hf)).2
    · obtain ⟨f, hf, rfl⟩ := List.mem_map.mp hp
      exact PySem.W.codeHd_of_K KX (Bool.and_eq_true_iff.mp (tb f hf)).1
    · simp only [K12.Tb, List.mem_cons, List.not_mem_nil, or_false] at hq
      rcases hq with rfl | rfl
      · exact LamX.TabS.nil (hH _ (List.mem_cons.mpr (.inl rfl)))
      · exact LamX.TabS.nil (hH _ (List.mem_cons_of_mem _ (List.mem_cons.mpr (.inl rfl))))
#print axioms PySem.Challenge.cw_twoheads_k12_words_asked_holds
